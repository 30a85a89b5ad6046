/- Walk of resume. -/
import Derived.Test.YthkblabpiajbhaaDoorRetake
import Derived.Test.YthkblabpiajbhaaDoorPuts
namespace Go.Proofs.YthkblabpiajbhaaDoor
open Go.RowKit Lib

/-- A log while it is opened: j groups are taken up. -/
def mid (ring : Nat) (H : List Wl.Text) (a n : Nat) (gs : List Wl.Grp) (d : Dk.Disk) (j : Nat) : Wl.Lg := Wl.opened ring H a n (gs.take j) d
theorem mid_zero (ring : Nat) (H : List Wl.Text) (a n : Nat) (gs : List Wl.Grp) (d : Dk.Disk) (ha : a < ring) : mid ring H a n gs d 0 = ⟨ring, H.length, a, n, 0, [], false, d⟩ := by
  simp only [mid, Wl.opened, List.take_zero, Wl.total, List.map_nil, List.sum_nil, Nat.add_zero, Nat.mod_eq_of_lt ha, List.length_nil]
  rfl
theorem mid_all (ring : Nat) (H : List Wl.Text) (a n : Nat) (gs : List Wl.Grp) (d : Dk.Disk) : mid ring H a n gs d gs.length = Wl.opened ring H a n gs d := by rw [mid, List.take_length]
theorem mid_take (ring : Nat) (H : List Wl.Text) (a n : Nat) (gs : List Wl.Grp) (d : Dk.Disk) (j : Nat) (hj : j < gs.length) : (mid ring H a n gs d j).take gs[j] = mid ring H a n gs d (j + 1) := by
  have ht : Wl.total (gs.take (j + 1)) = Wl.total (gs.take j) + Wl.sizeOf gs[j].length := by
    rw [List.take_succ_eq_append_getElem hj, Wl.total_append, Wl.total_one]
  have hgn : Wl.gained (gs.take (j + 1)) = Wl.merge (Wl.gained (gs.take j)) gs[j] := by
    rw [List.take_succ_eq_append_getElem hj, Wl.gained_append]
  have hl : (gs.take (j + 1)).length = (gs.take j).length + 1 := by rw [List.length_take, List.length_take]; omega
  simp only [mid, Wl.opened, Wl.Lg.take, ht, hgn, hl, Nat.mod_add_mod, Nat.add_assoc]
theorem Wl.Laid.at {ring : Nat} {F : List Wl.Text} : ∀ {gs : List Wl.Grp} {a n : Nat} (_ : Wl.Laid ring F a n gs) (j : Nat) (hj : j < gs.length), F[Wl.pos ring (a + Wl.total (gs.take j))]? = some (Dk.full (Wl.head (n + j) gs[j].length)) ∧ ∀ k t, (Wl.putsTexts gs[j])[k]? = some t → F[Wl.pos ring (a + Wl.total (gs.take j) + 1 + k)]? = some (Dk.full t)
  | [], _, _, _, j, hj => by cases hj
  | g :: gs, a, n, h, 0, _ => by
    have ht : Wl.total ((g :: gs).take 0) = 0 := rfl
    rw [ht]
    exact ⟨h.1, h.2.1⟩
  | g :: gs, a, n, h, j + 1, hj => by
    have ih := Wl.Laid.at h.2.2 j (by simpa using hj)
    have ht : Wl.total ((g :: gs).take (j + 1)) = Wl.sizeOf g.length + Wl.total (gs.take j) := by rw [List.take_succ_cons, Wl.total_cons]
    rw [ht]
    have e1 : a + (Wl.sizeOf g.length + Wl.total (gs.take j)) = a + Wl.sizeOf g.length + Wl.total (gs.take j) := by omega
    have e2 : n + (j + 1) = n + 1 + j := by omega
    rw [e1, e2]
    exact ih
theorem total_take_le (gs : List Wl.Grp) (j : Nat) : Wl.total (gs.take j) ≤ Wl.total gs := by
  have := Wl.total_append (gs.take j) (gs.drop j)
  rw [List.take_append_drop] at this
  omega
theorem total_succ_le (gs : List Wl.Grp) (j : Nat) (hj : j < gs.length) : Wl.total (gs.take j) + Wl.sizeOf gs[j].length ≤ Wl.total gs := by
  have := total_take_le gs (j + 1)
  rw [List.take_succ_eq_append_getElem hj, Wl.total_append, Wl.total_one] at this
  exact this
theorem pos_mod' (ring p k : Nat) : Wl.pos ring (p % ring + k) = Wl.pos ring (p + k) := by unfold Wl.pos; rw [Nat.mod_add_mod]
theorem mid_bnd {ring : Nat} {d : Dk.Disk} {a n : Nat} {gs : List Wl.Grp} {H : List Wl.Text} (h : Wl.Good ring d.firm a n gs H) (j : Nat) (hj : j ≤ gs.length) : Bnd (mid ring H a n gs d j) := by
  have h1 := h.r1; have h2 := h.r2; have h3 := h.len; have h4 := h.hmax; have h5 := h.n_max
  have h6 := total_take_le gs j
  have h7 := h.tot
  have hfit : Wl.Fits H.length (Wl.gained (gs.take j)) := Wl.gained_fits fun g hg => (h.fits g (List.mem_of_mem_take hg)).2
  refine ⟨h1, h2, ?_, ?_, ?_, ?_, hfit, ?_, ?_⟩
  · show H.length ≤ _; omega
  · exact Nat.mod_lt _ (by omega)
  · show n + (gs.take j).length < _
    rw [List.length_take]; omega
  · show Wl.total (gs.take j) ≤ _; omega
  · show (Wl.gained (gs.take j)).length ≤ 65536
    exact Nat.le_trans (Wl.fits_length hfit) (by omega)
  · exact h3
theorem mid_stands {ring : Nat} {d : Dk.Disk} {a n : Nat} {gs : List Wl.Grp} {H : List Wl.Text} (h : Wl.Good ring d.firm a n gs H) (ho : d.off = false) (hl : d.loose = []) (j : Nat) (hj : j < gs.length) : Stands (mid ring H a n gs d j) gs[j] := by
  have hnow : d.now = d.firm := by unfold Dk.Disk.now; rw [hl, Dk.puts_nil]
  have hf := h.fits gs[j] (List.getElem_mem hj)
  obtain ⟨l1, l2⟩ := Wl.Laid.at h.laid j hj
  have hlt : (gs.take j).length = j := by rw [List.length_take]; omega
  refine ⟨mid_bnd h j (by omega), hf.1, hf.2, ?_, ?_, ?_, ?_, ?_⟩
  · have := Wl.fits_length hf.2
    have := h.len; have := h.hmax; omega
  · show Wl.sizeOf gs[j].length ≤ ring
    have := total_succ_le gs j hj; have := h.tot; omega
  · show 1 ≤ n + (gs.take j).length
    have := h.n_pos; omega
  · show (d.read (Wl.pos ring ((a + Wl.total (gs.take j)) % ring) : Nat)).1 = Dk.full (Wl.head (n + (gs.take j).length) gs[j].length)
    have e := pos_mod' ring (a + Wl.total (gs.take j)) 0
    rw [Nat.add_zero, Nat.add_zero] at e
    rw [e, Dk.read_at ho (by rw [hnow]; exact l1), hlt]
  · intro k t hk
    show (d.read (Wl.pos ring ((a + Wl.total (gs.take j)) % ring + 1 + k) : Nat)).1 = Dk.full t
    have e := pos_mod' ring (a + Wl.total (gs.take j)) (1 + k)
    rw [← Nat.add_assoc, ← Nat.add_assoc] at e
    rw [e, Dk.read_at ho (by rw [hnow]; exact l2 k t hk)]
theorem good_read {ring : Nat} {d : Dk.Disk} {a n : Nat} {gs : List Wl.Grp} {H : List Wl.Text} (h : Wl.Good ring d.firm a n gs H) (ho : d.off = false) (hl : d.loose = []) {i : Nat} {t : List UInt8} (hi : d.firm[i]? = some t) : (d.read (i : Nat)).1 = t ∧ t.length = 512 := by
  have hnow : d.now = d.firm := by unfold Dk.Disk.now; rw [hl, Dk.puts_nil]
  exact ⟨by rw [Dk.read_at ho (by rw [hnow]; exact hi)], h.all t (List.mem_of_getElem? hi)⟩
theorem mid_next {ring : Nat} {d : Dk.Disk} {a n : Nat} {gs : List Wl.Grp} {H : List Wl.Text} (h : Wl.Good ring d.firm a n gs H) (ho : d.off = false) (hl : d.loose = []) (j : Nat) (hj : j ≤ gs.length) :
    (d.read (Wl.pos ring (mid ring H a n gs d j).place : Nat)).1.length = 512 ∧ ((Wl.readHead (d.read (Wl.pos ring (mid ring H a n gs d j).place : Nat)).1 ring).2.2 && decide ((Wl.readHead (d.read (Wl.pos ring (mid ring H a n gs d j).place : Nat)).1 ring).1 = (mid ring H a n gs d j).num)) = decide (j < gs.length) := by
  by_cases hlt : j < gs.length
  · have hs := mid_stands h ho hl j hlt
    have hg := List.length_pos_iff.2 hs.ne
    have e : (d.read (Wl.pos ring (mid ring H a n gs d j).place : Nat)).1 = Dk.full (Wl.head (mid ring H a n gs d j).num gs[j].length) := hs.head
    have e3 : Wl.readHead (Dk.full (Wl.head (mid ring H a n gs d j).num gs[j].length)) ring = _ := Wl.readHead_head _ _ _ hs.num (by have := hs.bnd.n; omega) hg (by have := hs.size; have := Wl.sizeOf_ge gs[j].length hg; have : (mid ring H a n gs d j).ring = ring := rfl; omega) hs.size h.r2
    rw [e, e3]
    exact ⟨Dk.full_length _ (by rw [Wl.head_length]; decide), by simp [hlt]⟩
  · obtain rfl : j = gs.length := by omega
    have hr : (a + Wl.total gs) % ring < ring := Nat.mod_lt _ (by have := h.r1; omega)
    obtain ⟨t, h1, h2⟩ := (h.old _ hr).next
    have hp : Wl.pos ring (mid ring H a n gs d gs.length).place = 1 + (a + Wl.total gs) % ring := by
      show Wl.pos ring ((a + Wl.total (gs.take gs.length)) % ring) = _
      rw [List.take_length]; unfold Wl.pos; rw [Nat.mod_mod]
    obtain ⟨e1, e2⟩ := good_read h ho hl h1
    rw [hp, e1]
    refine ⟨e2, ?_⟩
    have hn : (mid ring H a n gs d gs.length).num = n + gs.length := by show n + (gs.take gs.length).length = _; rw [List.take_length]
    rw [hn]
    cases hk : (Wl.readHead t ring).2.2 with
    | false => simp
    | true => have := h2 hk; simp [this]
theorem mid_ring {ring : Nat} {d : Dk.Disk} {a n : Nat} {gs : List Wl.Grp} {H : List Wl.Text} (h : Wl.Good ring d.firm a n gs H) (ho : d.off = false) (hl : d.loose = []) (i : Nat) (hi : i < ring) :
    (d.read (Wl.pos ring i : Nat)).1.length = 512 ∧ ringOk (d.read (Wl.pos ring i : Nat)).1 ring (n + gs.length) := by
  have hp : Wl.pos ring i = 1 + i := by unfold Wl.pos; rw [Nat.mod_eq_of_lt hi]
  obtain ⟨t, h1, h2⟩ := h.old i hi
  obtain ⟨e1, e2⟩ := good_read h ho hl h1
  rw [hp, e1]
  refine ⟨e2, ?_⟩
  rcases h2 with h2 | h2 | ⟨m, k, h2, h3⟩
  · exact .inl h2
  · exact .inr (.inl h2)
  · exact .inr (.inr (by rw [h2]; exact ⟨rfl, h3⟩))
/-- The box of the first place, made ahead of what is read. -/
theorem openedA {w w2 X : World} {F FD : Nat → Prop} {b g mb a n : Nat} {s : Wl.Lg} (h : LogP w2 F b g mb FD s) (hm : Moved F w F w2) (hlt : ∀ k, F k → k < w.heap.size) (hb : Blk w2 w.heap.size 55 [.int .i64 0, .int .u64 0])
    (hX : X = (w2.setCell ⟨w.heap.size, 0, none⟩ (.int .i64 a)).setCell ⟨w.heap.size, 1, none⟩ (.int .u64 n)) : LogP X F b g mb FD s ∧ Moved F w F X ∧ Blk X w.heap.size 55 [.int .i64 a, .int .u64 n] ∧ b ≠ w.heap.size ∧ ¬ F w.heap.size := by
  have hbX : But (fun k => k = w.heap.size) w2 X := by rw [hX]; exact ((But.refl (fun k => k = w.heap.size) w2).setCell ⟨w.heap.size, 0, none⟩ _ (fun _ => rfl)).setCell ⟨w.heap.size, 1, none⟩ _ (fun _ => rfl)
  have hqF : ¬ F w.heap.size := fun h => by have := hlt _ h; omega
  exact ⟨h.but hbX (fun k hk e => hqF (e ▸ hk)), ⟨hm.1.trans hbX (fun i hi e => by omega), fun _ h => .inl h⟩, by rw [hX]; exact (hb.set 0 _).set 1 _, fun e => hqF (e ▸ h.fb), hqF⟩
theorem openedB {w w2 X : World} {F FD : Nat → Prop} {b g mb a n : Nat} {s : Wl.Lg} (h : LogP w2 F b g mb FD s) (hm : Moved F w F w2) (hX : X = w2.alloc (.cells #[.int .i64 a, .int .u64 n] 55)) :
    LogP X F b g mb FD s ∧ Moved F w F X ∧ Blk X w2.heap.size 55 [.int .i64 a, .int .u64 n] ∧ b ≠ w2.heap.size ∧ ¬ F w2.heap.size := by
  have hbX : But (fun _ => False) w2 X := by rw [hX]; exact (But.refl _ _).alloc _
  have hqF : ¬ F w2.heap.size := fun hq => by have := h.lt _ hq; omega
  exact ⟨h.but hbX (fun _ _ h => h), hm.trans ⟨hbX.mono (fun _ _ h => h.elim), fun _ h => .inl h⟩, by rw [hX]; exact Blk.new w2 _ _, fun e => hqF (e ▸ h.fb), hqF⟩
set_option maxRecDepth 100000 in
set_option maxHeartbeats 4000000 in
theorem resume_any (w : World) (F : Nat → Prop) (b g ring : Nat) (d : Dk.Disk) (a n : Nat) (gs : List Wl.Grp) (H : List Wl.Text) (hl : Log w F b g ⟨ring, H.length, 0, 0, 0, [], false, d⟩) (hg : Wl.Good ring d.firm a n gs H) (ho : d.off = false) (hlo : d.loose = []) :
    Calls Tryd.prog 18 #[ptr b] w fun e w' => e = .returned (.bool true) ∧ Log w' F b g (Wl.opened ring H a n gs d) ∧ Moved F w F w' := by
  have HL := Lib.hid hl
  have HG := Lib.hid (And.intro hg (And.intro ho hlo))
  have hr2 := hg.r2
  have ha := hg.a_lt
  obtain ⟨mb, FD, hp⟩ := hl
  have hdr : But (fun _ => False) w w.drew := (But.refl _ w).drew
  have HP := Lib.hid (show LogP w.drew F b g mb FD ⟨ring, H.length, 0, 0, 0, [], false, d⟩ ∧ Moved F w F w.drew from ⟨hp.but hdr (fun _ _ h => h), ⟨(But.refl F w).drew, fun _ h => .inl h⟩⟩)
  have c0 : w.drew.cell? ⟨b, 0, none⟩ = some (.pointer (some ⟨g, 0, none⟩)) := HP.out.1.c0
  have c1 : w.drew.cell? ⟨b, 1, none⟩ = some (.int .i64 ring) := HP.out.1.c1
  have hrd : d.read ((0 : Nat) : Int) = (Dk.full (Wl.first d.firm.length ring a n), 0) := Dk.read_at ho (by unfold Dk.Disk.now; rw [hlo, Dk.puts_nil]; exact hg.first)
  have HRD := Lib.hid (show d.read 0 = (Dk.full (Wl.first d.firm.length ring a n), 0) from hrd)
  have hal : But (fun _ => False) w (w.alloc (.cells #[.int .i64 0, .int .u64 0] 55)).drew := ((But.refl _ w).alloc _).drew
  have HPa := Lib.hid (show LogP (w.alloc (.cells #[.int .i64 0, .int .u64 0] 55)).drew F b g mb FD ⟨ring, H.length, 0, 0, 0, [], false, d⟩ ∧ Moved F w F (w.alloc (.cells #[.int .i64 0, .int .u64 0] 55)).drew from ⟨hp.but hal (fun _ _ h => h), ⟨hal.mono (fun _ _ h => h.elim), fun _ h => .inl h⟩⟩)
  have c0a : (w.alloc (.cells #[.int .i64 0, .int .u64 0] 55)).drew.cell? ⟨b, 0, none⟩ = some (.pointer (some ⟨g, 0, none⟩)) := HPa.out.1.c0
  have c1a : (w.alloc (.cells #[.int .i64 0, .int .u64 0] 55)).drew.cell? ⟨b, 1, none⟩ = some (.int .i64 ring) := HPa.out.1.c1
  clear hp hdr ho hlo hrd hg hal
  go_enter Tryd.func18, Tryd.ntmps18
  unfold ptr
  go_wp2_with fail
  go_region_held3 (fun w' => w'.cell? ⟨b, 0, none⟩ = some (.pointer (some ⟨g, 0, none⟩)) ∧ w'.cell? ⟨b, 1, none⟩ = some (.int .i64 ring))
    (first
      | (exact ⟨c0, c1⟩)
      | (exact ⟨c0a, c1a⟩)
      | (exact ⟨d0, d1⟩)
      | go_keep)
    (first
      | (go_at_call 33; refine (held_any _ F b g _ 0 (by first | exact HP.out.1.log | exact HPa.out.1.log)).mono ?_; rintro e w1 ⟨rfl, rfl⟩; rw [HRD.out])
      | (go_at_call 15; refine (size_any _ FD g _ (by first | exact HP.out.1.sec | exact HPa.out.1.sec)).mono ?_; rintro e w1 ⟨rfl, rfl⟩)
      | (go_at_call 34; refine (readFirst_any d.firm.length ring a n (w.alloc (.cells #[.int .i64 0, .int .u64 0] 55)).drew (by have := HG.out.1.hmax; omega) hr2 ha HG.out.1.n_pos (by have := HG.out.1.n_max; omega)).mono ?_; rintro e w2 ⟨rfl, hb2⟩; have HP2 := Lib.hid (show LogP w2 F b g mb FD ⟨ring, H.length, 0, 0, 0, [], false, d⟩ ∧ Moved F w F w2 from ⟨HPa.out.1.below hb2, HPa.out.2.trans ⟨But.of_below hb2 _, fun _ h => .inl h⟩⟩); have d0 : w2.cell? ⟨b, 0, none⟩ = some (.pointer (some ⟨g, 0, none⟩)) := HP2.out.1.c0; have d1 : w2.cell? ⟨b, 1, none⟩ = some (.int .i64 ring) := HP2.out.1.c1; have HBX := Lib.hid (show Blk w2 w.heap.size 55 [.int .i64 0, .int .u64 0] ∧ b ≠ w.heap.size from ⟨Blk.below (show Blk (w.alloc (.cells #[.int .i64 0, .int .u64 0] 55)).drew w.heap.size 55 [.int .i64 0, .int .u64 0] from Blk.new w #[.int .i64 0, .int .u64 0] 55) hb2 (by simp), by have := HL.out.lt b HP.out.1.fb; omega⟩); have e0 : w2.cell? ⟨w.heap.size, 0, none⟩ = some (.int .i64 0) := HBX.out.1.cell rfl; have e1 : w2.cell? ⟨w.heap.size, 1, none⟩ = some (.int .u64 0) := HBX.out.1.cell rfl; have f0 := HBX.out.1.frozen 0; have f1 := HBX.out.1.frozen 1; have hbw := HBX.out.2; have hbw2 := HBX.out.2.symm; clear hb2)
      | (go_at_call 34; refine (readFirst_any d.firm.length ring a n w.drew (by have := HG.out.1.hmax; omega) hr2 ha HG.out.1.n_pos (by have := HG.out.1.n_max; omega)).mono ?_; rintro e w2 ⟨rfl, hb2⟩; have HP2 := Lib.hid (show LogP w2 F b g mb FD ⟨ring, H.length, 0, 0, 0, [], false, d⟩ ∧ Moved F w F w2 from ⟨HP.out.1.below hb2, HP.out.2.trans ⟨But.of_below hb2 _, fun _ h => .inl h⟩⟩); have d0 : w2.cell? ⟨b, 0, none⟩ = some (.pointer (some ⟨g, 0, none⟩)) := HP2.out.1.c0; have d1 : w2.cell? ⟨b, 1, none⟩ = some (.int .i64 ring) := HP2.out.1.c1; have hbw := World.new_ne w2 _ d0; clear hb2))
  all_goals (
    first
    | (obtain ⟨X, hX⟩ : ∃ X, X = (w2.setCell ⟨w.heap.size, 0, none⟩ (.int .i64 a)).setCell ⟨w.heap.size, 1, none⟩ (.int .u64 n) := ⟨_, rfl⟩
       rw [← hX]
       have HX := openedA HP2.out.1 HP2.out.2 HL.out.lt HBX.out.1 hX
       clear hX hbw hbw2 e0 e1 f0 f1 HBX
       generalize w.heap.size = q at HX ⊢)
    | (obtain ⟨X, hX⟩ : ∃ X, X = w2.alloc (.cells #[.int .i64 a, .int .u64 n] 55) := ⟨_, rfl⟩
       rw [← hX]
       have HX := openedB HP2.out.1 HP2.out.2 hX
       clear hX hbw
       generalize w2.heap.size = q at HX ⊢))
  all_goals (
    have HY := Lib.hid HX
    clear c0 c1 c0a c1a d0 d1 HP2 HPa HP HX
    try (rename_i hHeld; clear hHeld)
    have x0 : X.cell? ⟨q, 0, none⟩ = some (.int .i64 a) := HY.out.2.2.1.cell rfl
    have x1 : X.cell? ⟨q, 1, none⟩ = some (.int .u64 n) := HY.out.2.2.1.cell rfl
    have k3 : X.cell? ⟨b, 3, none⟩ = some (.int .i64 0) := HY.out.1.c3
    have k4 : X.cell? ⟨b, 4, none⟩ = some (.int .u64 0) := HY.out.1.c4
    have f3 := HY.out.1.blk.frozen 3
    have f4 := HY.out.1.blk.frozen 4
    go_wp2_with fail
    have s1 := HY.out.1.set 3 (.int .i64 a) ⟨ring, H.length, a, 0, 0, [], false, d⟩ rfl rfl rfl
    have s2 := s1.1.set 4 (.int .u64 n) (mid ring H a n gs d 0) (by rw [mid_zero _ _ _ _ _ _ ha]; rfl) (by rw [mid_zero _ _ _ _ _ _ ha]) (by rw [mid_zero _ _ _ _ _ _ ha])
    have S2 := Lib.hid (And.intro s2.1.log (HY.out.2.1.trans (s1.2.trans s2.2)))
    clear s1 s2 x0 x1 k3 k4 f3 f4)
  all_goals (
    obtain ⟨Y, hY⟩ : ∃ Y, Y = (X.setCell ⟨b, 3, none⟩ (.int .i64 a)).setCell ⟨b, 4, none⟩ (.int .u64 n) := ⟨_, rfl⟩
    rw [← hY] at S2 ⊢
    clear hY
    go_loopw [] (fun wr => ∃ j : Nat, Hid (j ≤ gs.length) ∧ Hid (Log wr F b g (mid ring H a n gs d j) ∧ Moved F w F wr)) (fun wr => n + gs.length - (Go.RowKit.intOf ((wr.cell? ⟨b, 4, none⟩).getD undef)).toNat)
    case atStart => exact ⟨0, Lib.hid (Nat.zero_le _), S2⟩
    case round =>
      obtain ⟨j, hj, hM⟩ := hrel
      have c3 := hM.out.1.c3
      have c4 := hM.out.1.c4
      obtain ⟨t1, t2⟩ := mid_next HG.out.1 HG.out.2.1 HG.out.2.2 j hj.out
      have hbd := mid_bnd HG.out.1 j hj.out
      have HN := Lib.hid (And.intro t1 (And.intro t2 hbd))
      clear t1 t2 hbd
      go_wp2_with fail
      refine (heldInRing_any wr F b g _ _ hM.out.1 HN.out.2.2.r2 (by have := HN.out.2.2.r1; omega) (by have := HN.out.2.2.p; have := HN.out.2.2.r2; omega)).mono ?_
      rintro e w3 ⟨rfl, rfl⟩
      go_wp2_with fail
      refine (isNext_any w3 F b g (mid ring H a n gs d j) _ hM.out.1 HN.out.2.2.r2 (by rw [bs_size]; exact HN.out.1)).mono ?_
      rintro e w4 ⟨rfl, hb4⟩
      have hb := HN.out.2.1
      rw [bs_list]
      change _ = decide (j < gs.length) at hb
      have HB4 := Lib.hid (show Log w4 F b g (mid ring H a n gs d j) ∧ Moved F w F w4 from ⟨hM.out.1.below hb4, hM.out.2.trans ⟨But.of_below hb4 _, fun _ h => .inl h⟩⟩)
      clear hb4 c3
      rw [show ((Wl.readHead ((mid ring H a n gs d j).d.read (Wl.pos (mid ring H a n gs d j).ring (mid ring H a n gs d j).place : Nat)).1 (mid ring H a n gs d j).ring).2.2 && decide ((Wl.readHead ((mid ring H a n gs d j).d.read (Wl.pos (mid ring H a n gs d j).ring (mid ring H a n gs d j).place : Nat)).1 (mid ring H a n gs d j).ring).1 = (mid ring H a n gs d j).num)) = decide (j < gs.length) from hb]
      clear hb
      by_cases hlt : j < gs.length
      · rw [decide_eq_true hlt]
        have HS := Lib.hid (mid_stands HG.out.1 HG.out.2.1 HG.out.2.2 j hlt)
        have HT := Lib.hid (mid_take ring H a n gs d j hlt)
        have HLT := Lib.hid hlt
        generalize gs[j] = x at HS HT
        clear hlt
        go_wp2_with fail
        refine (retake_any w4 F b g (mid ring H a n gs d j) _ HB4.out.1 HS.out).mono ?_
        rintro e w5 ⟨rfl, hL5, hM5⟩
        rw [HT.out] at hL5
        have H5 := Lib.hid (And.intro hL5 (HB4.out.2.trans hM5))
        have c5 := hL5.c4
        clear hL5 hM5
        go_wp2
        go_roundw
        case rel => exact ⟨j + 1, Lib.hid HLT.out, H5⟩
        case measure =>
          rw [c5, c4]
          have e1 : (mid ring H a n gs d (j + 1)).num = n + (j + 1) := by show n + (gs.take (j + 1)).length = _; rw [List.length_take]; have := HLT.out; omega
          have e2 : (mid ring H a n gs d j).num = n + j := by show n + (gs.take j).length = _; rw [List.length_take]; have := HLT.out; omega
          rw [e1, e2]
          have := HLT.out
          simp only [Option.getD_some, Go.RowKit.intOf]
          omega
      · rw [decide_eq_false hlt]
        obtain rfl : j = gs.length := by have := hj.out; omega
        rw [mid_all] at HB4
        clear hlt c4
        go_wp2_with fail
        refine (isRing_any w4 F b g (Wl.opened ring H a n gs d) HB4.out.1 hr2 (by have := HG.out.1.r1; exact (by omega : 1 ≤ ring)) (fun i hi => (mid_ring HG.out.1 HG.out.2.1 HG.out.2.2 i hi).1) (fun i hi => (mid_ring HG.out.1 HG.out.2.1 HG.out.2.2 i hi).2)).mono ?_
        rintro e w5 ⟨rfl, hb5⟩
        have H5 := Lib.hid (show Log w5 F b g (Wl.opened ring H a n gs d) ∧ Moved F w F w5 from ⟨HB4.out.1.below hb5, HB4.out.2.trans ⟨But.of_below hb5 _, fun _ h => .inl h⟩⟩)
        clear hb5
        go_wp2
        go_ret
        exact ⟨rfl, H5.out⟩)
end Go.Proofs.YthkblabpiajbhaaDoor
