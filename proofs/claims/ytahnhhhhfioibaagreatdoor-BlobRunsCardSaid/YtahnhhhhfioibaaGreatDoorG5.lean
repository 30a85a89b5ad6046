/- Elder texts, merged (5). -/
import Derived.Test.YtahnhhhhfioibaaGreatDoorG4
import Derived.Deep.RegionHeld3
import Derived.Laws.CopyOwn
import Derived.StillTailTactics
namespace Go.Proofs.YtahnhhhhfioibaaGreatDoor
open Go.RowKit Lib

theorem Wl.wr_loose (s : Bool × Dk.Disk) (x : Nat × Wl.Text) : (Wl.wr s x).2.loose.length ≤ s.2.loose.length + 1 := by
  unfold Wl.wr
  split
  · omega
  · show (s.2.write x.1 x.2).2.loose.length ≤ _
    unfold Dk.Disk.write
    split
    · exact Nat.le_succ _
    · split
      · exact Nat.le_succ _
      · split
        · exact Nat.le_succ _
        · split
          · first | exact Nat.le_succ _ | exact Nat.zero_le _
          · show (s.2.loose ++ [_]).length ≤ _
            simp
theorem Wl.fl_loose (s : Bool × Dk.Disk) : (Wl.fl s).2.loose.length ≤ s.2.loose.length := by
  unfold Wl.fl
  split
  · omega
  · show s.2.flush.2.loose.length ≤ _
    unfold Dk.Disk.flush
    split
    · exact Nat.le_refl _
    · split
      · first | exact Nat.le_refl _ | exact Nat.zero_le _
      · show ([] : List (Nat × List UInt8)).length ≤ _
        simp
theorem Wl.wrs_loose (ws : List (Nat × Wl.Text)) (s : Bool × Dk.Disk) : (Wl.wrs s ws).2.loose.length ≤ s.2.loose.length + ws.length := by
  induction ws generalizing s with
  | nil => simp [Wl.wrs]
  | cons x ws ih =>
    have := ih (Wl.wr s x)
    have h2 := Wl.wr_loose s x
    rw [List.length_cons]
    show (Wl.wrs (Wl.wr s x) ws).2.loose.length ≤ _
    omega
theorem Moved.other {F F' : Nat → Prop} {w w' : World} {S : Nat → Prop} (h : Moved F w F' w') (hS : ∀ k, k < w.heap.size → S k → ¬ F k) : ∀ k, k < w.heap.size → S k → ¬ F' k := fun k hk hs hf => by
  rcases h.2 k hf with h' | h'
  · exact hS k hk hs h'
  · omega
theorem Wl.ringWrites_length (ring a : Nat) (ts : List Wl.Text) : (Wl.ringWrites ring a ts).length = ts.length := by simp [Wl.ringWrites]
theorem Wl.ringWrites_get (ring a : Nat) (ts : List Wl.Text) (k : Nat) (hk : k < ts.length) : (Wl.ringWrites ring a ts)[k]'(by rw [Wl.ringWrites_length]; exact hk) = (Wl.pos ring (a + 1 + k), ts[k]) := by simp [Wl.ringWrites]
theorem Wl.Lg.with_with (s : Wl.Lg) (r r' : Bool × Dk.Disk) : (s.with r).with r' = s.with r' := rfl
theorem Log.c1 {w : World} {F : Nat → Prop} {b g : Nat} {s : Wl.Lg} (h : Log w F b g s) : w.cell? ⟨b, 1, none⟩ = some (.int .i64 s.ring) := by obtain ⟨_, _, h⟩ := h; exact h.c1
theorem Log.c3 {w : World} {F : Nat → Prop} {b g : Nat} {s : Wl.Lg} (h : Log w F b g s) : w.cell? ⟨b, 3, none⟩ = some (.int .i64 s.place) := by obtain ⟨_, _, h⟩ := h; exact h.c3
theorem Log.c4 {w : World} {F : Nat → Prop} {b g : Nat} {s : Wl.Lg} (h : Log w F b g s) : w.cell? ⟨b, 4, none⟩ = some (.int .u64 s.num) := by obtain ⟨_, _, h⟩ := h; exact h.c4
theorem Log.c5 {w : World} {F : Nat → Prop} {b g : Nat} {s : Wl.Lg} (h : Log w F b g s) : w.cell? ⟨b, 5, none⟩ = some (.int .i64 s.filled) := by obtain ⟨_, _, h⟩ := h; exact h.c5
theorem Log.c7 {w : World} {F : Nat → Prop} {b g : Nat} {s : Wl.Lg} (h : Log w F b g s) : w.cell? ⟨b, 7, none⟩ = some (.bool s.down) := by obtain ⟨_, _, h⟩ := h; exact h.c7
theorem CMap.len {w : World} {b : Nat} {m : Wl.Grp} (h : CMap w b m) (ty : TypeId) : (Builtin.len_ #[88] ty #[.map (some b)]).run Tryz.prog w = .ok (.int .i64 m.length) w := by
  have := h.1.len underMap ty
  rwa [dat_size] at this
/-- A row of texts of the call's own, cell by cell. -/
theorem OwnS.at {B : Nat} {w : World} {a : Option Addr} {n cap : Nat} {T : List (List UInt8)} (h : OwnS B w (.slice a n cap) T) (k : Nat) (hk : k < T.length) :
    ∃ ga, a = some ⟨ga, 0, none⟩ ∧ B ≤ ga ∧ ga < w.heap.size ∧ w.cell? ⟨ga, k, none⟩ = some (.string (bs T[k])) := by
  obtain ⟨ga, c', e1, e2, e3, _⟩ := Own.form h (by rw [List.length_map]; omega)
  injection e1 with i1 i2 i3
  subst i1
  refine ⟨ga, rfl, e2, e3, ?_⟩
  have := Own.lies h k (.string (bs T[k])) (by rw [show strElem.cells (T.map bs) = (T.map bs).map (fun s => Value.string s) from oneElem_cells _ _ _]; simp [hk])
  rwa [Nat.zero_add] at this
set_option maxRecDepth 100000 in
set_option maxHeartbeats 4000000 in
theorem record_any (w : World) (F : Nat → Prop) (b g gb : Nat) (s : Wl.Lg) (grp : Wl.Grp) (hl : Log w F b g s) (hb : Bnd s) (hg : CMap w gb grp) (hn : ¬ F gb) (hf : Wl.Fits s.homes grp) (hgl : grp.length ≤ 65536) (hlo : s.d.loose.length ≤ 1000000) :
    Calls Tryz.prog 84 #[ptr b, .map (some gb)] w fun e w' => e = .returned (.tuple #[]) ∧ ∃ F', Log w' F' b g (s.record grp) ∧ Moved F w F' w' := by
  have HL := Lib.hid hl
  have HG := Lib.hid hg
  have HN := Lib.hid (And.intro hgl (And.intro hb (And.intro hn (And.intro hf hlo))))
  have hgt := hg.lt
  clear hl hg hgl hb hn hf hlo
  go_enter Tryz.func84, Tryz.ntmps84
  unfold ptr
  go_wp2_with fail
  refine (putsTexts_any w s.homes gb grp HG.out HN.out.2.2.2.1 HN.out.2.1.h HN.out.1).mono ?_
  rintro e w1 ⟨v, rfl, hv, hb1⟩
  obtain ⟨T, hT⟩ : ∃ T, T = Wl.putsTexts grp := ⟨_, rfl⟩
  rw [← hT] at hv
  have HT := Lib.hid hT
  have HTl := Lib.hid (show T.length ≤ 70000 by
    have h1 := Wl.putsTexts_length (homes := s.homes) (g := grp) HN.out.2.2.2.1.2
    rw [← hT] at h1
    have h2 := HN.out.1
    unfold Wl.sizeOf at h1
    omega)
  clear hT
  obtain ⟨a, cap, rfl, hc⟩ := Own.slice hv
  rw [List.length_map] at hv ⊢
  have hr := fun k hk => OwnS.at hv k hk
  have H1 := Lib.hid (show Log w1 F b g s ∧ CMap w1 gb grp from ⟨HL.out.below hb1, HG.out.but (But.of_below hb1 (fun _ => False)) id⟩)
  have HR := Lib.hid hr
  have HW := Lib.hid hb1
  clear hv hb1 hr hc
  go_wp2_with fail
  go_loopw [9] (fun i wr => ∃ k : Nat, k ≤ T.length ∧ i = .int .i64 k ∧ Hid (∃ F', Log wr F' b g (s.with (Wl.wrs (s.down, s.d) ((Wl.ringWrites s.ring s.place T).take k))) ∧ Moved F w1 F' wr)) (fun i _ => T.length - (Go.RowKit.intOf i).toNat)
  case atStart => exact ⟨0, Nat.zero_le _, rfl, Lib.hid ⟨F, H1.out.1, Moved.refl _ _⟩⟩
  case round =>
    obtain ⟨k, hk, rfl, hS⟩ := hrel
    by_cases hlt : k < T.length
    · have hI : (k : Int) < T.length := by omega
      obtain ⟨ga, rfl, hga, hga2, hc⟩ := HR.out k hlt
      obtain ⟨F', hL, hMv⟩ := hS.out
      have hgF : ¬ F ga := fun h => by have := HL.out.lt ga h; omega
      have hc2 := hMv.1.cell hc hgF
      have c3 := hL.c3
      have HLk := Lib.hid (And.intro hlt (And.intro hL hMv))
      have hpI : (s.place : Int) ≤ 4096 := by have := HN.out.2.1.p; have := HN.out.2.1.r2; omega
      have hp0 : (0 : Int) ≤ s.place := by omega
      have hkI : (k : Int) ≤ 70000 := by have := HTl.out; omega
      have hk0 : (0 : Int) ≤ k := by omega
      clear hS hL hMv hc hga hga2 hgF
      change wr.cell? ⟨b, 3, none⟩ = some (.int .i64 s.place) at c3
      go_wp2_with fail
      rw [show ((s.place : Int) + 1 + k) = ((s.place + 1 + k : Nat) : Int) by omega]
      refine (sectorOfRing_any wr F' b g _ _ HLk.out.2.1 HN.out.2.1.r2 (by have := HN.out.2.1.r1; exact (by omega : 1 ≤ s.ring)) (by omega)).mono ?_
      rintro e w2 ⟨rfl, rfl⟩
      go_wp2_with fail
      have hloo := Wl.wrs_loose ((Wl.ringWrites s.ring s.place T).take k) (s.down, s.d)
      rw [List.length_take] at hloo
      refine (lwrite_any _ F' b g _ _ _ HLk.out.2.1 (by
        show (Wl.wrs (s.down, s.d) ((Wl.ringWrites s.ring s.place T).take k)).2.loose.length ≤ _
        have h1 := HN.out.2.2.2.2
        have h2 := HLk.out.1
        have h3 := HTl.out
        have h4 : (s.down, s.d).2.loose.length = s.d.loose.length := rfl
        omega)).mono ?_
      rintro e w3 ⟨rfl, F3, hL3, hM3⟩
      have HL3 := Lib.hid (show ∃ F', Log w3 F' b g (s.with (Wl.wrs (s.down, s.d) ((Wl.ringWrites s.ring s.place T).take (k + 1)))) ∧ Moved F w1 F' w3 by
        refine ⟨F3, ?_, HLk.out.2.2.trans hM3⟩
        rw [Wl.wrs_take _ _ k (by rw [Wl.ringWrites_length]; exact HLk.out.1), Wl.ringWrites_get _ _ _ _ HLk.out.1]
        exact hL3)
      clear hL3 hM3 hloo c3 hc2
      go_wp2
      go_roundw
      case rel => exact ⟨k + 1, by have := HLk.out.1; omega, by go_num, HL3⟩
      case measure => have := HLk.out.1; simp [Go.RowKit.intOf]; omega
    · obtain rfl : k = T.length := by omega
      rw [List.take_of_length_le (by rw [Wl.ringWrites_length]; exact Nat.le_refl _)] at hS
      obtain ⟨F', hL, hMv⟩ := hS.out
      have HL2 := Lib.hid (And.intro hL hMv)
      clear hS hL hMv
      go_wp2_with fail
      refine (lflush_any wr F' b g _ HL2.out.1).mono ?_
      rintro e w3 ⟨rfl, F3, hL3, hM3⟩
      change Log w3 F3 b g (s.with (Wl.fl (Wl.wrs (s.down, s.d) (Wl.ringWrites s.ring s.place T)))) at hL3
      have hM := HL2.out.2.trans hM3
      have hgm : CMap w3 gb grp := H1.out.2.but hM.1 HN.out.2.2.1
      have hlo : (Wl.fl (Wl.wrs (s.down, s.d) (Wl.ringWrites s.ring s.place T))).2.loose.length ≤ 2000000 := by
        refine Nat.le_trans (Wl.fl_loose _) (Nat.le_trans (Wl.wrs_loose _ _) ?_)
        rw [Wl.ringWrites_length]
        have h1 := HN.out.2.2.2.2
        have h3 := HTl.out
        show s.d.loose.length + T.length ≤ _
        omega
      obtain ⟨r, hr⟩ : ∃ r, r = Wl.fl (Wl.wrs (s.down, s.d) (Wl.ringWrites s.ring s.place T)) := ⟨_, rfl⟩
      rw [← hr] at hL3 hlo
      have hln := hgm.len
      have hdr : But (fun _ => False) w3 w3.drew := (But.refl _ w3).drew
      have HL3 := Lib.hid (show Log w3.drew F3 b g (s.with r) ∧ Moved F w1 F3 w3.drew ∧ CMap w3.drew gb grp ∧ r.2.loose.length ≤ 2000000 ∧ r = Wl.fl (Wl.wrs (s.down, s.d) (Wl.ringWrites s.ring s.place T)) from
        ⟨hL3.but hdr (fun _ _ h => h), hM.trans ⟨hdr.mono (fun _ _ h => h.elim), fun _ h => .inl h⟩, hgm.but hdr id, hlo, hr⟩)
      have c3 : w3.cell? ⟨b, 3, none⟩ = some (.int .i64 s.place) := hL3.c3
      have c4 : w3.cell? ⟨b, 4, none⟩ = some (.int .u64 s.num) := hL3.c4
      have hpI : (s.place : Int) ≤ 4096 := by have := HN.out.2.1.p; have := HN.out.2.1.r2; omega
      have hp0 : (0 : Int) ≤ s.place := by omega
      clear hL3 hM3 hM hgm hlo hr hdr
      go_wp2_with fail
      go_region_held3 (fun w' => w'.cell? ⟨b, 3, none⟩ = some (.int .i64 s.place) ∧ w'.cell? ⟨b, 4, none⟩ = some (.int .u64 s.num) ∧ ∀ ty, (Builtin.len_ #[88] ty #[.map (some gb)]).run Tryz.prog w' = .ok (.int .i64 grp.length) w')
        (first
          | (exact ⟨c3, c4, HL3.out.2.2.1.len⟩)
          | (exact ⟨d3, d4, dl⟩)
          | go_keep)
        (first
          | (go_at_call 109; refine (sectorOfRing_any _ F3 b g (s.with r) s.place HL3.out.1 HN.out.2.1.r2 (by have := HN.out.2.1.r1; exact (by omega : 1 ≤ s.ring)) (by omega)).mono ?_; rintro e w4 ⟨rfl, rfl⟩)
          | (go_at_call 116; refine (headText_any s.num grp.length _ (by have := HN.out.2.1.n; omega) (by have := HN.out.1; omega)).mono ?_; rintro e w5 ⟨rfl, hb5⟩; have HL4 := Lib.hid (show Log w5 F3 b g (s.with r) ∧ CMap w5 gb grp ∧ Moved F w1 F3 w5 from ⟨HL3.out.1.below hb5, HL3.out.2.2.1.but (But.of_below hb5 (fun _ => False)) id, HL3.out.2.1.trans ⟨But.of_below hb5 _, fun _ h => .inl h⟩⟩); have d3 : w5.cell? ⟨b, 3, none⟩ = some (.int .i64 s.place) := HL4.out.1.c3; have d4 : w5.cell? ⟨b, 4, none⟩ = some (.int .u64 s.num) := HL4.out.1.c4; have dl := HL4.out.2.1.len; clear hb5)
          | (go_at_call 71; refine (lwrite_any _ F3 b g (s.with r) _ _ HL4.out.1 (by have := HL3.out.2.2.2.1; exact (by omega : r.2.loose.length ≤ 900000000))).mono ?_; rintro e w6 ⟨rfl, F6, hL6, hM6⟩; have HL6 := Lib.hid (show Log w6 F6 b g (s.with (Wl.wr r (Wl.pos s.ring s.place, Wl.head s.num grp.length))) ∧ Moved F w1 F6 w6 ∧ CMap w6 gb grp from ⟨hL6, HL4.out.2.2.trans hM6, HL4.out.2.1.but hM6.1 (HL3.out.2.1.other (S := fun k => k = gb) (fun k _ e => e ▸ HN.out.2.2.1) gb (by have := H1.out.2.lt; omega) rfl)⟩); have d3 : w6.cell? ⟨b, 3, none⟩ = some (.int .i64 s.place) := HL6.out.1.c3; have d4 : w6.cell? ⟨b, 4, none⟩ = some (.int .u64 s.num) := HL6.out.1.c4; have dl := HL6.out.2.2.len; clear hL6 hM6))
      clear d3 d4 dl c3 c4 hln
      go_wp2_with fail
      refine (lflush_any w6 F6 b g _ HL6.out.1).mono ?_
      rintro e w7 ⟨rfl, F7, hL7, hM7⟩
      go_wp2
      refine bodyPost_end (results_none rfl _ _ _) rfl ?_
      refine ⟨rfl, F7, ?_, ?_⟩
      · have hre : s.record grp = (s.with (Wl.wr r (Wl.pos s.ring s.place, Wl.head s.num grp.length))).with (Wl.fl (Wl.wr r (Wl.pos s.ring s.place, Wl.head s.num grp.length))) := by
          rw [HL3.out.2.2.2.2, HT.out]; rfl
        rw [hre]
        exact hL7
      · have hm := HL6.out.2.1.trans hM7
        have hb := HW.out
        have h0 : Moved F w F w1 := ⟨But.of_below hb _, fun _ h => .inl h⟩
        exact h0.trans hm
end Go.Proofs.YtahnhhhhfioibaaGreatDoor

namespace Go.Proofs.YtahnhhhhfioibaaGreatDoor
open Go.RowKit Lib

def Wl.Lg.read (s : Wl.Lg) (i : Int) : Wl.Text × Int :=
  if s.off then ([], 3) else if !s.has i then ([], 2) else match Wl.look i.toNat s.wait with | some t => (t, 0) | none => s.d.read ((1 + s.ring + i.toNat : Nat) : Int)
theorem below_allocC {w w' : World} {Z : Array Value} (h : But (fun k => k = w.heap.size) (w.alloc (.cells Z CT)) w') : Below w.heap.size w w' :=
  Below.but ((Below.refl _ w).alloc (Nat.le_refl _) _) h (by simp) (fun k hk e => by omega)
set_option maxRecDepth 100000 in
set_option maxHeartbeats 4000000 in
theorem lread_any (w : World) (F : Nat → Prop) (b g : Nat) (s : Wl.Lg) (i : Int) (hl : Log w F b g s) (hb : Bnd s) :
    Calls Tryz.prog 25 #[ptr b, .int .i64 i] w fun e w' => e = .returned (.tuple #[.string (bs (s.read i).1), .int .i64 (s.read i).2]) ∧ Below w.heap.size w w' := by
  have HL := Lib.hid hl
  have HB := Lib.hid hb
  obtain ⟨mb, FD, h⟩ := hl
  have c0 := h.c0
  have c6 := h.c6
  have HH := Lib.hid h
  clear h hb
  obtain ⟨Z, hZ⟩ : ∃ Z, Z = (zeros.map bcell).toArray := ⟨_, rfl⟩
  have hz : ∀ w, (zeroValue CT).run Tryz.prog w = .ok (.agg Z) w := fun w => by rw [hZ]; exact zero_CT w
  have hzs : Z.size = 512 := by rw [hZ]; simp [zeros_len]
  have hzn : ¬ Z = #[] := by intro e; rw [e] at hzs; cases hzs
  have HZ := Lib.hid hZ
  clear hZ
  have HS := Lib.hid (show s.read i = if s.off then ([], 3) else if !s.has i then ([], 2) else match Wl.look i.toNat s.wait with | some t => (t, 0) | none => s.d.read ((1 + s.ring + i.toNat : Nat) : Int) from rfl)
  go_enter Tryz.func25, Tryz.ntmps25
  unfold ptr
  go_wp2_with fail
  refine (ldown_any w F b g s HL.out).mono ?_
  rintro e w1 ⟨rfl, rfl⟩
  by_cases ho : s.off = true
  · rw [ho]
    have HE := Lib.hid (show s.read i = ([], 3) by rw [HS.out, if_pos ho])
    clear ho HS
    go_wp2
    go_ret2
    exact ⟨by rw [HE.out]; rfl, Below.refl _ _⟩
  · have ho' : s.off = false := by simpa using ho
    have HS := Lib.hid (show s.read i = if !s.has i then ([], 2) else match Wl.look i.toNat s.wait with | some t => (t, 0) | none => s.d.read ((1 + s.ring + i.toNat : Nat) : Int) by rw [HS.out, if_neg ho])
    rw [ho']
    clear ho ho'
    go_wp2_with fail
    refine (lhas_any w1 F b g s i HL.out).mono ?_
    rintro e w1 ⟨rfl, rfl⟩
    by_cases hh : s.has i = true
    · rw [hh]
      have HS := Lib.hid (show s.read i = match Wl.look i.toNat s.wait with | some t => (t, 0) | none => s.d.read ((1 + s.ring + i.toNat : Nat) : Int) by rw [HS.out, if_neg (by rw [hh]; decide)])
      have hat : 0 ≤ i ∧ i < s.homes := by simpa [Wl.Lg.has] using hh
      obtain ⟨n, rfl⟩ : ∃ n : Nat, i = n := ⟨i.toNat, by omega⟩
      rw [Int.toNat_natCast] at HS
      have hn6 : n ≤ 1000000 := by have := HB.out.h; omega
      have HN6 := Lib.hid hn6
      obtain ⟨r, hr⟩ : ∃ r, w1.heap.size = r := ⟨_, rfl⟩
      clear hh hat
      cases hlk : Wl.look n s.wait with
      | some t =>
        obtain ⟨hat, ht⟩ := CMap.look_some HH.out.mp hn6 hlk
        have HE := Lib.hid (show s.read (n : Int) = (t, 0) by rw [HS.out, hlk])
        have HHt := Lib.hid ht
        clear HS hlk ht hn6
        go_wp2_with (first
          | (refine wpList_storeC rfl _ _ rfl r t zeros rfl rfl HHt.out (by rw [← hr]; exact CBlk.new w1 Z HZ.out) ?_; intro w5 hc5 hb5; have hxs := slice_CT w5 r; have hbk := hc5.back; have H5 := Lib.hid hb5; clear hb5 hc5)
          | fail)
        go_ret2
        exact ⟨by rw [HE.out]; rfl, below_allocC (by rw [hr]; exact H5.out)⟩
      | none =>
        have hat := CMap.look_none HH.out.mp hn6 hlk
        have HE := Lib.hid (show s.read (n : Int) = s.d.read ((1 + s.ring + n : Nat) : Int) by rw [HS.out, hlk])
        clear HS hlk hn6
        go_wp2_with (first
          | (refine wpList_storeC rfl _ _ rfl r zeros zeros rfl rfl zeros_len (by rw [← hr]; exact CBlk.new w1 Z HZ.out) ?_; intro w5 hc5 hb5; have H5 := Lib.hid (below_allocC (show But (fun k => k = w1.heap.size) (w1.alloc (.cells Z CT)) w5 by rw [hr]; exact hb5)); clear hb5 hc5)
          | fail)
        have HL5 := Lib.hid (HL.out.below H5.out)
        have HP5 := Lib.hid (HH.out.below H5.out)
        have c0 := HP5.out.c0
        go_quiet (first
          | (go_at_call 58; exact Calls.quiet_of_same (sectorOf_any _ F b g s n (by first | exact HL5.out | exact HL5.out.but ((But.refl (fun _ => False) w5).drewN _) (fun _ _ h => h)) HB.out.r2 HN6.out))
          | (go_at_call 57; exact Calls.quiet_of_same (read_any _ FD g s.d _ (by first | exact HP5.out.sec | exact HP5.out.sec.but ((But.refl (fun _ => False) w5).drewN _) (fun _ _ h => h)))))
        have HE2 := Lib.hid (show s.read (n : Int) = s.d.read (1 + (s.ring : Int) + n) by rw [HE.out, show ((1 + s.ring + n : Nat) : Int) = 1 + (s.ring : Int) + n by omega])
        rw [← HE2.out]
        go_wp2
        go_ret2
        exact ⟨rfl, H5.out.trans ((below_drawn w5 _).mono H5.out.size)⟩
    · have hh' : s.has i = false := by simpa using hh
      have HE := Lib.hid (show s.read i = ([], 2) by rw [HS.out, hh']; rfl)
      rw [hh']
      clear hh hh' HS
      go_wp2
      go_ret2
      exact ⟨by rw [HE.out]; rfl, Below.refl _ _⟩
end Go.Proofs.YtahnhhhhfioibaaGreatDoor

namespace Go.Proofs.YtahnhhhhfioibaaGreatDoor
open Go.RowKit Lib

theorem OwnK.at {B : Nat} {w : World} {a : Option Addr} {n cap : Nat} {T : List Int} (h : Own (intElem .i64) 3 B w (.slice a n cap) T) (k : Nat) (hk : k < T.length) :
    ∃ ga, a = some ⟨ga, 0, none⟩ ∧ B ≤ ga ∧ ga < w.heap.size ∧ w.cell? ⟨ga, k, none⟩ = some (.int .i64 T[k]) := by
  obtain ⟨ga, c', e1, e2, e3, _⟩ := Own.form h (by omega)
  injection e1 with i1 i2 i3
  subst i1
  refine ⟨ga, rfl, e2, e3, ?_⟩
  have := Own.lies h k (.int .i64 T[k]) (by rw [show (intElem .i64).cells T = T.map (fun s => Value.int .i64 s) from oneElem_cells _ _ _]; simp [hk])
  rwa [Nat.zero_add] at this
theorem Wl.wr_firm (s : Bool × Dk.Disk) (x : Nat × Wl.Text) : (Wl.wr s x).2.firm.length = s.2.firm.length := by
  unfold Wl.wr
  split
  · rfl
  · show (s.2.write x.1 x.2).2.firm.length = _
    unfold Dk.Disk.write
    repeat' split
    all_goals rfl
theorem Wl.wrs_firm (ws : List (Nat × Wl.Text)) (s : Bool × Dk.Disk) : (Wl.wrs s ws).2.firm.length = s.2.firm.length := by
  induction ws generalizing s with
  | nil => rfl
  | cons x ws ih => exact (ih (Wl.wr s x)).trans (Wl.wr_firm s x)
theorem Wl.fl_firm (s : Bool × Dk.Disk) : (Wl.fl s).2.firm.length = s.2.firm.length := by
  unfold Wl.fl
  split
  · rfl
  · show s.2.flush.2.firm.length = _
    unfold Dk.Disk.flush
    repeat' split
    · rfl
    · rfl
    · exact Dk.puts_length _ _
theorem Wl.homeWrites_length (ring : Nat) (m : Wl.Grp) : (Wl.homeWrites ring m).length = m.length := by simp [Wl.homeWrites]
theorem Wl.homeWrites_get (ring : Nat) (m : Wl.Grp) (k : Nat) (hk : k < m.length) : (Wl.homeWrites ring m)[k]'(by rw [Wl.homeWrites_length]; exact hk) = (1 + ring + m[k].1, m[k].2) := by simp [Wl.homeWrites]
theorem Log.map {w : World} {F : Nat → Prop} {b g : Nat} {s : Wl.Lg} (h : Log w F b g s) : ∃ mb, w.cell? ⟨b, 6, none⟩ = some (.map (some mb)) ∧ CMap w mb s.wait ∧ F mb := by
  obtain ⟨mb, FD, h⟩ := h
  exact ⟨mb, h.c6, h.mp, h.fm⟩
/-- filled = 0, and a new map. -/
theorem LogP.renew {w : World} {F FD : Nat → Prop} {b g mb : Nat} {s : Wl.Lg} (h : LogP w F b g mb FD s) :
    LogP (((w.setCell ⟨b, 5, none⟩ (.int .i64 0)).setCell ⟨b, 6, none⟩ (.map (some w.heap.size))).alloc (.map #[] 0)) (both F (fun k => k = w.heap.size)) b g w.heap.size FD { s with filled := 0, wait := [] } ∧
    Moved F w (both F (fun k => k = w.heap.size)) (((w.setCell ⟨b, 5, none⟩ (.int .i64 0)).setCell ⟨b, 6, none⟩ (.map (some w.heap.size))).alloc (.map #[] 0)) := by
  have hbl := h.lt b h.fb
  obtain ⟨V, hV⟩ : ∃ V, V = (w.setCell ⟨b, 5, none⟩ (.int .i64 0)).setCell ⟨b, 6, none⟩ (.map (some w.heap.size)) := ⟨_, rfl⟩
  have hsb : But (fun k => k = b) w V := by rw [hV]; exact ((But.refl (fun k => k = b) w).setCell ⟨b, 5, none⟩ _ (fun _ => rfl)).setCell ⟨b, 6, none⟩ _ (fun _ => rfl)
  have hblk : Blk V b 93 (lcells g w.heap.size { s with filled := 0, wait := [] }) := by rw [hV]; exact (h.blk.set 5 _).set 6 _
  have hVs : V.heap.size = w.heap.size := by rw [hV]; simp [World.setCell]
  rw [← hV]
  have hall : But (fun k => k = b) w (V.alloc (.map #[] 0)) := hsb.alloc _
  refine ⟨⟨hblk.alloc _, ?_, ?_, h.nb, ?_, .inl h.fb, .inr rfl, fun k hk => .inl (h.fd k hk), ?_⟩, hall.mono (fun _ _ e => e ▸ h.fb), fun k hk => ?_⟩
  · have := IMap.made Tryz.prog KInt contentE V
    rw [hVs] at this
    exact this
  · exact h.sec.but hall (fun k hk e => h.nb (e ▸ hk))
  · intro hk
    have := h.lt _ (h.fd _ hk); omega
  · intro k hk
    rcases hk with hk | hk
    · exact Nat.lt_of_lt_of_le (h.lt k hk) hall.size
    · rw [hk]; simp [hVs]
  · rcases hk with hk | hk
    · exact .inl hk
    · exact .inr (by omega)
set_option maxRecDepth 100000 in
set_option maxHeartbeats 4000000 in
theorem check_any (w : World) (F : Nat → Prop) (b g : Nat) (s : Wl.Lg) (hl : Log w F b g s) (hb : Bnd s) (hlo : s.d.loose.length ≤ 1000000) :
    Calls Tryz.prog 83 #[ptr b] w fun e w' => e = .returned (.int .i64 s.check.1) ∧ ∃ F', Log w' F' b g s.check.2 ∧ Moved F w F' w' := by
  have HL := Lib.hid hl
  have HB := Lib.hid (And.intro hb hlo)
  have c5 := hl.c5
  obtain ⟨mb, c6, hm, hfm⟩ := hl.map
  have HM := Lib.hid (And.intro hm hfm)
  have hl1 := HL.out.lt
  clear hl hb hlo hm hfm
  obtain ⟨Z, hZ⟩ : ∃ Z, Z = (zeros.map bcell).toArray := ⟨_, rfl⟩
  have hz : ∀ w, (zeroValue CT).run Tryz.prog w = .ok (.agg Z) w := fun w => by rw [hZ]; exact zero_CT w
  have hzs : Z.size = 512 := by rw [hZ]; simp [zeros_len]
  have hzn : ¬ Z = #[] := by intro e; rw [e] at hzs; cases hzs
  have HZ := Lib.hid hZ
  clear hZ
  have HS := Lib.hid (show s.check = if s.off then (3, s) else if s.filled = 0 then (0, s) else
    if (Wl.checked s.ring s.d.firm.length s.place s.num s.wait (s.down, s.d)).1 then (3, s.with (Wl.checked s.ring s.d.firm.length s.place s.num s.wait (s.down, s.d)))
    else (0, { s.with (Wl.checked s.ring s.d.firm.length s.place s.num s.wait (s.down, s.d)) with filled := 0, wait := [] }) from rfl)
  go_enter Tryz.func83, Tryz.ntmps83
  unfold ptr
  go_wp2_with fail
  refine (ldown_any w F b g s HL.out).mono ?_
  rintro e w1 ⟨rfl, rfl⟩
  by_cases ho : s.off = true
  · rw [ho]
    have HE := Lib.hid (show s.check = (3, s) by rw [HS.out, if_pos ho])
    clear ho HS
    go_wp2
    go_ret
    rw [HE.out]
    exact ⟨rfl, F, HL.out, Moved.refl _ _⟩
  · have ho' : s.off = false := by simpa using ho
    have HS := Lib.hid (HS.out.trans (if_neg ho))
    rw [ho']
    clear ho ho'
    by_cases hf : s.filled = 0
    · have HE := Lib.hid (HS.out.trans (if_pos hf))
      rw [hf] at c5
      clear hf HS
      go_wp2
      go_ret
      rw [HE.out]
      exact ⟨rfl, F, HL.out, Moved.refl _ _⟩
    · have HS := Lib.hid (HS.out.trans (if_neg hf))
      have hf2 : ¬ ((s.filled : Int) = 0) := by omega
      clear hf
      go_wp2_with fail
      refine (keys_any (some mb) w1).mono ?_
      rintro e w2 ⟨rfl, hw2⟩
      have hb2 : Below w1.heap.size w1 w2 := by rw [hw2]; exact (Below.refl _ _).alloc (Nat.le_refl _) _
      have H2 := Lib.hid (show CMap w2 mb s.wait ∧ w2.cell? ⟨w1.heap.size, 0, none⟩ = some (.map (some mb)) ∧ Below w1.heap.size w1 w2 by
        refine ⟨HM.out.1.but (But.of_below hb2 (fun _ => False)) id, ?_, hb2⟩
        rw [hw2]; exact (Blk.new w1 #[.map (some mb)] 88).cell rfl)
      clear hw2 hb2
      go_wp2_with fail
      refine (sorted_any mb w1.heap.size s.wait w2 H2.out.1 (by have := HB.out.1.wl; omega) H2.out.2.1).mono ?_
      rintro e w3 ⟨kv, rfl, hkv, hb3⟩
      obtain ⟨ka, kcap, rfl, hkc⟩ := hkv.slice
      have hr := fun k hk => OwnK.at hkv k hk
      rw [List.length_map] at hkv hkc ⊢
      have HR := Lib.hid hr
      have hb3' : Below w1.heap.size w1 w3 := H2.out.2.2.trans ⟨hb3.os, hb3.tape, hb3.output, hb3.size, fun k hk => hb3.block k (Nat.lt_of_lt_of_le hk H2.out.2.2.size)⟩
      have HW := Lib.hid (show Below w1.heap.size w1 w3 ∧ w1.heap.size ≤ w2.heap.size from ⟨hb3', H2.out.2.2.size⟩)
      have H3 := Lib.hid (HL.out.below hb3')
      clear hkv hkc hr hb3 hb3' c5 c6
      go_wp2_with fail
      go_loopw [20] (fun i wr => ∃ k : Nat, k ≤ s.wait.length ∧ i = .int .i64 k ∧ Hid (∃ F', Log wr F' b g (s.with (Wl.wrs (s.down, s.d) ((Wl.homeWrites s.ring s.wait).take k))) ∧ Moved F w3 F' wr)) (fun i _ => s.wait.length - (Go.RowKit.intOf i).toNat)
      case atStart => exact ⟨0, Nat.zero_le _, rfl, Lib.hid ⟨F, H3.out, Moved.refl _ _⟩⟩
      case round =>
        obtain ⟨k, hk, rfl, hS⟩ := hrel
        by_cases hlt : k < s.wait.length
        · have hI : (k : Int) < s.wait.length := by omega
          obtain ⟨ga, rfl, hga, hga2, hc⟩ := HR.out k (by rw [List.length_map]; exact hlt)
          rw [List.getElem_map] at hc
          obtain ⟨F', hL, hMv⟩ := hS.out
          have hgF : ¬ F ga := fun h => by have := hl1 ga h; have := HW.out.2; omega
          have hc2 := hMv.1.cell hc hgF
          obtain ⟨mq, c6, hmq, hfq⟩ := hL.map
          change CMap wr mq s.wait at hmq
          have hin := HB.out.1.w.2 s.wait[k] (List.getElem_mem hlt)
          have hlk := look_rising HB.out.1.w.1 k hlt
          have HX := Lib.hid (show ∀ h, (Wl.homeWrites s.ring s.wait)[k]'h = (1 + s.ring + s.wait[k].1, s.wait[k].2) from fun _ => Wl.homeWrites_get s.ring s.wait k hlt)
          have HLk := Lib.hid (And.intro hlt (And.intro hL hMv))
          generalize s.wait[k] = x at *
          obtain ⟨i, t⟩ := x
          simp only at hin hlk hc2 HX
          have hi6 : (i : Int) ≤ 65536 := by have := HB.out.1.h; omega
          have hi0 : (0 : Int) ≤ i := by omega
          obtain ⟨hat, _⟩ := CMap.at hmq (k := i) (by omega) hlk
          have HHt := Lib.hid hin.2
          obtain ⟨r, hr⟩ : ∃ r, wr.heap.size = r := ⟨_, rfl⟩
          have HRr := Lib.hid hr
          clear hS hL hMv hc hga hga2 hgF hin hlk hk hlt hmq hfq
          go_wp2_with (first
            | (refine wpList_storeC rfl _ _ rfl r t zeros rfl rfl HHt.out (by rw [← hr]; exact CBlk.new wr Z HZ.out) ?_; intro w5 hc5 hb5; have H5 := Lib.hid (And.intro hc5 hb5); clear hc5 hb5)
            | fail)
          have hd5 : But (fun _ => False) w5 w5.drew := (But.refl _ w5).drew
          have hb5 : But (fun _ => False) wr w5 := ((But.refl (fun _ => False) wr).alloc _).trans H5.out.2 (fun q hq e => by have := HRr.out; omega)
          have HL5 := Lib.hid (show Log w5.drew F' b g (s.with (Wl.wrs (s.down, s.d) ((Wl.homeWrites s.ring s.wait).take k))) ∧ Moved F w3 F' w5.drew ∧ CBlk w5.drew r t from
            ⟨(HLk.out.2.1.but hb5 (fun _ _ h => h)).but hd5 (fun _ _ h => h), HLk.out.2.2.trans ⟨(hb5.mono (fun _ _ h => h.elim)).trans (hd5.mono (T := fun _ => False) (fun _ _ h => h)) (fun _ _ h => h.elim), fun _ h => .inl h⟩, H5.out.1.but hd5 id⟩)
          have hbk : (convert 110 9 (.slice (some ⟨r, 0, none⟩) 512 512)).run Tryz.prog w5.drew = .ok (.string (bs t)) w5.drew := HL5.out.2.2.back
          have hxs := fun w => slice_CT w r
          have hloo : (s.with (Wl.wrs (s.down, s.d) ((Wl.homeWrites s.ring s.wait).take k))).d.loose.length ≤ 900000000 := by
            have h1 := Wl.wrs_loose ((Wl.homeWrites s.ring s.wait).take k) (s.down, s.d)
            rw [List.length_take, Wl.homeWrites_length] at h1
            show (Wl.wrs (s.down, s.d) ((Wl.homeWrites s.ring s.wait).take k)).2.loose.length ≤ _
            have h2 := HB.out.2
            have h3 := HB.out.1.wl
            have h4 : (s.down, s.d).2.loose.length = s.d.loose.length := rfl
            omega
          have HLO := Lib.hid hloo
          have hrF : ¬ F' r := fun h => by have := HLk.out.2.1.lt r h; have := HRr.out; omega
          have HrF := Lib.hid hrF
          clear hd5 hb5 H5 hloo hrF hr hat c6 hc2
          go_region_held3 (fun w' => (convert 110 9 (.slice (some ⟨r, 0, none⟩) 512 512)).run Tryz.prog w' = .ok (.string (bs t)) w')
            (first
              | (exact hbk)
              | (exact hbk6)
              | go_keep)
            (first
              | (go_at_call 58; refine (sectorOf_any _ F' b g _ i HL5.out.1 HB.out.1.r2 (by omega)).mono ?_; rintro e w4 ⟨rfl, rfl⟩)
              | (go_at_call 71; refine (lwrite_any _ F' b g _ _ _ HL5.out.1 HLO.out).mono ?_; rintro e w6 ⟨rfl, F6, hL6, hM6⟩; have hbk6 : (convert 110 9 (.slice (some ⟨r, 0, none⟩) 512 512)).run Tryz.prog w6 = .ok (.string (bs t)) w6 := (HL5.out.2.2.but hM6.1 HrF.out).back; have HL6 := Lib.hid (And.intro hL6 (HL5.out.2.1.trans hM6)); clear hL6 hM6))
          clear hbk hbk6 hxs
          have hkI : (k : Int) ≤ 65536 := by have := HB.out.1.wl; have := HLk.out.1; omega
          have hkn : (0 : Int) ≤ k := by omega
          go_wp2
          go_roundw
          case rel =>
            refine ⟨k + 1, HLk.out.1, by go_num, Lib.hid ⟨F6, ?_, HL6.out.2⟩⟩
            rw [Wl.wrs_take _ _ k (by rw [Wl.homeWrites_length]; exact HLk.out.1), HX.out]
            exact HL6.out.1
          case measure => have := HLk.out.1; simp [Go.RowKit.intOf]; omega
        · obtain rfl : k = s.wait.length := by omega
          rw [List.take_of_length_le (by rw [Wl.homeWrites_length]; exact Nat.le_refl _)] at hS
          obtain ⟨F', hL, hMv⟩ := hS.out
          have HL2 := Lib.hid (And.intro hL hMv)
          clear hS hL hMv hz hzs hzn
          go_wp2_with fail
          refine (lflush_any wr F' b g _ HL2.out.1).mono ?_
          rintro e w7 ⟨rfl, F7, hL7, hM7⟩
          have hrl : (Wl.fl (Wl.wrs (s.down, s.d) (Wl.homeWrites s.ring s.wait))).2.loose.length ≤ 2000000 ∧ (Wl.fl (Wl.wrs (s.down, s.d) (Wl.homeWrites s.ring s.wait))).2.firm.length = s.d.firm.length := by
            refine ⟨Nat.le_trans (Wl.fl_loose _) (Nat.le_trans (Wl.wrs_loose _ _) ?_), (Wl.fl_firm _).trans (Wl.wrs_firm _ _)⟩
            rw [Wl.homeWrites_length]
            have h1 := HB.out.2
            have h3 := HB.out.1.wl
            show s.d.loose.length + s.wait.length ≤ _
            omega
          obtain ⟨q, hq⟩ : ∃ q, q = Wl.fl (Wl.wrs (s.down, s.d) (Wl.homeWrites s.ring s.wait)) := ⟨_, rfl⟩
          change Log w7 F7 b g (s.with (Wl.fl (Wl.wrs (s.down, s.d) (Wl.homeWrites s.ring s.wait)))) at hL7
          rw [← hq] at hL7 hrl
          have hd7 : But (fun _ => False) w7 w7.drew := (But.refl _ w7).drew
          obtain ⟨mq, FD, hp7⟩ := hL7.but hd7 (fun _ _ h => h)
          have HL7 := Lib.hid (show LogP w7.drew F7 b g mq FD (s.with q) ∧ Moved F w3 F7 w7.drew from ⟨hp7, (HL2.out.2.trans hM7).trans ⟨hd7.mono (fun _ _ h => h.elim), fun _ h => .inl h⟩⟩)
          have HQ := Lib.hid (And.intro hrl hq)
          have c0 : w7.drew.cell? ⟨b, 0, none⟩ = some (.pointer (some ⟨g, 0, none⟩)) := hp7.c0
          have c1 : w7.drew.cell? ⟨b, 1, none⟩ = some (.int .i64 s.ring) := hp7.c1
          have c3 : w7.drew.cell? ⟨b, 3, none⟩ = some (.int .i64 s.place) := hp7.c3
          have c4 : w7.drew.cell? ⟨b, 4, none⟩ = some (.int .u64 s.num) := hp7.c4
          clear hL7 hM7 hrl hq hd7 hp7
          go_wp2_with fail
          go_region_held3 (fun w' => w'.cell? ⟨b, 0, none⟩ = some (.pointer (some ⟨g, 0, none⟩)) ∧ w'.cell? ⟨b, 1, none⟩ = some (.int .i64 s.ring) ∧ w'.cell? ⟨b, 3, none⟩ = some (.int .i64 s.place) ∧ w'.cell? ⟨b, 4, none⟩ = some (.int .u64 s.num))
            (first
              | (exact ⟨c0, c1, c3, c4⟩)
              | (exact ⟨d0, d1, d3, d4⟩)
              | go_keep)
            (first
              | (go_at_call 40; refine (size_any _ FD g _ HL7.out.1.sec).mono ?_; rintro e w4 ⟨rfl, rfl⟩)
              | (go_at_call 72; refine (firstText_any _ s.ring s.place s.num _ (by have := HQ.out.1.2; have := HB.out.1.len; have := HB.out.1.r2; have := HB.out.1.h; exact (by omega : q.2.firm.length ≤ 1000000)) (by have := HB.out.1.r2; omega) (by have := HB.out.1.r2; have := HB.out.1.p; omega) (by have := HB.out.1.n; omega)).mono ?_; rintro e w8 ⟨rfl, hb8⟩; have HL8 := Lib.hid (show LogP w8 F7 b g mq FD (s.with q) ∧ Moved F w3 F7 w8 from ⟨HL7.out.1.below hb8, HL7.out.2.trans ⟨But.of_below hb8 _, fun _ h => .inl h⟩⟩); have d0 : w8.cell? ⟨b, 0, none⟩ = some (.pointer (some ⟨g, 0, none⟩)) := HL8.out.1.c0; have d1 : w8.cell? ⟨b, 1, none⟩ = some (.int .i64 s.ring) := HL8.out.1.c1; have d3 : w8.cell? ⟨b, 3, none⟩ = some (.int .i64 s.place) := HL8.out.1.c3; have d4 : w8.cell? ⟨b, 4, none⟩ = some (.int .u64 s.num) := HL8.out.1.c4; clear hb8)
              | (go_at_call 71; refine (lwrite_any _ F7 b g (s.with q) 0 _ HL8.out.1.log (by have := HQ.out.1.1; exact (by omega : q.2.loose.length ≤ 900000000))).mono ?_; rintro e w9 ⟨rfl, F9, hL9, hM9⟩; have HL9 := Lib.hid (show Log w9 F9 b g (s.with (Wl.wr q (0, Wl.first q.2.firm.length s.ring s.place s.num))) ∧ Moved F w3 F9 w9 from ⟨hL9, HL8.out.2.trans hM9⟩); obtain ⟨_, _, hp9⟩ := hL9; have d0 : w9.cell? ⟨b, 0, none⟩ = some (.pointer (some ⟨g, 0, none⟩)) := hp9.c0; have d1 : w9.cell? ⟨b, 1, none⟩ = some (.int .i64 s.ring) := hp9.c1; have d3 : w9.cell? ⟨b, 3, none⟩ = some (.int .i64 s.place) := hp9.c3; have d4 : w9.cell? ⟨b, 4, none⟩ = some (.int .u64 s.num) := hp9.c4; clear hp9 hM9))
          clear d0 d1 d3 d4 c0 c1 c3 c4
          go_wp2_with fail
          refine (lflush_any _ F9 b g _ HL9.out.1).mono ?_
          rintro e w10 ⟨rfl, F10, hL10, hM10⟩
          have hck : Wl.fl (Wl.wr q (0, Wl.first q.2.firm.length s.ring s.place s.num)) = Wl.checked s.ring s.d.firm.length s.place s.num s.wait (s.down, s.d) := by
            rw [HQ.out.1.2, HQ.out.2]; rfl
          change Log w10 F10 b g (s.with (Wl.fl (Wl.wr q (0, Wl.first q.2.firm.length s.ring s.place s.num)))) at hL10
          rw [hck] at hL10
          obtain ⟨z, hz⟩ : ∃ z, z = Wl.checked s.ring s.d.firm.length s.place s.num s.wait (s.down, s.d) := ⟨_, rfl⟩
          rw [← hz] at hL10
          have HS := Lib.hid (show s.check = if z.1 then (3, s.with z) else (0, { s.with z with filled := 0, wait := [] }) by rw [hz]; exact HS.out)
          obtain ⟨m10, FD10, hp10⟩ := hL10
          have k7 : w10.cell? ⟨b, 7, none⟩ = some (.bool z.1) := hp10.c7
          have f4 := hp10.blk.frozen 5
          have f5 := hp10.blk.frozen 6
          have k5 := hp10.c5
          have k6 := hp10.c6
          have hbl : b < w10.heap.size := hp10.blk.lt
          have H10 := Lib.hid (show LogP w10 F10 b g m10 FD10 (s.with z) ∧ Moved F w1 F10 w10 from ⟨hp10, (show Moved F w1 F w3 from ⟨But.of_below HW.out.1 _, fun _ h => .inl h⟩).trans (HL9.out.2.trans hM10)⟩)
          clear hM10 hck hz hp10
          by_cases hzd : z.1 = true
          · rw [hzd] at k7
            have HE := Lib.hid (HS.out.trans (if_pos hzd))
            clear hzd k5 k6 f4 f5 hbl
            go_wp2
            go_ret
            rw [HE.out]
            exact ⟨rfl, F10, H10.out.1.log, H10.out.2⟩
          · have hzd' : z.1 = false := by simpa using hzd
            rw [hzd'] at k7
            have HE := Lib.hid (HS.out.trans (if_neg hzd))
            have hmm := @run_makeMap Tryz.prog
            clear hzd hzd'
            go_wp2
            go_ret
            rw [HE.out]
            have hrn := H10.out.1.renew
            exact ⟨rfl, _, hrn.1.log, H10.out.2.trans hrn.2⟩
end Go.Proofs.YtahnhhhhfioibaaGreatDoor

namespace Go.Proofs.YtahnhhhhfioibaaGreatDoor
open Go.RowKit Lib

/-- What Commit leans on while the log is up. -/
structure Up (s : Wl.Lg) (G : Wl.Grp) : Prop where
  bnd : Bnd s
  lo : s.d.loose.length ≤ 1000000
  bnd2 : Bnd (s.ready G)
  lo2 : (s.ready G).d.loose.length ≤ 1000000
  len : G.length ≤ 65536
theorem Wl.Lg.check_ring (s : Wl.Lg) : s.check.2.ring = s.ring ∧ s.check.2.homes = s.homes := by
  unfold Wl.Lg.check
  repeat' split
  all_goals exact ⟨rfl, rfl⟩
theorem Wl.Lg.ready_ring (s : Wl.Lg) (G : Wl.Grp) : (s.ready G).ring = s.ring ∧ (s.ready G).homes = s.homes := by
  unfold Wl.Lg.ready
  split
  · exact s.check_ring
  · exact ⟨rfl, rfl⟩
theorem Bnd.record {s : Wl.Lg} (h : Bnd s) (G : Wl.Grp) : Bnd (s.record G) := by
  obtain ⟨a1, a2, a3, a4, a5, a6, a7, a8, a9⟩ := h
  refine ⟨a1, a2, a3, a4, a5, a6, a7, a8, ?_⟩
  show _ = 1 + s.ring + s.homes
  rw [← a9]
  show (Wl.recorded s.ring s.place s.num G (s.down, s.d)).2.firm.length = _
  unfold Wl.recorded
  rw [Wl.fl_firm, Wl.wr_firm, Wl.fl_firm, Wl.wrs_firm]
set_option maxRecDepth 100000 in
set_option maxHeartbeats 4000000 in
theorem commit_any (w : World) (F : Nat → Prop) (b g : Nat) (s : Wl.Lg) (va : Value) (ll : List (Value × List PutD)) (hl : Log w F b g s) (hu : s.off = false → Up s (Wl.gather s.homes [] (ptsL ll)).2) (ha : RdL w va ll) :
    Calls Tryz.prog 54 #[ptr b, va] w fun e w' => e = .returned (.int .i64 (s.commit (ptsL ll)).1) ∧ ∃ F', Log w' F' b g (s.commit (ptsL ll)).2 ∧ Moved F w F' w' := by
  have HS := Lib.hid (show s.commit (ptsL ll) = if s.off then (3, s) else
    if (Wl.gather s.homes [] (ptsL ll)).1 ≠ 0 then ((Wl.gather s.homes [] (ptsL ll)).1, s) else
    if s.ring < Wl.sizeOf (Wl.gather s.homes [] (ptsL ll)).2.length then (5, s) else
    if (Wl.gather s.homes [] (ptsL ll)).2 = [] then (0, s) else
    if ((s.ready (Wl.gather s.homes [] (ptsL ll)).2).record (Wl.gather s.homes [] (ptsL ll)).2).down then (3, (s.ready (Wl.gather s.homes [] (ptsL ll)).2).record (Wl.gather s.homes [] (ptsL ll)).2)
    else (0, ((s.ready (Wl.gather s.homes [] (ptsL ll)).2).record (Wl.gather s.homes [] (ptsL ll)).2).take (Wl.gather s.homes [] (ptsL ll)).2) from rfl)
  have hft := Wl.gather_fits s.homes (ptsL ll) [] (Wl.fits_nil _)
  obtain ⟨c, G, hcG⟩ : ∃ c G, Wl.gather s.homes [] (ptsL ll) = (c, G) := ⟨_, _, rfl⟩
  rw [hcG] at HS hu hft
  simp only at HS hu hft
  have HcG := Lib.hid hcG
  have HL := Lib.hid hl
  have HU := Lib.hid hu
  have HA := Lib.hid ha
  have HFl := Lib.hid hl.lt
  have HFt := Lib.hid hft
  clear hl hu ha hft hcG
  obtain ⟨R, hR⟩ : ∃ R, R = s.commit (ptsL ll) := ⟨_, rfl⟩
  rw [← hR] at HS ⊢
  clear hR
  go_enter Tryz.func54, Tryz.ntmps54
  unfold ptr
  go_wp2_with fail
  refine (ldown_any w F b g s HL.out).mono ?_
  rintro e w1 ⟨rfl, rfl⟩
  by_cases ho : s.off = true
  · rw [ho]
    have HE := Lib.hid (HS.out.trans (if_pos ho))
    clear ho HS
    go_wp2
    go_ret
    rw [HE.out]
    exact ⟨rfl, F, HL.out, Moved.refl _ _⟩
  · have ho' : s.off = false := by simpa using ho
    have HS := Lib.hid (HS.out.trans (if_neg ho))
    have HU := Lib.hid (HU.out ho')
    rw [ho']
    clear ho ho'
    go_wp2_with fail
    refine (gather_any w1 F b g s va ll HL.out HU.out.bnd.h HA.out).mono ?_
    rintro e w2 ⟨mv, rfl, hb2, hG⟩
    rw [HcG.out] at hG ⊢
    simp only at hG ⊢
    have H2 := Lib.hid (And.intro (HL.out.below hb2) hb2)
    clear hb2
    by_cases hc : c = 0
    · subst hc
      have HS := Lib.hid (HS.out.trans (if_neg (by simp)))
      obtain ⟨gb, rfl, hgm, hge⟩ := hG rfl
      have HG := Lib.hid (show CMap w2 gb G ∧ ¬ F gb ∧ gb < w2.heap.size from ⟨hgm, fun h => by have := HFl.out gb h; omega, hgm.lt⟩)
      clear hG hgm hge
      have c1 := H2.out.1.c1
      have c5 := H2.out.1.c5
      go_wp2_with (at_len; refine wpList_lenC rfl _ rfl gb G rfl HG.out.1 ?_)
      refine (sizeOf_any w2 G.length (by have := HU.out.len; omega)).mono ?_
      rintro e w3 ⟨rfl, rfl⟩
      have hz : ((Wl.sizeOf G.length : Nat) : Int) ≤ 1000000 := by have := HU.out.len; unfold Wl.sizeOf; omega
      have hz0 : (0 : Int) ≤ ((Wl.sizeOf G.length : Nat) : Int) := by omega
      have HZ := Lib.hid (show ∀ z, z = Wl.sizeOf G.length → (s.ready G = if s.ring < s.filled + z then s.check.2 else s) from fun z e => by rw [e]; rfl)
      obtain ⟨z, hzz⟩ : ∃ z, z = Wl.sizeOf G.length := ⟨_, rfl⟩
      rw [← hzz] at hz hz0 HS ⊢
      have HZ := Lib.hid (HZ.out z hzz)
      clear hzz
      by_cases hr : s.ring < z
      · have hrI : (z : Int) > s.ring := by omega
        have HE := Lib.hid (HS.out.trans (if_pos hr))
        clear hr HS
        go_wp2
        go_ret
        rw [HE.out]
        exact ⟨rfl, F, H2.out.1, ⟨But.of_below H2.out.2 _, fun _ h => .inl h⟩⟩
      · have hrI : (z : Int) ≤ s.ring := by omega
        have HS := Lib.hid (HS.out.trans (if_neg hr))
        clear hr
        by_cases hG0 : G = []
        · have HE := Lib.hid (HS.out.trans (if_pos hG0))
          subst hG0
          clear HS
          go_wp2_with (at_len; refine wpList_lenC rfl _ rfl gb [] rfl HG.out.1 ?_)
          go_ret
          rw [HE.out]
          exact ⟨rfl, F, H2.out.1, ⟨But.of_below H2.out.2 _, fun _ h => .inl h⟩⟩
        · have HS := Lib.hid (HS.out.trans (if_neg hG0))
          have hl0 : ¬ ((G.length : Int) = 0) := by intro e; exact hG0 (List.eq_nil_of_length_eq_zero (by omega))
          have hl1 : ¬ (G.length = 0) := by omega
          clear hG0
          have hfI : (s.filled : Int) ≤ 1000000 := by have := HU.out.bnd.f; omega
          have hf0 : (0 : Int) ≤ s.filled := by omega
          go_wp2_with (at_len; refine wpList_lenC rfl _ rfl gb G rfl HG.out.1 ?_)
          go_quiet (fail)
          obtain ⟨V, hV⟩ : ∃ V, V = w3.drewN nq := ⟨_, rfl⟩
          rw [← hV]
          have hbV : But (fun _ => False) w3 V := by rw [hV]; exact (But.refl _ _).drewN _
          have HV := Lib.hid (show Log V F b g s ∧ CMap V gb G ∧ gb < V.heap.size ∧ Moved F w1 F V from ⟨H2.out.1.but hbV (fun _ _ h => h), HG.out.1.but hbV id, Nat.lt_of_lt_of_le HG.out.2.2 hbV.size,
            (show Moved F w1 F w3 from ⟨But.of_below H2.out.2 _, fun _ h => .inl h⟩).trans ⟨hbV.mono (fun _ _ h => h.elim), fun _ h => .inl h⟩⟩)
          clear hV hbV c1 c5
          by_cases hbig : s.ring < s.filled + z
          focus
            have hbI : (s.filled : Int) + z > s.ring := by omega
            have HZ := Lib.hid (HZ.out.trans (if_pos hbig))
            clear hbig
            go_wp2_with fail
            refine (check_any V F b g s HV.out.1 HU.out.bnd HU.out.lo).mono ?_
            rintro e w4 ⟨rfl, F4, hL4, hM4⟩
            have hn4 : ¬ F4 gb := fun h => by
              rcases hM4.2 gb h with h' | h'
              · exact HG.out.2.1 h'
              · have := HV.out.2.2.1; omega
            have H4 := Lib.hid (show Log w4 F4 b g (s.ready G) ∧ CMap w4 gb G ∧ ¬ F4 gb ∧ gb < w4.heap.size ∧ Moved F w1 F4 w4 from ⟨by rw [HZ.out]; exact hL4, HV.out.2.1.but hM4.1 HG.out.2.1, hn4, Nat.lt_of_lt_of_le HV.out.2.2.1 hM4.1.size, HV.out.2.2.2.trans hM4⟩)
            clear hL4 hM4 hn4
            go_wp2_with fail
          rotate_left 1
          focus
            have hbI : (s.filled : Int) + z ≤ s.ring := by omega
            have HZ := Lib.hid (HZ.out.trans (if_neg hbig))
            clear hbig
            obtain ⟨F4, hF4⟩ : ∃ F4, F4 = F := ⟨_, rfl⟩
            obtain ⟨w4, hw4⟩ : ∃ w4, w4 = V := ⟨_, rfl⟩
            have H4 := Lib.hid (show Log w4 F4 b g (s.ready G) ∧ CMap w4 gb G ∧ ¬ F4 gb ∧ gb < w4.heap.size ∧ Moved F w1 F4 w4 by
              rw [hF4, hw4, HZ.out]; exact ⟨HV.out.1, HV.out.2.1, HG.out.2.1, HV.out.2.2.1, HV.out.2.2.2⟩)
            rw [← hw4]
            clear hF4 hw4
            go_wp2_with fail
          all_goals (
            obtain ⟨t, ht⟩ : ∃ t, t = s.ready G := ⟨_, rfl⟩
            have HT := Lib.hid ht
            rw [← ht] at HS H4
            refine (record_any w4 F4 b g gb t G H4.out.1 (by rw [ht]; exact HU.out.bnd2) H4.out.2.1 H4.out.2.2.1 (by rw [ht, (s.ready_ring G).2]; exact HFt.out) HU.out.len (by rw [ht]; exact HU.out.lo2)).mono ?_
            rintro e w5 ⟨rfl, F5, hL5, hM5⟩
            have hn5 : ¬ F5 gb := fun h => by
              rcases hM5.2 gb h with h' | h'
              · exact H4.out.2.2.1 h'
              · have := H4.out.2.2.2.1; omega
            have hbt : Bnd t := by rw [ht]; exact HU.out.bnd2
            have H5 := Lib.hid (show Log w5 F5 b g (t.record G) ∧ CMap w5 gb G ∧ ¬ F5 gb ∧ Moved F w1 F5 w5 ∧ Bnd (t.record G) from ⟨hL5, H4.out.2.1.but hM5.1 H4.out.2.2.1, hn5, H4.out.2.2.2.2.trans hM5, hbt.record G⟩)
            have c7 := hL5.c7
            clear hL5 hM5 hn5 hbt ht
            generalize t.record G = t2 at *
            by_cases hd : t2.down = true
            · rw [hd] at c7
              have HE := Lib.hid (HS.out.trans (if_pos hd))
              clear hd
              go_wp2
              go_ret
              rw [HE.out]
              exact ⟨rfl, F5, H5.out.1, H5.out.2.2.2.1⟩
            · have hd' : t2.down = false := by simpa using hd
              rw [hd'] at c7
              have HE := Lib.hid (HS.out.trans (if_neg hd))
              clear hd hd'
              go_wp2_with fail
              refine (take_any w5 F5 b g gb t2 G H5.out.1 H5.out.2.2.2.2 H5.out.2.1 H5.out.2.2.1 HU.out.len).mono ?_
              rintro e w6 ⟨rfl, hL6, hM6⟩
              have H6 := Lib.hid (And.intro hL6 (H5.out.2.2.2.1.trans hM6))
              clear hL6 hM6
              go_wp2
              go_ret
              rw [HE.out]
              exact ⟨rfl, F5, H6.out.1, H6.out.2⟩)
    · have HE := Lib.hid (HS.out.trans (if_pos hc))
      clear HS hG
      have hc2 : (c != 0) = true := by rw [bne_iff_ne]; exact hc
      go_wp2
      go_ret
      rw [HE.out]
      exact ⟨rfl, F, H2.out.1, ⟨But.of_below H2.out.2 _, fun _ h => .inl h⟩⟩
end Go.Proofs.YtahnhhhhfioibaaGreatDoor

namespace Go.Proofs.YtahnhhhhfioibaaGreatDoor
open Go.RowKit Lib

set_option maxRecDepth 100000 in
set_option maxHeartbeats 2000000 in
theorem isNext_any (w : World) (F : Nat → Prop) (b g : Nat) (s : Wl.Lg) (t : ByteArray) (hl : Log w F b g s) (hr : s.ring ≤ 4096) (ht : t.size = 512) :
    Calls Tryz.prog 74 #[ptr b, .string t] w fun e w' => e = .returned (.bool ((Wl.readHead t.data.toList s.ring).2.2 && decide ((Wl.readHead t.data.toList s.ring).1 = s.num))) ∧ Below w.heap.size w w' := by
  have HL := Lib.hid hl
  have c1 := hl.c1
  clear hl
  obtain ⟨m, n, ok, hq⟩ : ∃ m n ok, Wl.readHead t.data.toList s.ring = (m, n, ok) := ⟨_, _, _, rfl⟩
  rw [hq]
  have HQ := Lib.hid hq
  clear hq
  go_enter Tryz.func74, Tryz.ntmps74
  unfold ptr
  go_wp2_with fail
  refine (readHead_any t s.ring w ht hr).mono ?_
  rintro e w1 ⟨rfl, hb1⟩
  rw [HQ.out]
  have c4 := (HL.out.below hb1).c4
  have HB := Lib.hid hb1
  clear hb1 c1
  simp only at *
  cases ok with
  | false =>
    go_wp2
    go_ret
    exact ⟨rfl, HB.out⟩
  | true =>
    by_cases hm : m = s.num
    · subst hm
      go_wp2
      go_ret
      exact ⟨by simp, HB.out⟩
    · have hmI : ¬ ((m : Int) = s.num) := by omega
      have hmb : ((m : Int) == (s.num : Int)) = false := beq_eq_false_iff_ne.2 hmI
      go_wp2
      go_ret
      exact ⟨by simp [hm], HB.out⟩
/-- What isRing asks of a sector. -/
def ringOk (l : List UInt8) (ring num : Nat) : Prop := Wl.blank l = true ∨ Wl.isPuts l = true ∨ ((Wl.readHead l ring).2.2 = true ∧ (Wl.readHead l ring).1 < num)
set_option maxRecDepth 100000 in
set_option maxHeartbeats 4000000 in
theorem isRing_any (w : World) (F : Nat → Prop) (b g : Nat) (s : Wl.Lg) (hl : Log w F b g s) (hr : s.ring ≤ 4096) (hr1 : 1 ≤ s.ring)
    (ht : ∀ i, i < s.ring → (s.d.read (Wl.pos s.ring i : Nat)).1.length = 512) (hk : ∀ i, i < s.ring → ringOk (s.d.read (Wl.pos s.ring i : Nat)).1 s.ring s.num) :
    Calls Tryz.prog 77 #[ptr b] w fun e w' => e = .returned (.bool true) ∧ Below w.heap.size w w' := by
  have HL := Lib.hid hl
  have HT := Lib.hid ht
  have HK := Lib.hid hk
  have c1 := hl.c1
  have hrI : (s.ring : Int) ≤ 4096 := by omega
  clear hl ht hk
  go_enter Tryz.func77, Tryz.ntmps77
  unfold ptr
  go_wp2
  go_loopw [12] (fun i wr => ∃ k : Nat, k ≤ s.ring ∧ i = .int .i64 k ∧ Hid (Below w.heap.size w wr)) (fun i _ => s.ring - (Go.RowKit.intOf i).toNat)
  case atStart => exact ⟨0, Nat.zero_le _, rfl, Lib.hid (Below.refl _ _)⟩
  case round =>
    obtain ⟨k, hk, rfl, hB⟩ := hrel
    by_cases hlt : k < s.ring
    · have hI : (k : Int) < s.ring := by omega
      have hk0 : (0 : Int) ≤ k := by omega
      have HLr := Lib.hid (HL.out.below hB.out)
      have HI := Lib.hid hlt
      clear c1 hk hlt
      go_wp2_with fail
      refine (heldInRing_any wr F b g s k HLr.out hr hr1 (by omega)).mono ?_
      rintro e w1 ⟨rfl, rfl⟩
      have c1 := HLr.out.c1
      have hlen := HT.out k HI.out
      have hok := HK.out k HI.out
      generalize (s.d.read (Wl.pos s.ring k : Nat)).1 = l at *
      obtain ⟨m, n, ok, hq⟩ : ∃ m n ok, Wl.readHead l s.ring = (m, n, ok) := ⟨_, _, _, rfl⟩
      have HOK := Lib.hid hok
      have HQ := Lib.hid hq
      clear hq hok
      go_wp2_with fail
      refine (readHead_any (bs l) s.ring w1 (by rw [bs_size]; exact hlen) hr).mono ?_
      rintro e w2 ⟨rfl, hb2⟩
      rw [bs_list, HQ.out]
      simp only
      have c4 := (HLr.out.below hb2).c4
      have HB2 := Lib.hid (And.intro (hB.out.trans (hb2.mono hB.out.size)) (HLr.out.below hb2))
      clear hb2 c1
      have hkI : (k : Int) ≤ 4096 := by have := HI.out; omega
      go_wp2_with fail
      refine (wblank_any (bs l) w2 (by rw [bs_size, hlen]; decide)).mono ?_
      rintro e w3 ⟨rfl, nq, rfl⟩
      rw [bs_list]
      have HB3 := Lib.hid (show Below w.heap.size w (w2.drewN nq) from HB2.out.1.trans ((below_drawn w2 nq).mono HB2.out.1.size))
      have c4 : (w2.drewN nq).cell? ⟨b, 4, none⟩ = some (.int .u64 s.num) := c4
      by_cases h1 : Wl.blank l = true
      · rw [h1]
        clear h1 c4 hlen
        go_wp2
        go_roundw
        case rel => exact ⟨k + 1, HI.out, by go_num, HB3⟩
        case measure => have := HI.out; simp [Go.RowKit.intOf]; omega
      · have h1' : Wl.blank l = false := by simpa using h1
        rw [h1']
        clear h1' hlen
        go_wp2_with fail
        refine (isPuts_any (bs l) _).mono ?_
        rintro e w4 ⟨rfl, rfl⟩
        rw [bs_list]
        by_cases h2 : Wl.isPuts l = true
        · rw [h2]
          clear h1 h2 c4
          go_wp2
          go_roundw
          case rel => exact ⟨k + 1, HI.out, by go_num, HB3⟩
          case measure => have := HI.out; simp [Go.RowKit.intOf]; omega
        · have h2' : Wl.isPuts l = false := by simpa using h2
          rw [h2']
          have h3 : ok = true ∧ m < s.num := by
            rcases HOK.out with h | h | h
            · exact absurd h h1
            · exact absurd h h2
            · rw [HQ.out] at h; exact h
          obtain ⟨rfl, h4⟩ := h3
          have h4I : (m : Int) < s.num := by omega
          clear h1 h2 h2' h4
          go_wp2
          go_roundw
          case rel => exact ⟨k + 1, HI.out, by go_num, HB3⟩
          case measure => have := HI.out; simp [Go.RowKit.intOf]; omega
    · obtain rfl : k = s.ring := by omega
      go_wp2
      go_ret
      exact ⟨rfl, hB.out⟩
end Go.Proofs.YtahnhhhhfioibaaGreatDoor

namespace Go.Proofs.YtahnhhhhfioibaaGreatDoor
open Go.RowKit Lib

theorem Wl.ins_snoc : ∀ (m : Wl.Grp) (k : Nat) (t : Wl.Text), (∀ y ∈ m, y.1 < k) → Wl.ins k t m = m ++ [(k, t)]
  | [], k, t, _ => rfl
  | x :: m, k, t, h => by
    have hx := h x List.mem_cons_self
    rw [Wl.ins, if_neg (by omega), if_neg (by omega), Wl.ins_snoc m k t fun y hy => h y (List.mem_cons_of_mem _ hy)]
    rfl
theorem Wl.ins_take {g : Wl.Grp} (h : Wl.Rising g) (j : Nat) (hj : j < g.length) : Wl.ins g[j].1 g[j].2 (g.take j) = g.take (j + 1) := by
  rw [List.take_succ_eq_append_getElem hj, Wl.ins_snoc]
  intro y hy
  obtain ⟨i, hi, rfl⟩ := List.mem_iff_getElem.1 hy
  rw [List.length_take] at hi
  rw [List.getElem_take]
  exact List.pairwise_iff_getElem.1 h i j (by omega) hj (by omega)
theorem Wl.pack_drop {homes : Nat} {g : Wl.Grp} (h : Wl.Fits homes g) (j : Nat) (hj : j < g.length) : (Wl.pack g).drop (516 * j) = Wl.enc 4 g[j].1 ++ (g[j].2 ++ Wl.pack (g.drop (j + 1))) := by
  have e : Wl.pack g = Wl.pack (g.take j) ++ Wl.pack (g.drop j) := by rw [← Wl.pack_append, List.take_append_drop]
  have hl : (Wl.pack (g.take j)).length = 516 * j := by
    rw [Wl.pack_length (homes := homes) (fun x hx => h.2 x (List.mem_of_mem_take hx)), List.length_take, Nat.min_eq_left (by omega)]
  rw [e, ← hl, List.drop_left, List.drop_eq_getElem_cons hj, Wl.pack_cons]
/-- All bytes of a group's sectors. -/
def whole (g : Wl.Grp) : List UInt8 := Wl.pack g ++ List.replicate (511 * (((Wl.pack g).length + 510) / 511) - (Wl.pack g).length) 0
theorem whole_eq (g : Wl.Grp) : ((((Wl.putsTexts g).map Dk.full).map fun s => s.drop 1)).flatten = whole g := by
  rw [Wl.putsTexts, List.map_map, List.map_map]
  exact Wl.sectors_join (Wl.pack g)
theorem whole_drop {homes : Nat} {g : Wl.Grp} (h : Wl.Fits homes g) (j : Nat) (hj : j < g.length) : ∃ rest, (whole g).drop (516 * j) = Wl.enc 4 g[j].1 ++ (g[j].2 ++ rest) := by
  have hl := Wl.pack_length h.2
  refine ⟨Wl.pack (g.drop (j + 1)) ++ List.replicate (511 * (((Wl.pack g).length + 510) / 511) - (Wl.pack g).length) 0, ?_⟩
  rw [whole, List.drop_append_of_le_length (by omega), Wl.pack_drop h j hj]
  simp only [List.append_assoc]
theorem whole_end {homes : Nat} {g : Wl.Grp} (h : Wl.Fits homes g) : Wl.blank ((whole g).drop (516 * g.length)) = true := by
  have hl := Wl.pack_length h.2
  rw [whole, ← hl, List.drop_left]
  exact Wl.blank_replicate _
theorem whole_length {homes : Nat} {g : Wl.Grp} (h : Wl.Fits homes g) : 516 * g.length ≤ (whole g).length ∧ (whole g).length ≤ 516 * g.length + 511 := by
  have hl := Wl.pack_length h.2
  rw [whole, List.length_append, List.length_replicate, hl]
  omega
/-- append of a text to a row of bytes. -/
theorem wpList_app_strY {B : Nat} {w : World} {v : Value} {l : List UInt8} {ops : Array Oper} {rest : List Oper} {o : Oper} {a : Act} {Q : Exit → Act → World → Prop} (hgd : o.guard = none) (s x : Operand)
    (ho : o.op = .call { callee := .builtin .append, args := #[s, x], argTypes := #[110, 9] })
    (hs : a.eval s = v) (hown : OwnY B w v l) (hB : B ≤ w.heap.size) (t : ByteArray) (hx : a.eval x = .string t) (hlen : l.length + t.size ≤ 900000000)
    (h : ∀ v' w', OwnY B w' v' (l ++ t.data.toList) → w.grownBy w' v.ownBlock → wpList Tryz.prog ops Q rest (a.put o.dst v') w') : wpList Tryz.prog ops Q (o :: rest) a w := by
  obtain ⟨i, hi, hz, hsz, hby⟩ := info_of (P := Tryz.prog) (E := 5) (size := 1) (bytes := 1) (z := .int .u8 0) (by kernel_rfl)
  refine wpList_append_own_string w hgd s x 110 9 ho B 5 i Tryz.underlying110 Tryz.underlying9 hi hz hsz hby v l.length (byteElem.cells l) hs hown t hx (by unfold maxLen; omega) (by omega) hB ?_
  intro v' w' h1 h2 _
  refine h v' w' ?_ h2
  unfold OwnY Own
  rw [byteElem.cells_append, List.length_append, show byteElem.cells t.data.toList = strCells t from oneElem_cells _ _ _, Array.length_toList]
  exact h1
theorem row_back (W : World) (gg o cp : Nat) (l : List UInt8) (hc : ∀ x (hx : x < l.length), W.cell? ⟨gg, o + x, none⟩ = some (bcell l[x])) :
    (convert 110 9 (.slice (some ⟨gg, o, none⟩) l.length cp)).run Tryz.prog W = .ok (.string (bs l)) W :=
  run_convert_bytes_back (P := Tryz.prog) W 110 9 5 ⟨gg, o, none⟩ cp l (by kernel_rfl) (by kernel_rfl) (by kernel_rfl) (by
    intro j hj
    rw [show (⟨gg, o, none⟩ : Addr).add j = ⟨gg, o + j, none⟩ by unfold Addr.add; split <;> simp_all]
    exact hc j hj)
theorem sub_cells {W : World} {gg o : Nat} {A X Y : List UInt8} (hD : ∀ x (hx : x < A.length), W.cell? ⟨gg, x, none⟩ = some (bcell A[x])) (he : A.drop o = X ++ Y) : ∀ x (hx : x < X.length), W.cell? ⟨gg, o + x, none⟩ = some (bcell X[x]) := by
  intro x hx
  have h1 : (A.drop o)[x]? = some X[x] := by rw [he, List.getElem?_append_left hx, List.getElem?_eq_getElem hx]
  rw [List.getElem?_drop] at h1
  obtain ⟨h2, h3⟩ := List.getElem?_eq_some_iff.1 h1
  rw [hD _ h2, h3]
set_option maxRecDepth 100000 in
set_option maxHeartbeats 4000000 in
theorem readPuts_any (w : World) (homes : Nat) (g : Wl.Grp) (v : Value) (hv : Reads w v ((Wl.putsTexts g).map Dk.full)) (hf : Wl.Fits homes g) (hh : homes ≤ 65536) (hl : g.length ≤ 65536) (hg0 : 0 < g.length) :
    Calls Tryz.prog 110 #[v, .int .i64 g.length, .int .i64 homes] w fun e w' => ∃ gb, e = .returned (.tuple #[.map (some gb), .bool true]) ∧ CMap w' gb g ∧ w.heap.size ≤ gb ∧ Below w.heap.size w w' := by
  obtain ⟨L, hL⟩ : ∃ L, L = (Wl.putsTexts g).map Dk.full := ⟨_, rfl⟩
  have HL1 := Lib.hid (show ∀ k (hk : k < L.length), L[k].length = 512 ∧ Wl.isPuts L[k] = true by
    intro k hk
    have hm : L[k] ∈ (Wl.putsTexts g).map Dk.full := by rw [← hL]; exact List.getElem_mem hk
    obtain ⟨t, ht, e⟩ := List.mem_map.1 hm
    rw [← e]
    exact ⟨Dk.full_length _ (Wl.putsTexts_le g t ht), Wl.putsTexts_isPuts g t ht⟩)
  have HLl := Lib.hid (show L.length ≤ 70000 by
    have h1 := Wl.putsTexts_length (homes := homes) (g := g) hf.2
    rw [hL, List.length_map]
    unfold Wl.sizeOf at h1
    omega)
  have HW := Lib.hid (show (L.map fun s => s.drop 1).flatten = whole g by rw [hL]; exact whole_eq g)
  rw [← hL] at hv
  clear hL
  obtain ⟨a, cap, rfl, hc, hr⟩ := hv
  have HR := Lib.hid hr
  have HF := Lib.hid (And.intro hf hh)
  have hlI : (g.length : Int) ≤ 65536 := by omega
  have hhI : (homes : Int) ≤ 65536 := by omega
  have HG0 := Lib.hid hg0
  clear hr hf hc
  obtain ⟨Z, hZ⟩ : ∃ Z, Z = (zeros.map bcell).toArray := ⟨_, rfl⟩
  have hz : ∀ w, (zeroValue CT).run Tryz.prog w = .ok (.agg Z) w := fun w => by rw [hZ]; exact zero_CT w
  have hzs : Z.size = 512 := by rw [hZ]; simp [zeros_len]
  have hzn : ¬ Z = #[] := by intro e; rw [e] at hzs; cases hzs
  have HZ := Lib.hid hZ
  clear hZ
  go_enter Tryz.func110, Tryz.ntmps110
  go_wp2_with fail
  go_loopw [8, 17] (fun u i wr => ∃ k : Nat, k ≤ L.length ∧ i = .int .i64 k ∧ Hid (OwnY w.heap.size wr u ((L.map fun s => s.drop 1).take k).flatten) ∧ Hid (Below w.heap.size w wr)) (fun _ i _ => L.length - (Go.RowKit.intOf i).toNat)
  case atStart => exact ⟨0, Nat.zero_le _, rfl, Lib.hid (Own.nil _ _ _ _), Lib.hid (Below.refl _ _)⟩
  case round =>
    obtain ⟨k, hk, rfl, ho, hB⟩ := hrel
    by_cases hlt : k < L.length
    · have hI : (k : Int) < L.length := by omega
      obtain ⟨ga, oa, rfl, hga, hxa⟩ := HR.out k hlt
      have hcl : wr.cell? ⟨ga, oa + k, none⟩ = some (.string (bs L[k])) := (hB.out.cell (p := ⟨ga, oa + k, none⟩) hga).trans (hxa k hlt)
      obtain ⟨hl5, hlp⟩ := HL1.out k hlt
      have HX := Lib.hid (show ((L.map fun s => s.drop 1).take (k + 1)).flatten = ((L.map fun s => s.drop 1).take k).flatten ++ L[k].drop 1 by
        rw [flatten_take_succ _ k (by rw [List.length_map]; exact hlt), List.getElem_map])
      have HK := Lib.hid hlt
      clear hxa
      generalize L[k] = t at *
      clear hk hlt
      have hts : (bs t).size = 512 := by rw [bs_size]; exact hl5
      have htI : (512 : Int) ≤ (bs t).size := by omega
      have htJ : ((bs t).size : Int) ≤ 512 := by omega
      go_wp2_with fail
      refine (isPuts_any (bs t) wr).mono ?_
      rintro e w1 ⟨rfl, rfl⟩
      rw [bs_list, hlp]
      have hss : ((bs t).extract 1 512).data.toList = t.drop 1 := by rw [← hts, ext_drop, bs_list]
      have hsz : ((bs t).extract 1 512).size = 511 := by rw [ByteArray.size_extract]; omega
      have HSS := Lib.hid (And.intro hss hsz)
      have HLe := Lib.hid (show (((L.map fun s => s.drop 1).take k).flatten).length ≤ 800000000 by
        have h1 := flatten_take_le (L.map fun s => s.drop 1) k
        rw [HW.out] at h1
        have h2 := (whole_length HF.out.1).2
        omega)
      have hkI : (k : Int) ≤ 70000 := by have := HLl.out; have := HK.out; omega
      clear hss hsz hlp hl5
      go_wp2_with (refine wpList_app_strY rfl _ _ rfl rfl ho.out hB.out.size _ rfl (by rw [HSS.out.2]; have := HLe.out; omega) ?_; intro u2 w2 ho2 hg2; have H2 := Lib.hid (And.intro ho2 hg2); clear ho2 hg2)
      go_roundw
      case rel =>
        obtain ⟨ho2, hg2⟩ := H2.out
        rw [HSS.out.1] at ho2
        exact ⟨k + 1, HK.out, by have := HLl.out; have := HK.out; go_num, Lib.hid (by rw [HX.out]; exact ho2), Lib.hid (hB.out.grown hg2 hB.out.size (fun j e => (ho.out.block j e).1))⟩
      case measure => have := HLl.out; have := HK.out; simp [Go.RowKit.intOf]; omega
    · obtain rfl : k = L.length := by omega
      rw [List.take_of_length_le (by rw [List.length_map]; exact Nat.le_refl _), HW.out] at ho
      have hlen := whole_length HF.out.1
      obtain ⟨gg, cp0, hu, hg1, hg2, hcp0, hD0⟩ : ∃ gg cp, u8 = .slice (some ⟨gg, 0, none⟩) (whole g).length cp ∧ w.heap.size ≤ gg ∧ gg < wr.heap.size ∧ (whole g).length ≤ cp ∧ ∀ i (hi : i < (whole g).length), wr.cell? ⟨gg, i, none⟩ = some (bcell (whole g)[i]) := by
        obtain ⟨gg, c', e1, e2, e3, e4⟩ := Own.form ho.out (by omega)
        have ho' := ho.out
        rw [e1] at ho'
        refine ⟨gg, c', e1, e2, e3, e4, fun i hi => ?_⟩
        have := Own.lies ho' i (bcell (whole g)[i]) (by rw [show byteElem.cells (whole g) = (whole g).map bcell from oneElem_cells _ _ _]; simp [hi])
        rwa [Nat.zero_add] at this
      subst hu
      have hmm := @run_makeMap Tryz.prog
      go_wp2
      obtain ⟨V, hV⟩ : ∃ V, V = wr.alloc (.map #[] 0) := ⟨_, rfl⟩
      obtain ⟨mb, hmb⟩ : ∃ mb, wr.heap.size = mb := ⟨_, rfl⟩
      rw [← hV, hmb]
      have HV := Lib.hid (show CMap V mb [] ∧ Below w.heap.size w V ∧ mb < V.heap.size ∧ w.heap.size ≤ gg ∧ gg < mb ∧ ∀ i (hi : i < (whole g).length), V.cell? ⟨gg, i, none⟩ = some (bcell (whole g)[i]) by
        have hb := (Below.refl wr.heap.size wr).alloc (Nat.le_refl _) (.map #[] 0)
        rw [← hV] at hb
        refine ⟨by rw [hV, ← hmb]; exact IMap.made _ _ _ _, by rw [hV]; exact hB.out.alloc hB.out.size _, by rw [hV, ← hmb]; simp, hg1, by omega, fun i hi => (hb.cell (p := ⟨gg, i, none⟩) hg2).trans (hD0 i hi)⟩)
      have HLn := Lib.hid hlen
      have HCP := Lib.hid hcp0
      clear hV hmb hmm hg1 hg2 hD0 hB ho hk hlt hlen hcp0
      go_loopw [8, 12, 31] (fun u lst i wq => ∃ (j m o cp : Nat) (q : Int), j ≤ g.length ∧ u = .slice (some ⟨gg, o, none⟩) m cp ∧ lst = .int .i64 q ∧ i = .int .i64 j ∧
        Hid (m = (whole g).length - 516 * j ∧ (0 < m → o = 516 * j) ∧ m ≤ cp ∧ (∀ h : j < g.length, q < g[j].1) ∧ -1 ≤ q ∧ q ≤ 65536) ∧ Hid (CMap wq mb (g.take j)) ∧ Hid (Below mb V wq ∧ Below w.heap.size w wq)) (fun _ _ i _ => g.length - (Go.RowKit.intOf i).toNat)
      case atStart => exact ⟨0, _, 0, cp0, -1, Nat.zero_le _, rfl, rfl, rfl, Lib.hid ⟨by omega, fun _ => rfl, HCP.out, fun _ => by omega, by omega, by omega⟩, Lib.hid HV.out.1, Lib.hid ⟨Below.refl _ _, HV.out.2.1⟩⟩
      case round =>
        obtain ⟨j, m, o, cp, q, hj, rfl, rfl, rfl, hS, hM, hB⟩ := hrel
        have hD : ∀ i (hi : i < (whole g).length), wr.cell? ⟨gg, i, none⟩ = some (bcell (whole g)[i]) := fun i hi => (hB.out.1.cell (p := ⟨gg, i, none⟩) HV.out.2.2.2.2.1).trans (HV.out.2.2.2.2.2 i hi)
        by_cases hlt : j < g.length
        · have hI : (j : Int) < g.length := by omega
          obtain ⟨s1, s2, s3, s4, s5, s6⟩ := hS.out
          have hlen := HLn.out
          have hm516 : 516 ≤ m := by omega
          have ho := s2 (by omega)
          obtain ⟨rest, hrest⟩ := whole_drop HF.out.1 j hlt
          rw [← ho] at hrest
          have hin := HF.out.1.2 g[j] (List.getElem_mem hlt)
          have hq := s4 hlt
          have HTk := Lib.hid (Wl.ins_take HF.out.1.1 j hlt)
          have HNx := Lib.hid (show ∀ h : j + 1 < g.length, (g[j].1 : Int) < g[j + 1].1 from fun h => by
            have := List.pairwise_iff_getElem.1 HF.out.1.1 j (j + 1) hlt h (by omega); omega)
          generalize g[j] = x at *
          obtain ⟨i, t⟩ := x
          simp only at hrest hin hq HTk HNx
          have hcv := row_back wr gg o cp (Wl.enc 4 i) (sub_cells hD hrest)
          rw [Wl.enc_length] at hcv
          have hsrc := sub_cells (X := t) (Y := rest) (o := o + 4) hD (by
            rw [← List.drop_drop, hrest]; exact List.drop_left' (Wl.enc_length 4 i))
          have hi6 : (i : Int) ≤ 65536 := by have := HF.out.2; omega
          have hi0 : (0 : Int) ≤ i := by omega
          have hihI : (i : Int) < homes := by omega
          have hqn : ¬ (i : Int) ≤ q := by omega
          have hm5 : (516 : Int) ≤ m := by omega
          have hc5 : (516 : Int) ≤ cp := by omega
          have hc4 : ¬ cp = 4 := by omega
          have hdec := Wl.dec_enc 4 i (by have := HF.out.2; omega)
          have HS2 := Lib.hid (show m = (whole g).length - 516 * j ∧ o = 516 * j ∧ m ≤ cp ∧ t.length = 512 ∧ 516 ≤ m ∧ j < g.length from ⟨s1, ho, s3, hin.2, hm516, hlt⟩)
          have HSR := Lib.hid hsrc
          have HDE := Lib.hid hdec
          clear s1 s2 s3 s4 s5 s6 hlen ho hrest hin hq hsrc hD hdec hS hlt hj hm516
          go_wp2_with fail
          refine (numberOf_any (bs (Wl.enc 4 i)) wr (by rw [bs_size, Wl.enc_length]; decide)).mono ?_
          rintro e w1 ⟨rfl, rfl⟩
          rw [bs_list, HDE.out]
          obtain ⟨r, hr⟩ : ∃ r, w1.heap.size = r := ⟨_, rfl⟩
          have hsz := w1.heap.size
          clear hcv
          go_wp2
          obtain ⟨X, hX⟩ : ∃ X, X = w1.alloc (.cells Z CT) := ⟨_, rfl⟩
          rw [← hX]
          have hxs := slice_CT X r
          have hmr : mb < r := by have := HV.out.2.2.1; have := hB.out.1.size; omega
          have HX := Lib.hid (show CBlk X r zeros ∧ CMap X mb (g.take j) ∧ Below mb V X ∧ Below w.heap.size w X ∧ X.heap.size = r + 1 ∧ mb < r ∧ ∀ x (hx : x < t.length), X.cell? ⟨gg, o + 4 + x, none⟩ = some (bcell t[x]) by
            have hbx : But (fun _ => False) w1 X := by rw [hX]; exact (But.refl _ _).alloc _
            refine ⟨by rw [hX, ← hr]; exact CBlk.new w1 Z HZ.out, hM.out.but hbx id, hB.out.1.trans (hbx.below (by omega) (fun _ _ h => h)), hB.out.2.trans (hbx.below hB.out.2.size (fun _ _ h => h)), by rw [hX]; simp [hr], hmr, fun x hx => hbx.cell (HSR.out x hx) id⟩)
          clear hX hM hB hr hmr hsz hqn hihI
          go_still_tail 3, (by kernel_rfl)
          change wpList _ _ _ _ _ X.drew
          obtain ⟨U, hU⟩ : ∃ U, U = X.drew := ⟨_, rfl⟩
          rw [← hU]
          have HU := Lib.hid (show CBlk U r zeros ∧ CMap U mb (g.take j) ∧ Below mb V U ∧ Below w.heap.size w U ∧ U.heap.size = r + 1 ∧ mb < r ∧ ∀ x (hx : x < t.length), U.cell? ⟨gg, o + 4 + x, none⟩ = some (bcell t[x]) by
            obtain ⟨h1, h2, h3, h4, h5, h6, h7⟩ := HX.out
            rw [hU]
            exact ⟨h1, h2.but ((But.refl (fun _ => False) X).drew) id, h3.drew, h4.drew, h5, h6, h7⟩)
          clear hU hxs HX HSR
          have hsrcU : ∀ y v, (t.map bcell)[y]? = some v → U.cell? ((⟨gg, o + 4, none⟩ : Addr).add y) = some v := by
            intro y v hy
            rw [List.getElem?_map] at hy
            obtain ⟨hy1, hy2⟩ : ∃ h : y < t.length, bcell t[y] = v := by
              cases he : t[y]? with
              | none => rw [he] at hy; cases hy
              | some z =>
                rw [he] at hy
                obtain ⟨h1, h2⟩ := List.getElem?_eq_some_iff.1 he
                exact ⟨h1, by rw [h2]; simpa using hy⟩
            rw [show (⟨gg, o + 4, none⟩ : Addr).add y = ⟨gg, o + 4 + y, none⟩ by unfold Addr.add; split <;> simp_all, ← hy2]
            exact HU.out.2.2.2.2.2.2 y hy1
          have HSU := Lib.hid hsrcU
          clear hsrcU
          go_wp2_with (refine wpList_copy_own rfl _ _ _ _ rfl 5 Tryz.underlying110 (by kernel_rfl) r 0 512 512 ⟨gg, o + 4, none⟩ 512 (cp - 4) rfl rfl (zeros.map bcell).toArray CT HU.out.1.1 (t.map bcell) (by rw [List.length_map, HS2.out.2.2.2.1]; rfl) HSU.out (by rw [List.length_map, HS2.out.2.2.2.1]; simp [zeros_len]) (fun v hv => by obtain ⟨y, _, rfl⟩ := List.mem_map.1 hv; rfl) ?_; refine Hid.out ?_)
          refine Lib.hid ?_
          obtain ⟨Y, hY⟩ : ∃ Y, Y = U.setRow r (List.map bcell t ++ List.drop t.length (List.map bcell zeros)).toArray := ⟨_, rfl⟩
          rw [← hY]
          have HY := Lib.hid (show CBlk Y r t ∧ CMap Y mb (g.take j) ∧ Below mb V Y ∧ Below w.heap.size w Y by
            obtain ⟨h1, h2, h3, h4, h5, h6, _⟩ := HU.out
            have hbY : But (fun k => k = r) U Y := by rw [hY]; exact (But.refl _ _).setRow _ _ (fun _ => rfl)
            have hwr : w.heap.size ≤ mb := by have := HV.out.2.2.2.1; have := HV.out.2.2.2.2.1; omega
            refine ⟨⟨?_, HS2.out.2.2.2.1⟩, h2.but hbY (by omega), Below.but h3 hbY (by omega) (fun k hk e => by omega), Below.but h4 hbY h4.size (fun k hk e => by omega)⟩
            have hd0 : List.drop t.length (List.map bcell zeros) = [] := List.drop_eq_nil_of_le (by rw [List.length_map, zeros_len, HS2.out.2.2.2.1]; exact Nat.le_refl _)
            rw [hY, hd0, List.append_nil]
            exact setRow_heap U r _ _ _ _ h1.1)
          clear hY HU HSU
          have hjI : (j : Int) ≤ 65536 := by have := HS2.out.2.2.2.2.2; omega
          have hmn : 516 ≤ m := by omega
          have hcn : 516 ≤ cp := by omega
          go_wp2_with (first
            | (refine wpList_loadC rfl _ rfl r t rfl HY.out.1 ?_)
            | (at_mapUpdate; refine wpList_store (M := contentE) rfl _ _ _ rfl HY.out.2.1 underInt underMap (by rw [List.length_take]; have := HS2.out.2.2.2.2.2; omega) i (by omega) t HY.out.1.2 rfl rfl rfl ?_; intro w8 hM8 hg8; have H8 := Lib.hid (And.intro hM8 hg8); clear hM8 hg8; go_frame))
          obtain ⟨s1, s2, s3, s4, s5, s6⟩ := HS2.out
          have hwr : w.heap.size ≤ mb := by have := HV.out.2.2.2.1; have := HV.out.2.2.2.2.1; omega
          refine ⟨⟨j + 1, m - 516, if cp = 516 then o else o + 516, cp - 516, i, s6, by split <;> rfl, rfl, rfl, Lib.hid ⟨by omega, fun h => ?_, by omega, HNx.out, by omega, hi6⟩, Lib.hid (by rw [← HTk.out]; exact H8.out.1), Lib.hid ⟨HY.out.2.2.1.grown H8.out.2 (by have := HY.out.2.2.1.size; have := HV.out.2.2.1; omega) (fun k e => by cases e; exact Nat.le_refl _), HY.out.2.2.2.grown H8.out.2 HY.out.2.2.2.size (fun k e => by cases e; exact hwr)⟩⟩, ?_⟩
          · rw [if_neg (by omega)]; omega
          · simp only [Go.RowKit.intOf]; omega
        · obtain rfl : j = g.length := by omega
          obtain ⟨s1, s2, s3, s4, s5, s6⟩ := hS.out
          have hlen := HLn.out
          have hle : ((whole g).drop (516 * g.length)).length = m := by rw [List.length_drop]; omega
          have hcv := row_back wr gg o cp ((whole g).drop (516 * g.length)) (fun x hx => by
            have ho := s2 (by omega)
            exact sub_cells (X := (whole g).drop (516 * g.length)) (Y := []) hD (by rw [ho, List.append_nil]) x hx)
          rw [hle] at hcv
          have HE := Lib.hid (And.intro hle hlen)
          rw [List.take_length] at hM
          clear s1 s2 s3 s4 s5 s6 hlen hD hS hle
          go_wp2_with fail
          refine (wblank_any _ wr (by rw [bs_size, HE.out.1]; have := HE.out.2; have h2 := HE.out.1; rw [List.length_drop] at h2; omega)).mono ?_
          rintro e w4 ⟨rfl, nq, rfl⟩
          rw [bs_list, whole_end HF.out.1]
          clear hcv
          go_wp2
          go_ret2
          exact ⟨mb, rfl, hM.out.but ((But.refl (fun _ => False) wr).drewN nq) id, by have := HV.out.2.2.2.1; have := HV.out.2.2.2.2.1; omega, hB.out.2.trans ((below_drawn wr nq).mono hB.out.2.size)⟩
end Go.Proofs.YtahnhhhhfioibaaGreatDoor

namespace Go.Proofs.YtahnhhhhfioibaaGreatDoor
open Go.RowKit Lib

/-- The next group of a log stands in its ring. -/
structure Stands (s : Wl.Lg) (grp : Wl.Grp) : Prop where
  bnd : Bnd s
  ne : grp ≠ []
  fits : Wl.Fits s.homes grp
  len : grp.length ≤ 65536
  size : Wl.sizeOf grp.length ≤ s.ring
  num : 1 ≤ s.num
  head : (s.d.read (Wl.pos s.ring s.place : Nat)).1 = Dk.full (Wl.head s.num grp.length)
  puts : ∀ k t, (Wl.putsTexts grp)[k]? = some t → (s.d.read (Wl.pos s.ring (s.place + 1 + k) : Nat)).1 = Dk.full t
set_option maxRecDepth 100000 in
set_option maxHeartbeats 4000000 in
theorem retake_any (w : World) (F : Nat → Prop) (b g : Nat) (s : Wl.Lg) (grp : Wl.Grp) (hl : Log w F b g s) (hs : Stands s grp) :
    Calls Tryz.prog 76 #[ptr b] w fun e w' => e = .returned (.bool true) ∧ Log w' F b g (s.take grp) ∧ Moved F w F w' := by
  have HL := Lib.hid hl
  have HS := Lib.hid hs
  have hdr : But (fun _ => False) w w.drew := (But.refl _ w).drew
  have HLd := Lib.hid (hl.but hdr (fun _ _ h => h))
  have c1 : w.drew.cell? ⟨b, 1, none⟩ = some (.int .i64 s.ring) := HLd.out.c1
  have c3 : w.drew.cell? ⟨b, 3, none⟩ = some (.int .i64 s.place) := HLd.out.c3
  have hpI : (s.place : Int) ≤ 4096 := by have := hs.bnd.p; have := hs.bnd.r2; omega
  have hp0 : (0 : Int) ≤ s.place := by omega
  have hgl : 0 < grp.length := List.length_pos_iff.2 hs.ne
  have hgI : (grp.length : Int) ≤ 65536 := by have := hs.len; omega
  have HRH := Lib.hid (show Wl.readHead (Dk.full (Wl.head s.num grp.length)) s.ring = (s.num, grp.length, true) from Wl.readHead_head _ _ _ hs.num (by have := hs.bnd.n; omega) hgl (by have := hs.size; have := Wl.sizeOf_ge grp.length hgl; omega) hs.size hs.bnd.r2)
  clear hl hs hdr
  go_enter Tryz.func76, Tryz.ntmps76
  unfold ptr
  go_wp2_with fail
  go_region_held3 (fun w' => w'.cell? ⟨b, 1, none⟩ = some (.int .i64 s.ring) ∧ w'.cell? ⟨b, 3, none⟩ = some (.int .i64 s.place))
    (first
      | (exact ⟨c1, c3⟩)
      | (exact ⟨d1, d3⟩)
      | go_keep)
    (first
      | (go_at_call 75; refine (heldInRing_any _ F b g s s.place HLd.out HS.out.bnd.r2 (by have := HS.out.bnd.r1; omega) (by omega)).mono ?_; rintro e w1 ⟨rfl, rfl⟩)
      | (go_at_call 108; refine (readHead_any _ s.ring _ (by rw [bs_size, HS.out.head]; exact Dk.full_length _ (by rw [Wl.head_length]; decide)) HS.out.bnd.r2).mono ?_; rintro e w2 ⟨rfl, hb2⟩; have HL2 := Lib.hid (show Log w2 F b g s ∧ Moved F w F w2 from ⟨HLd.out.below hb2, (show Moved F w F w.drew from ⟨(But.refl F w).drew, fun _ h => .inl h⟩).trans ⟨But.of_below hb2 _, fun _ h => .inl h⟩⟩); have d1 : w2.cell? ⟨b, 1, none⟩ = some (.int .i64 s.ring) := HL2.out.1.c1; have d3 : w2.cell? ⟨b, 3, none⟩ = some (.int .i64 s.place) := HL2.out.1.c3; clear hb2))
  rw [bs_list, HS.out.head, HRH.out]
  simp only
  clear c1 c3 d1 d3
  obtain ⟨T, hT⟩ : ∃ T, T = Wl.putsTexts grp := ⟨_, rfl⟩
  have hTl := Wl.putsTexts_length (homes := s.homes) (g := grp) HS.out.fits.2
  rw [← hT] at hTl
  have HT := Lib.hid (And.intro hT hTl)
  have hz : ((Wl.sizeOf grp.length : Nat) : Int) - 1 = T.length := by omega
  have hTI : (T.length : Int) ≤ 4096 := by have := HS.out.size; have := HS.out.bnd.r2; omega
  have HZ := Lib.hid hz
  clear hT hTl hz
  go_wp2_with fail
  refine (sizeOf_any w2 grp.length (by have := HS.out.len; omega)).mono ?_
  rintro e w3 ⟨rfl, rfl⟩
  have hzI : ((Wl.sizeOf grp.length : Nat) : Int) ≤ 4096 := by have := HS.out.size; have := HS.out.bnd.r2; omega
  have hz1 : (1 : Int) ≤ ((Wl.sizeOf grp.length : Nat) : Int) := by have := Wl.sizeOf_pos grp.length; omega
  generalize hzz : Wl.sizeOf grp.length = z at *
  have HZZ := Lib.hid hzz
  clear hzz
  go_wp2_with fail
  rw [HZ.out]
  go_loopw [6, 29] (fun u i wr => ∃ k : Nat, k ≤ T.length ∧ i = .int .i64 k ∧ Hid (OwnS w.heap.size wr u ((T.map Dk.full).take k)) ∧ Hid (Log wr F b g s ∧ Moved F w F wr)) (fun _ i _ => T.length - (Go.RowKit.intOf i).toNat)
  case atStart => exact ⟨0, Nat.zero_le _, rfl, Lib.hid (Own.nil _ _ _ _), HL2⟩
  case round =>
    obtain ⟨k, hk, rfl, ho, hM⟩ := hrel
    by_cases hlt : k < T.length
    · have hI : (k : Int) < T.length := by omega
      have hk0 : (0 : Int) ≤ k := by omega
      have c3 := hM.out.1.c3
      have HX := Lib.hid (show ((T.map Dk.full).take (k + 1)) = ((T.map Dk.full).take k) ++ [Dk.full T[k]] by
        rw [List.take_succ_eq_append_getElem (by rw [List.length_map]; exact hlt), List.getElem_map])
      have HP := Lib.hid (HS.out.puts k T[k] (by rw [← HT.out.1, List.getElem?_eq_getElem hlt]))
      generalize T[k] = t at *
      have HK := Lib.hid hlt
      clear hk hlt
      go_wp2_with fail
      rw [show ((s.place : Int) + 1 + k) = ((s.place + 1 + k : Nat) : Int) by omega]
      refine (heldInRing_any wr F b g s _ hM.out.1 HS.out.bnd.r2 (by have := HS.out.bnd.r1; omega) (by omega)).mono ?_
      rintro e w4 ⟨rfl, rfl⟩
      rw [HP.out]
      clear c3
      go_wp2_with (at_builtin; refine wpList_app stringST rfl _ _ rfl rfl (ho.out.alloc _) (by have := hM.out.2.1.size; simp; omega) w4.heap.size 0 1 1 [bs (Dk.full t)] rfl rfl (lies_new _ _) (by rw [List.length_map, List.length_take]; have := HK.out; omega) ?_; intro u5 w5 ho5 hg5; have H5 := Lib.hid (And.intro ho5 hg5); clear ho5 hg5)
      go_roundw
      case rel =>
        obtain ⟨ho5, hg5⟩ := H5.out
        refine ⟨k + 1, HK.out, by go_num, Lib.hid ?_, Lib.hid ?_⟩
        · rw [HX.out]
          unfold OwnS
          rw [List.map_append]
          exact ho5
        · have hbut : But (fun x => u6.ownBlock = some x) w4 w5 := ((But.refl (fun x => u6.ownBlock = some x) w4).alloc _).trans (But.ofGrown hg5) (fun _ _ h => h)
          have hFn : ∀ x, F x → ¬ u6.ownBlock = some x := fun x hx e => by have := (Own.block ho.out x e).1; have := HL.out.lt x hx; omega
          refine ⟨hM.out.1.but hbut hFn, hM.out.2.1.trans hbut (fun x hx e => by have := (Own.block ho.out x e).1; omega), fun x hx => .inl hx⟩
      case measure => have := HK.out; simp [Go.RowKit.intOf]; omega
    · obtain rfl : k = T.length := by omega
      rw [List.take_of_length_le (by rw [List.length_map]; exact Nat.le_refl _)] at ho
      have c2 : wr.cell? ⟨b, 2, none⟩ = some (.int .i64 s.homes) := by obtain ⟨_, _, h⟩ := hM.out.1; exact h.c2
      have HRd := Lib.hid (OwnS.reads ho.out)
      clear hk hlt ho
      go_wp2_with fail
      refine (readPuts_any wr s.homes grp u6 (by rw [← HT.out.1]; exact HRd.out) HS.out.fits HS.out.bnd.h HS.out.len hgl).mono ?_
      rintro e w4 ⟨gb, rfl, hcm, hge, hb4⟩
      have H4 := Lib.hid (show Log w4 F b g s ∧ CMap w4 gb grp ∧ ¬ F gb ∧ Moved F w F w4 from ⟨hM.out.1.below hb4, hcm, fun h => by have := hM.out.1.lt gb h; omega, hM.out.2.trans ⟨But.of_below hb4 _, fun _ h => .inl h⟩⟩)
      clear c2 hcm hge hb4
      go_wp2_with fail
      refine (take_any w4 F b g gb s grp H4.out.1 HS.out.bnd H4.out.2.1 H4.out.2.2.1 HS.out.len).mono ?_
      rintro e w5 ⟨rfl, hL5, hM5⟩
      have H5 := Lib.hid (And.intro hL5 (H4.out.2.2.2.trans hM5))
      clear hL5 hM5
      go_wp2
      go_ret
      exact ⟨rfl, H5.out⟩
end Go.Proofs.YtahnhhhhfioibaaGreatDoor

namespace Go.Proofs.YtahnhhhhfioibaaGreatDoor
open Go.RowKit Lib

/-- A log while it is opened: j groups are taken up. -/
def mid (ring : Nat) (H : List Wl.Text) (a n : Nat) (gs : List Wl.Grp) (d : Dk.Disk) (j : Nat) : Wl.Lg := Wl.opened ring H a n (gs.take j) d
theorem mid_zero (ring : Nat) (H : List Wl.Text) (a n : Nat) (gs : List Wl.Grp) (d : Dk.Disk) (ha : a < ring) : mid ring H a n gs d 0 = ⟨ring, H.length, a, n, 0, [], false, d⟩ := by
  simp only [mid, Wl.opened, List.take_zero, Wl.total, List.map_nil, List.sum_nil, Nat.add_zero, Nat.mod_eq_of_lt ha, List.length_nil]
  rfl
theorem mid_all (ring : Nat) (H : List Wl.Text) (a n : Nat) (gs : List Wl.Grp) (d : Dk.Disk) : mid ring H a n gs d gs.length = Wl.opened ring H a n gs d := by rw [mid, List.take_length]
theorem mid_take (ring : Nat) (H : List Wl.Text) (a n : Nat) (gs : List Wl.Grp) (d : Dk.Disk) (j : Nat) (hj : j < gs.length) : (mid ring H a n gs d j).take gs[j] = mid ring H a n gs d (j + 1) := by
  have ht : Wl.total (gs.take (j + 1)) = Wl.total (gs.take j) + Wl.sizeOf gs[j].length := by
    rw [List.take_succ_eq_append_getElem hj, Wl.total_append, Wl.total_one]
  have hgn : Wl.gained (gs.take (j + 1)) = Wl.merge (Wl.gained (gs.take j)) gs[j] := by
    rw [List.take_succ_eq_append_getElem hj, Wl.gained_append]
  have hl : (gs.take (j + 1)).length = (gs.take j).length + 1 := by rw [List.length_take, List.length_take]; omega
  simp only [mid, Wl.opened, Wl.Lg.take, ht, hgn, hl, Nat.mod_add_mod, Nat.add_assoc]
theorem Wl.Laid.at {ring : Nat} {F : List Wl.Text} : ∀ {gs : List Wl.Grp} {a n : Nat} (_ : Wl.Laid ring F a n gs) (j : Nat) (hj : j < gs.length), F[Wl.pos ring (a + Wl.total (gs.take j))]? = some (Dk.full (Wl.head (n + j) gs[j].length)) ∧ ∀ k t, (Wl.putsTexts gs[j])[k]? = some t → F[Wl.pos ring (a + Wl.total (gs.take j) + 1 + k)]? = some (Dk.full t)
  | [], _, _, _, j, hj => by cases hj
  | g :: gs, a, n, h, 0, _ => by
    have ht : Wl.total ((g :: gs).take 0) = 0 := rfl
    rw [ht]
    exact ⟨h.1, h.2.1⟩
  | g :: gs, a, n, h, j + 1, hj => by
    have ih := Wl.Laid.at h.2.2 j (by simpa using hj)
    have ht : Wl.total ((g :: gs).take (j + 1)) = Wl.sizeOf g.length + Wl.total (gs.take j) := by rw [List.take_succ_cons, Wl.total_cons]
    rw [ht]
    have e1 : a + (Wl.sizeOf g.length + Wl.total (gs.take j)) = a + Wl.sizeOf g.length + Wl.total (gs.take j) := by omega
    have e2 : n + (j + 1) = n + 1 + j := by omega
    rw [e1, e2]
    exact ih
theorem total_take_le (gs : List Wl.Grp) (j : Nat) : Wl.total (gs.take j) ≤ Wl.total gs := by
  have := Wl.total_append (gs.take j) (gs.drop j)
  rw [List.take_append_drop] at this
  omega
theorem total_succ_le (gs : List Wl.Grp) (j : Nat) (hj : j < gs.length) : Wl.total (gs.take j) + Wl.sizeOf gs[j].length ≤ Wl.total gs := by
  have := total_take_le gs (j + 1)
  rw [List.take_succ_eq_append_getElem hj, Wl.total_append, Wl.total_one] at this
  exact this
theorem pos_mod' (ring p k : Nat) : Wl.pos ring (p % ring + k) = Wl.pos ring (p + k) := by unfold Wl.pos; rw [Nat.mod_add_mod]
theorem mid_bnd {ring : Nat} {d : Dk.Disk} {a n : Nat} {gs : List Wl.Grp} {H : List Wl.Text} (h : Wl.Good ring d.firm a n gs H) (j : Nat) (hj : j ≤ gs.length) : Bnd (mid ring H a n gs d j) := by
  have h1 := h.r1; have h2 := h.r2; have h3 := h.len; have h4 := h.hmax; have h5 := h.n_max
  have h6 := total_take_le gs j
  have h7 := h.tot
  have hfit : Wl.Fits H.length (Wl.gained (gs.take j)) := Wl.gained_fits fun g hg => (h.fits g (List.mem_of_mem_take hg)).2
  refine ⟨h1, h2, ?_, ?_, ?_, ?_, hfit, ?_, ?_⟩
  · show H.length ≤ _; omega
  · exact Nat.mod_lt _ (by omega)
  · show n + (gs.take j).length < _
    rw [List.length_take]; omega
  · show Wl.total (gs.take j) ≤ _; omega
  · show (Wl.gained (gs.take j)).length ≤ 65536
    exact Nat.le_trans (Wl.fits_length hfit) (by omega)
  · exact h3
theorem mid_stands {ring : Nat} {d : Dk.Disk} {a n : Nat} {gs : List Wl.Grp} {H : List Wl.Text} (h : Wl.Good ring d.firm a n gs H) (ho : d.off = false) (hl : d.loose = []) (j : Nat) (hj : j < gs.length) : Stands (mid ring H a n gs d j) gs[j] := by
  have hnow : d.now = d.firm := by unfold Dk.Disk.now; rw [hl, Dk.puts_nil]
  have hf := h.fits gs[j] (List.getElem_mem hj)
  obtain ⟨l1, l2⟩ := Wl.Laid.at h.laid j hj
  have hlt : (gs.take j).length = j := by rw [List.length_take]; omega
  refine ⟨mid_bnd h j (by omega), hf.1, hf.2, ?_, ?_, ?_, ?_, ?_⟩
  · have := Wl.fits_length hf.2
    have := h.len; have := h.hmax; omega
  · show Wl.sizeOf gs[j].length ≤ ring
    have := total_succ_le gs j hj; have := h.tot; omega
  · show 1 ≤ n + (gs.take j).length
    have := h.n_pos; omega
  · show (d.read (Wl.pos ring ((a + Wl.total (gs.take j)) % ring) : Nat)).1 = Dk.full (Wl.head (n + (gs.take j).length) gs[j].length)
    have e := pos_mod' ring (a + Wl.total (gs.take j)) 0
    rw [Nat.add_zero, Nat.add_zero] at e
    rw [e, Dk.read_at ho (by rw [hnow]; exact l1), hlt]
  · intro k t hk
    show (d.read (Wl.pos ring ((a + Wl.total (gs.take j)) % ring + 1 + k) : Nat)).1 = Dk.full t
    have e := pos_mod' ring (a + Wl.total (gs.take j)) (1 + k)
    rw [← Nat.add_assoc, ← Nat.add_assoc] at e
    rw [e, Dk.read_at ho (by rw [hnow]; exact l2 k t hk)]
theorem good_read {ring : Nat} {d : Dk.Disk} {a n : Nat} {gs : List Wl.Grp} {H : List Wl.Text} (h : Wl.Good ring d.firm a n gs H) (ho : d.off = false) (hl : d.loose = []) {i : Nat} {t : List UInt8} (hi : d.firm[i]? = some t) : (d.read (i : Nat)).1 = t ∧ t.length = 512 := by
  have hnow : d.now = d.firm := by unfold Dk.Disk.now; rw [hl, Dk.puts_nil]
  exact ⟨by rw [Dk.read_at ho (by rw [hnow]; exact hi)], h.all t (List.mem_of_getElem? hi)⟩
theorem mid_next {ring : Nat} {d : Dk.Disk} {a n : Nat} {gs : List Wl.Grp} {H : List Wl.Text} (h : Wl.Good ring d.firm a n gs H) (ho : d.off = false) (hl : d.loose = []) (j : Nat) (hj : j ≤ gs.length) :
    (d.read (Wl.pos ring (mid ring H a n gs d j).place : Nat)).1.length = 512 ∧ ((Wl.readHead (d.read (Wl.pos ring (mid ring H a n gs d j).place : Nat)).1 ring).2.2 && decide ((Wl.readHead (d.read (Wl.pos ring (mid ring H a n gs d j).place : Nat)).1 ring).1 = (mid ring H a n gs d j).num)) = decide (j < gs.length) := by
  by_cases hlt : j < gs.length
  · have hs := mid_stands h ho hl j hlt
    have hg := List.length_pos_iff.2 hs.ne
    have e : (d.read (Wl.pos ring (mid ring H a n gs d j).place : Nat)).1 = Dk.full (Wl.head (mid ring H a n gs d j).num gs[j].length) := hs.head
    have e3 : Wl.readHead (Dk.full (Wl.head (mid ring H a n gs d j).num gs[j].length)) ring = _ := Wl.readHead_head _ _ _ hs.num (by have := hs.bnd.n; omega) hg (by have := hs.size; have := Wl.sizeOf_ge gs[j].length hg; have : (mid ring H a n gs d j).ring = ring := rfl; omega) hs.size h.r2
    rw [e, e3]
    exact ⟨Dk.full_length _ (by rw [Wl.head_length]; decide), by simp [hlt]⟩
  · obtain rfl : j = gs.length := by omega
    have hr : (a + Wl.total gs) % ring < ring := Nat.mod_lt _ (by have := h.r1; omega)
    obtain ⟨t, h1, h2⟩ := (h.old _ hr).next
    have hp : Wl.pos ring (mid ring H a n gs d gs.length).place = 1 + (a + Wl.total gs) % ring := by
      show Wl.pos ring ((a + Wl.total (gs.take gs.length)) % ring) = _
      rw [List.take_length]; unfold Wl.pos; rw [Nat.mod_mod]
    obtain ⟨e1, e2⟩ := good_read h ho hl h1
    rw [hp, e1]
    refine ⟨e2, ?_⟩
    have hn : (mid ring H a n gs d gs.length).num = n + gs.length := by show n + (gs.take gs.length).length = _; rw [List.take_length]
    rw [hn]
    cases hk : (Wl.readHead t ring).2.2 with
    | false => simp
    | true => have := h2 hk; simp [this]
theorem mid_ring {ring : Nat} {d : Dk.Disk} {a n : Nat} {gs : List Wl.Grp} {H : List Wl.Text} (h : Wl.Good ring d.firm a n gs H) (ho : d.off = false) (hl : d.loose = []) (i : Nat) (hi : i < ring) :
    (d.read (Wl.pos ring i : Nat)).1.length = 512 ∧ ringOk (d.read (Wl.pos ring i : Nat)).1 ring (n + gs.length) := by
  have hp : Wl.pos ring i = 1 + i := by unfold Wl.pos; rw [Nat.mod_eq_of_lt hi]
  obtain ⟨t, h1, h2⟩ := h.old i hi
  obtain ⟨e1, e2⟩ := good_read h ho hl h1
  rw [hp, e1]
  refine ⟨e2, ?_⟩
  rcases h2 with h2 | h2 | ⟨m, k, h2, h3⟩
  · exact .inl h2
  · exact .inr (.inl h2)
  · exact .inr (.inr (by rw [h2]; exact ⟨rfl, h3⟩))
/-- The box of the first place, made ahead of what is read. -/
theorem openedA {w w2 X : World} {F FD : Nat → Prop} {b g mb a n : Nat} {s : Wl.Lg} (h : LogP w2 F b g mb FD s) (hm : Moved F w F w2) (hlt : ∀ k, F k → k < w.heap.size) (hb : Blk w2 w.heap.size 91 [.int .i64 0, .int .u64 0])
    (hX : X = (w2.setCell ⟨w.heap.size, 0, none⟩ (.int .i64 a)).setCell ⟨w.heap.size, 1, none⟩ (.int .u64 n)) : LogP X F b g mb FD s ∧ Moved F w F X ∧ Blk X w.heap.size 91 [.int .i64 a, .int .u64 n] ∧ b ≠ w.heap.size ∧ ¬ F w.heap.size := by
  have hbX : But (fun k => k = w.heap.size) w2 X := by rw [hX]; exact ((But.refl (fun k => k = w.heap.size) w2).setCell ⟨w.heap.size, 0, none⟩ _ (fun _ => rfl)).setCell ⟨w.heap.size, 1, none⟩ _ (fun _ => rfl)
  have hqF : ¬ F w.heap.size := fun h => by have := hlt _ h; omega
  exact ⟨h.but hbX (fun k hk e => hqF (e ▸ hk)), ⟨hm.1.trans hbX (fun i hi e => by omega), fun _ h => .inl h⟩, by rw [hX]; exact (hb.set 0 _).set 1 _, fun e => hqF (e ▸ h.fb), hqF⟩
theorem openedB {w w2 X : World} {F FD : Nat → Prop} {b g mb a n : Nat} {s : Wl.Lg} (h : LogP w2 F b g mb FD s) (hm : Moved F w F w2) (hX : X = w2.alloc (.cells #[.int .i64 a, .int .u64 n] 91)) :
    LogP X F b g mb FD s ∧ Moved F w F X ∧ Blk X w2.heap.size 91 [.int .i64 a, .int .u64 n] ∧ b ≠ w2.heap.size ∧ ¬ F w2.heap.size := by
  have hbX : But (fun _ => False) w2 X := by rw [hX]; exact (But.refl _ _).alloc _
  have hqF : ¬ F w2.heap.size := fun hq => by have := h.lt _ hq; omega
  exact ⟨h.but hbX (fun _ _ h => h), hm.trans ⟨hbX.mono (fun _ _ h => h.elim), fun _ h => .inl h⟩, by rw [hX]; exact Blk.new w2 _ _, fun e => hqF (e ▸ h.fb), hqF⟩
set_option maxRecDepth 100000 in
set_option maxHeartbeats 4000000 in
theorem resume_any (w : World) (F : Nat → Prop) (b g ring : Nat) (d : Dk.Disk) (a n : Nat) (gs : List Wl.Grp) (H : List Wl.Text) (hl : Log w F b g ⟨ring, H.length, 0, 0, 0, [], false, d⟩) (hg : Wl.Good ring d.firm a n gs H) (ho : d.off = false) (hlo : d.loose = []) :
    Calls Tryz.prog 43 #[ptr b] w fun e w' => e = .returned (.bool true) ∧ Log w' F b g (Wl.opened ring H a n gs d) ∧ Moved F w F w' := by
  have HL := Lib.hid hl
  have HG := Lib.hid (And.intro hg (And.intro ho hlo))
  have hr2 := hg.r2
  have ha := hg.a_lt
  obtain ⟨mb, FD, hp⟩ := hl
  have hdr : But (fun _ => False) w w.drew := (But.refl _ w).drew
  have HP := Lib.hid (show LogP w.drew F b g mb FD ⟨ring, H.length, 0, 0, 0, [], false, d⟩ ∧ Moved F w F w.drew from ⟨hp.but hdr (fun _ _ h => h), ⟨(But.refl F w).drew, fun _ h => .inl h⟩⟩)
  have c0 : w.drew.cell? ⟨b, 0, none⟩ = some (.pointer (some ⟨g, 0, none⟩)) := HP.out.1.c0
  have c1 : w.drew.cell? ⟨b, 1, none⟩ = some (.int .i64 ring) := HP.out.1.c1
  have hrd : d.read ((0 : Nat) : Int) = (Dk.full (Wl.first d.firm.length ring a n), 0) := Dk.read_at ho (by unfold Dk.Disk.now; rw [hlo, Dk.puts_nil]; exact hg.first)
  have HRD := Lib.hid (show d.read 0 = (Dk.full (Wl.first d.firm.length ring a n), 0) from hrd)
  have hal : But (fun _ => False) w (w.alloc (.cells #[.int .i64 0, .int .u64 0] 91)).drew := ((But.refl _ w).alloc _).drew
  have HPa := Lib.hid (show LogP (w.alloc (.cells #[.int .i64 0, .int .u64 0] 91)).drew F b g mb FD ⟨ring, H.length, 0, 0, 0, [], false, d⟩ ∧ Moved F w F (w.alloc (.cells #[.int .i64 0, .int .u64 0] 91)).drew from ⟨hp.but hal (fun _ _ h => h), ⟨hal.mono (fun _ _ h => h.elim), fun _ h => .inl h⟩⟩)
  have c0a : (w.alloc (.cells #[.int .i64 0, .int .u64 0] 91)).drew.cell? ⟨b, 0, none⟩ = some (.pointer (some ⟨g, 0, none⟩)) := HPa.out.1.c0
  have c1a : (w.alloc (.cells #[.int .i64 0, .int .u64 0] 91)).drew.cell? ⟨b, 1, none⟩ = some (.int .i64 ring) := HPa.out.1.c1
  clear hp hdr ho hlo hrd hg hal
  go_enter Tryz.func43, Tryz.ntmps43
  unfold ptr
  go_wp2_with fail
  go_region_held3 (fun w' => w'.cell? ⟨b, 0, none⟩ = some (.pointer (some ⟨g, 0, none⟩)) ∧ w'.cell? ⟨b, 1, none⟩ = some (.int .i64 ring))
    (first
      | (exact ⟨c0, c1⟩)
      | (exact ⟨c0a, c1a⟩)
      | (exact ⟨d0, d1⟩)
      | go_keep)
    (first
      | (go_at_call 70; refine (held_any _ F b g _ 0 (by first | exact HP.out.1.log | exact HPa.out.1.log)).mono ?_; rintro e w1 ⟨rfl, rfl⟩; rw [HRD.out])
      | (go_at_call 40; refine (size_any _ FD g _ (by first | exact HP.out.1.sec | exact HPa.out.1.sec)).mono ?_; rintro e w1 ⟨rfl, rfl⟩)
      | (go_at_call 73; refine (readFirst_any d.firm.length ring a n (w.alloc (.cells #[.int .i64 0, .int .u64 0] 91)).drew (by have := HG.out.1.hmax; omega) hr2 ha HG.out.1.n_pos (by have := HG.out.1.n_max; omega)).mono ?_; rintro e w2 ⟨rfl, hb2⟩; have HP2 := Lib.hid (show LogP w2 F b g mb FD ⟨ring, H.length, 0, 0, 0, [], false, d⟩ ∧ Moved F w F w2 from ⟨HPa.out.1.below hb2, HPa.out.2.trans ⟨But.of_below hb2 _, fun _ h => .inl h⟩⟩); have d0 : w2.cell? ⟨b, 0, none⟩ = some (.pointer (some ⟨g, 0, none⟩)) := HP2.out.1.c0; have d1 : w2.cell? ⟨b, 1, none⟩ = some (.int .i64 ring) := HP2.out.1.c1; have HBX := Lib.hid (show Blk w2 w.heap.size 91 [.int .i64 0, .int .u64 0] ∧ b ≠ w.heap.size from ⟨Blk.below (show Blk (w.alloc (.cells #[.int .i64 0, .int .u64 0] 91)).drew w.heap.size 91 [.int .i64 0, .int .u64 0] from Blk.new w #[.int .i64 0, .int .u64 0] 91) hb2 (by simp), by have := HL.out.lt b HP.out.1.fb; omega⟩); have e0 : w2.cell? ⟨w.heap.size, 0, none⟩ = some (.int .i64 0) := HBX.out.1.cell rfl; have e1 : w2.cell? ⟨w.heap.size, 1, none⟩ = some (.int .u64 0) := HBX.out.1.cell rfl; have f0 := HBX.out.1.frozen 0; have f1 := HBX.out.1.frozen 1; have hbw := HBX.out.2; have hbw2 := HBX.out.2.symm; clear hb2)
      | (go_at_call 73; refine (readFirst_any d.firm.length ring a n w.drew (by have := HG.out.1.hmax; omega) hr2 ha HG.out.1.n_pos (by have := HG.out.1.n_max; omega)).mono ?_; rintro e w2 ⟨rfl, hb2⟩; have HP2 := Lib.hid (show LogP w2 F b g mb FD ⟨ring, H.length, 0, 0, 0, [], false, d⟩ ∧ Moved F w F w2 from ⟨HP.out.1.below hb2, HP.out.2.trans ⟨But.of_below hb2 _, fun _ h => .inl h⟩⟩); have d0 : w2.cell? ⟨b, 0, none⟩ = some (.pointer (some ⟨g, 0, none⟩)) := HP2.out.1.c0; have d1 : w2.cell? ⟨b, 1, none⟩ = some (.int .i64 ring) := HP2.out.1.c1; have hbw := World.new_ne w2 _ d0; clear hb2))
  all_goals (
    first
    | (obtain ⟨X, hX⟩ : ∃ X, X = (w2.setCell ⟨w.heap.size, 0, none⟩ (.int .i64 a)).setCell ⟨w.heap.size, 1, none⟩ (.int .u64 n) := ⟨_, rfl⟩
       rw [← hX]
       have HX := openedA HP2.out.1 HP2.out.2 HL.out.lt HBX.out.1 hX
       clear hX hbw hbw2 e0 e1 f0 f1 HBX
       generalize w.heap.size = q at HX ⊢)
    | (obtain ⟨X, hX⟩ : ∃ X, X = w2.alloc (.cells #[.int .i64 a, .int .u64 n] 91) := ⟨_, rfl⟩
       rw [← hX]
       have HX := openedB HP2.out.1 HP2.out.2 hX
       clear hX hbw
       generalize w2.heap.size = q at HX ⊢))
  all_goals (
    have HY := Lib.hid HX
    clear c0 c1 c0a c1a d0 d1 HP2 HPa HP HX
    try (rename_i hHeld; clear hHeld)
    have x0 : X.cell? ⟨q, 0, none⟩ = some (.int .i64 a) := HY.out.2.2.1.cell rfl
    have x1 : X.cell? ⟨q, 1, none⟩ = some (.int .u64 n) := HY.out.2.2.1.cell rfl
    have k3 : X.cell? ⟨b, 3, none⟩ = some (.int .i64 0) := HY.out.1.c3
    have k4 : X.cell? ⟨b, 4, none⟩ = some (.int .u64 0) := HY.out.1.c4
    have f3 := HY.out.1.blk.frozen 3
    have f4 := HY.out.1.blk.frozen 4
    go_wp2_with fail
    have s1 := HY.out.1.set 3 (.int .i64 a) ⟨ring, H.length, a, 0, 0, [], false, d⟩ rfl rfl rfl
    have s2 := s1.1.set 4 (.int .u64 n) (mid ring H a n gs d 0) (by rw [mid_zero _ _ _ _ _ _ ha]; rfl) (by rw [mid_zero _ _ _ _ _ _ ha]) (by rw [mid_zero _ _ _ _ _ _ ha])
    have S2 := Lib.hid (And.intro s2.1.log (HY.out.2.1.trans (s1.2.trans s2.2)))
    clear s1 s2 x0 x1 k3 k4 f3 f4)
  all_goals (
    obtain ⟨Y, hY⟩ : ∃ Y, Y = (X.setCell ⟨b, 3, none⟩ (.int .i64 a)).setCell ⟨b, 4, none⟩ (.int .u64 n) := ⟨_, rfl⟩
    rw [← hY] at S2 ⊢
    clear hY
    go_loopw [] (fun wr => ∃ j : Nat, Hid (j ≤ gs.length) ∧ Hid (Log wr F b g (mid ring H a n gs d j) ∧ Moved F w F wr)) (fun wr => n + gs.length - (Go.RowKit.intOf ((wr.cell? ⟨b, 4, none⟩).getD undef)).toNat)
    case atStart => exact ⟨0, Lib.hid (Nat.zero_le _), S2⟩
    case round =>
      obtain ⟨j, hj, hM⟩ := hrel
      have c3 := hM.out.1.c3
      have c4 := hM.out.1.c4
      obtain ⟨t1, t2⟩ := mid_next HG.out.1 HG.out.2.1 HG.out.2.2 j hj.out
      have hbd := mid_bnd HG.out.1 j hj.out
      have HN := Lib.hid (And.intro t1 (And.intro t2 hbd))
      clear t1 t2 hbd
      go_wp2_with fail
      refine (heldInRing_any wr F b g _ _ hM.out.1 HN.out.2.2.r2 (by have := HN.out.2.2.r1; omega) (by have := HN.out.2.2.p; have := HN.out.2.2.r2; omega)).mono ?_
      rintro e w3 ⟨rfl, rfl⟩
      go_wp2_with fail
      refine (isNext_any w3 F b g (mid ring H a n gs d j) _ hM.out.1 HN.out.2.2.r2 (by rw [bs_size]; exact HN.out.1)).mono ?_
      rintro e w4 ⟨rfl, hb4⟩
      have hb := HN.out.2.1
      rw [bs_list]
      change _ = decide (j < gs.length) at hb
      have HB4 := Lib.hid (show Log w4 F b g (mid ring H a n gs d j) ∧ Moved F w F w4 from ⟨hM.out.1.below hb4, hM.out.2.trans ⟨But.of_below hb4 _, fun _ h => .inl h⟩⟩)
      clear hb4 c3
      rw [show ((Wl.readHead ((mid ring H a n gs d j).d.read (Wl.pos (mid ring H a n gs d j).ring (mid ring H a n gs d j).place : Nat)).1 (mid ring H a n gs d j).ring).2.2 && decide ((Wl.readHead ((mid ring H a n gs d j).d.read (Wl.pos (mid ring H a n gs d j).ring (mid ring H a n gs d j).place : Nat)).1 (mid ring H a n gs d j).ring).1 = (mid ring H a n gs d j).num)) = decide (j < gs.length) from hb]
      clear hb
      by_cases hlt : j < gs.length
      · rw [decide_eq_true hlt]
        have HS := Lib.hid (mid_stands HG.out.1 HG.out.2.1 HG.out.2.2 j hlt)
        have HT := Lib.hid (mid_take ring H a n gs d j hlt)
        have HLT := Lib.hid hlt
        generalize gs[j] = x at HS HT
        clear hlt
        go_wp2_with fail
        refine (retake_any w4 F b g (mid ring H a n gs d j) _ HB4.out.1 HS.out).mono ?_
        rintro e w5 ⟨rfl, hL5, hM5⟩
        rw [HT.out] at hL5
        have H5 := Lib.hid (And.intro hL5 (HB4.out.2.trans hM5))
        have c5 := hL5.c4
        clear hL5 hM5
        go_wp2
        go_roundw
        case rel => exact ⟨j + 1, Lib.hid HLT.out, H5⟩
        case measure =>
          rw [c5, c4]
          have e1 : (mid ring H a n gs d (j + 1)).num = n + (j + 1) := by show n + (gs.take (j + 1)).length = _; rw [List.length_take]; have := HLT.out; omega
          have e2 : (mid ring H a n gs d j).num = n + j := by show n + (gs.take j).length = _; rw [List.length_take]; have := HLT.out; omega
          rw [e1, e2]
          have := HLT.out
          simp only [Option.getD_some, Go.RowKit.intOf]
          omega
      · rw [decide_eq_false hlt]
        obtain rfl : j = gs.length := by have := hj.out; omega
        rw [mid_all] at HB4
        clear hlt c4
        go_wp2_with fail
        refine (isRing_any w4 F b g (Wl.opened ring H a n gs d) HB4.out.1 hr2 (by have := HG.out.1.r1; exact (by omega : 1 ≤ ring)) (fun i hi => (mid_ring HG.out.1 HG.out.2.1 HG.out.2.2 i hi).1) (fun i hi => (mid_ring HG.out.1 HG.out.2.1 HG.out.2.2 i hi).2)).mono ?_
        rintro e w5 ⟨rfl, hb5⟩
        have H5 := Lib.hid (show Log w5 F b g (Wl.opened ring H a n gs d) ∧ Moved F w F w5 from ⟨HB4.out.1.below hb5, HB4.out.2.trans ⟨But.of_below hb5 _, fun _ h => .inl h⟩⟩)
        clear hb5
        go_wp2
        go_ret
        exact ⟨rfl, H5.out⟩)
end Go.Proofs.YtahnhhhhfioibaaGreatDoor

namespace Go.Proofs.YtahnhhhhfioibaaGreatDoor
open Go.RowKit Lib

theorem blank_first (size ring a n : Nat) : Wl.blank (Dk.full (Wl.first size ring a n)) = false := by
  simp [Wl.blank, Dk.full, Wl.first, Wl.title]
set_option maxRecDepth 100000 in
set_option maxHeartbeats 4000000 in
/-- A disk that isn't new: it stays. -/
theorem begin_not (w : World) (F : Nat → Prop) (b g : Nat) (s : Wl.Lg) (hl : Log w F b g s) (hs : 1 ≤ s.d.firm.length) (hb : Wl.blank (s.d.read 0).1 = false) (hlen : (s.d.read 0).1.length ≤ 1000000) :
    Calls Tryz.prog 42 #[ptr b] w fun e w' => e = .returned (.bool false) ∧ Below w.heap.size w w' := by
  have HL := Lib.hid hl
  have HB := Lib.hid (And.intro hb hlen)
  obtain ⟨mb, FD, hp⟩ := hl
  have c0 := hp.c0
  have HP := Lib.hid hp.sec
  have hsI : (1 : Int) ≤ s.d.firm.length := by omega
  have hsI0 : (0 : Int) < s.d.firm.length := by omega
  clear hp hb hlen
  go_enter Tryz.func42, Tryz.ntmps42
  unfold ptr
  go_wp2_with fail
  refine (size_any w FD g s.d HP.out).mono ?_
  rintro e w1 ⟨rfl, rfl⟩
  go_wp2_with fail
  go_loopw [9] (fun i wr => i = .int .i64 0 ∧ wr = w1) (fun _ _ => 0)
  case atStart => exact ⟨rfl, rfl⟩
  case round =>
    obtain ⟨rfl, rfl⟩ := hrel
    go_wp2_with fail
    refine (held_any _ F b g s 0 HL.out).mono ?_
    rintro e w2 ⟨rfl, rfl⟩
    go_wp2_with fail
    refine (wblank_any _ _ (by rw [bs_size]; have := HB.out.2; omega)).mono ?_
    rintro e w3 ⟨rfl, nq, rfl⟩
    rw [bs_list, HB.out.1]
    go_wp2
    go_ret
    exact ⟨rfl, below_drawn _ _⟩
/-- A disk of noughts. -/
def begot (ring size : Nat) : Wl.Lg := ⟨ring, size - 1 - ring, 0, 1, 0, [], false, Dk.fresh size⟩
set_option maxRecDepth 100000 in
set_option maxHeartbeats 4000000 in
theorem begin_new (w : World) (F : Nat → Prop) (b g ring size : Nat) (hl : Log w F b g ⟨ring, size - 1 - ring, 0, 0, 0, [], false, Dk.fresh size⟩) (hr : ring ≤ 4096) (hs : size ≤ 65536) (hs1 : 1 ≤ size) :
    Calls Tryz.prog 42 #[ptr b] w fun e w' => e = .returned (.bool true) ∧ ∃ F', Log w' F' b g ((begot ring size).with (Wl.wr (false, Dk.fresh size) (0, Wl.first size ring 0 1))) ∧ Moved F w F' w' := by
  have HL := Lib.hid hl
  obtain ⟨mb, FD, hp⟩ := hl
  have c0 := hp.c0
  have HP := Lib.hid hp.sec
  have hsI : (size : Int) ≤ 65536 := by omega
  have hlen : (Dk.fresh size).firm.length = size := by simp [Dk.fresh]
  have hrd : ∀ k, k < size → ((Dk.fresh size).read (k : Nat)).1 = Dk.full [] := by
    intro k hk
    rw [Dk.read_at rfl (show (Dk.fresh size).now[k]? = some (Dk.full []) by show (Dk.puts (List.replicate size (Dk.full [])) [])[k]? = _; rw [Dk.puts_nil, List.getElem?_replicate, if_pos hk])]
  have HRD := Lib.hid hrd
  clear hp hrd
  go_enter Tryz.func42, Tryz.ntmps42
  unfold ptr
  go_wp2_with fail
  refine (size_any w FD g _ HP.out).mono ?_
  rintro e w1 ⟨rfl, rfl⟩
  rw [hlen]
  go_wp2_with fail
  go_loopw [9] (fun i wr => ∃ k : Nat, k ≤ size ∧ i = .int .i64 k ∧ Hid (Below w1.heap.size w1 wr)) (fun i _ => size - (Go.RowKit.intOf i).toNat)
  case atStart => exact ⟨0, Nat.zero_le _, rfl, Lib.hid (Below.refl _ _)⟩
  case round =>
    obtain ⟨k, hk, rfl, hB⟩ := hrel
    by_cases hlt : k < size
    · have hI : (k : Int) < size := by omega
      have hkI : (k : Int) ≤ 65536 := by omega
      have hk0 : (0 : Int) ≤ k := by omega
      have HK := Lib.hid hlt
      clear hlt hk
      go_wp2_with fail
      refine (held_any wr F b g _ k (HL.out.below hB.out)).mono ?_
      rintro e w2 ⟨rfl, rfl⟩
      rw [show ((Dk.fresh size).read (k : Nat)).1 = Dk.full [] from HRD.out k HK.out]
      go_wp2_with fail
      refine (wblank_any _ _ (by rw [bs_size, Wl.full_nil]; decide)).mono ?_
      rintro e w3 ⟨rfl, nq, rfl⟩
      rw [bs_list, Wl.blank_nought]
      have HB3 := Lib.hid (hB.out.trans ((below_drawn w2 nq).mono hB.out.size))
      go_wp2
      go_roundw
      case rel => exact ⟨k + 1, HK.out, by go_num, HB3⟩
      case measure => have := HK.out; simp [Go.RowKit.intOf]; omega
    · obtain rfl : size = k := by omega
      have hL := HL.out.below hB.out
      have k3 : wr.cell? ⟨b, 3, none⟩ = some (.int .i64 0) := hL.c3
      have k4 : wr.cell? ⟨b, 4, none⟩ = some (.int .u64 0) := hL.c4
      obtain ⟨mq, FQ, hq⟩ := hL
      have f3 := hq.blk.frozen 3
      have f4 := hq.blk.frozen 4
      have HQ := Lib.hid hq
      clear hq
      go_wp2_with fail
      have s1 := HQ.out.set 3 (.int .i64 0) ⟨ring, size - 1 - ring, 0, 0, 0, [], false, Dk.fresh size⟩ rfl rfl rfl
      have s2 := s1.1.set 4 (.int .u64 1) (begot ring size) rfl rfl rfl
      obtain ⟨Y, hY⟩ : ∃ Y, Y = (wr.setCell ⟨b, 3, none⟩ (.int .i64 0)).setCell ⟨b, 4, none⟩ (.int .u64 1) := ⟨_, rfl⟩
      have hM := s1.2.trans s2.2
      have hL2 := s2.1
      rw [← hY] at hM hL2 ⊢
      have hd7 : But (fun _ => False) Y Y.drew := (But.refl _ Y).drew
      have HY := Lib.hid (show LogP Y.drew F b g mq FQ (begot ring size) ∧ Moved F w1 F Y.drew from ⟨hL2.but hd7 (fun _ _ h => h), (show Moved F w1 F wr from ⟨But.of_below hB.out _, fun _ h => .inl h⟩).trans (hM.trans ⟨hd7.mono (fun _ _ h => h.elim), fun _ h => .inl h⟩)⟩)
      clear s1 s2 hY hM hL2 hd7 k3 k4 f3 f4 c0
      have c0 : Y.drew.cell? ⟨b, 0, none⟩ = some (.pointer (some ⟨g, 0, none⟩)) := HY.out.1.c0
      have c1 : Y.drew.cell? ⟨b, 1, none⟩ = some (.int .i64 ring) := HY.out.1.c1
      have c3 : Y.drew.cell? ⟨b, 3, none⟩ = some (.int .i64 0) := HY.out.1.c3
      have c4 : Y.drew.cell? ⟨b, 4, none⟩ = some (.int .u64 1) := HY.out.1.c4
      go_region_held3 (fun w' => w'.cell? ⟨b, 0, none⟩ = some (.pointer (some ⟨g, 0, none⟩)) ∧ w'.cell? ⟨b, 1, none⟩ = some (.int .i64 ring) ∧ w'.cell? ⟨b, 3, none⟩ = some (.int .i64 0) ∧ w'.cell? ⟨b, 4, none⟩ = some (.int .u64 1))
        (first
          | (exact ⟨c0, c1, c3, c4⟩)
          | (exact ⟨d0, d1, d3, d4⟩)
          | go_keep)
        (first
          | (go_at_call 40; refine (size_any _ FQ g _ HY.out.1.sec).mono ?_; rintro e w4 ⟨rfl, rfl⟩)
          | (go_at_call 72; refine (firstText_any (begot ring size).d.firm.length ring 0 1 _ (by have := hlen; exact (by omega : (Dk.fresh size).firm.length ≤ 1000000)) (by omega) (by omega) (by decide)).mono ?_; rintro e w8 ⟨rfl, hb8⟩; have HL8 := Lib.hid (show LogP w8 F b g mq FQ (begot ring size) ∧ Moved F w1 F w8 from ⟨HY.out.1.below hb8, HY.out.2.trans ⟨But.of_below hb8 _, fun _ h => .inl h⟩⟩); have d0 : w8.cell? ⟨b, 0, none⟩ = some (.pointer (some ⟨g, 0, none⟩)) := HL8.out.1.c0; have d1 : w8.cell? ⟨b, 1, none⟩ = some (.int .i64 ring) := HL8.out.1.c1; have d3 : w8.cell? ⟨b, 3, none⟩ = some (.int .i64 0) := HL8.out.1.c3; have d4 : w8.cell? ⟨b, 4, none⟩ = some (.int .u64 1) := HL8.out.1.c4; clear hb8)
          | (go_at_call 71; refine (lwrite_any _ F b g (begot ring size) 0 _ HL8.out.1.log (by show ([] : List (Nat × List UInt8)).length ≤ _; simp)).mono ?_; rintro e w9 ⟨rfl, F9, hL9, hM9⟩; have HL9 := Lib.hid (show Log w9 F9 b g ((begot ring size).with (Wl.wr (false, Dk.fresh size) (0, Wl.first (begot ring size).d.firm.length ring 0 1))) ∧ Moved F w1 F9 w9 from ⟨hL9, HL8.out.2.trans hM9⟩); obtain ⟨_, _, hp9⟩ := hL9; have d0 : w9.cell? ⟨b, 0, none⟩ = some (.pointer (some ⟨g, 0, none⟩)) := hp9.c0; have d1 : w9.cell? ⟨b, 1, none⟩ = some (.int .i64 ring) := hp9.c1; have d3 : w9.cell? ⟨b, 3, none⟩ = some (.int .i64 0) := hp9.c3; have d4 : w9.cell? ⟨b, 4, none⟩ = some (.int .u64 1) := hp9.c4; clear hp9 hM9))
      clear c0 c1 c3 c4 d0 d1 d3 d4
      go_wp2
      go_ret
      have e1 : (begot ring size).d.firm.length = size := hlen
      rw [e1] at HL9
      exact ⟨rfl, F9, HL9.out⟩
end Go.Proofs.YtahnhhhhfioibaaGreatDoor

namespace Go.Proofs.YtahnhhhhfioibaaGreatDoor
open Go.RowKit Lib

/-- A log that is just made. -/
def bare (ring homes : Nat) (d : Dk.Disk) : Wl.Lg := ⟨ring, homes, 0, 0, 0, [], false, d⟩
theorem LogP.make {w : World} {FD : Nat → Prop} {g ring homes : Nat} {d : Dk.Disk} (hs : Sec w FD g d) :
    LogP ((w.alloc (.map #[] 0)).alloc (.cells (lcells g w.heap.size (bare ring homes d)).toArray 93)) (both FD (fun k => k = w.heap.size ∨ k = w.heap.size + 1)) (w.heap.size + 1) g w.heap.size FD (bare ring homes d) ∧
    Moved FD w (both FD (fun k => k = w.heap.size ∨ k = w.heap.size + 1)) ((w.alloc (.map #[] 0)).alloc (.cells (lcells g w.heap.size (bare ring homes d)).toArray 93)) := by
  have hb : But (fun _ => False) w ((w.alloc (.map #[] 0)).alloc (.cells (lcells g w.heap.size (bare ring homes d)).toArray 93)) := ((But.refl _ w).alloc _).alloc _
  have hlt := hs.lt
  refine ⟨⟨?_, ?_, hs.but hb (fun _ _ h => h), fun h => by have := hlt _ h; omega, fun h => by have := hlt _ h; omega, .inr (.inr rfl), .inr (.inl rfl), fun k hk => .inl hk, fun k hk => ?_⟩, hb.mono (fun _ _ h => h.elim), fun k hk => ?_⟩
  · have := Blk.new (w.alloc (.map #[] 0)) (lcells g w.heap.size (bare ring homes d)).toArray 93
    rw [World.size_alloc] at this
    exact this
  · exact (IMap.made Tryz.prog KInt contentE w).but ((But.refl (fun _ => False) _).alloc _) id
  · simp only [World.size_alloc]
    rcases hk with hk | hk | hk
    · have := hlt k hk; omega
    · omega
    · omega
  · rcases hk with hk | hk | hk
    · exact .inl hk
    · exact .inr (by omega)
    · exact .inr (by omega)
set_option maxRecDepth 100000 in
set_option maxHeartbeats 2000000 in
theorem open_arg (w : World) (FD : Nat → Prop) (g : Nat) (d : Dk.Disk) (ring : Int) (hs : Sec w FD g d) (hl : d.firm.length ≤ 65536) (hb : ring < 4 ∨ 4096 < ring ∨ (d.firm.length : Int) < ring + 2) :
    Calls Tryz.prog 9 #[ptr g, .int .i64 ring] w fun e w' => e = .returned (.tuple #[.pointer none, .int .i64 1]) ∧ w' = w := by
  have HS := Lib.hid hs
  have HB := Lib.hid hb
  clear hs hb
  have hlI : (d.firm.length : Int) ≤ 65536 := by omega
  go_enter Tryz.func9, Tryz.ntmps9
  unfold ptr
  by_cases h1 : ring < 4
  · have h1' : ring ≤ 3 := by omega
    go_wp2
    go_ret2
    exact ⟨rfl, rfl⟩
  · have h1' : 4 ≤ ring := by omega
    by_cases h2 : 4096 < ring
    · go_wp2
      go_ret2
      exact ⟨rfl, rfl⟩
    · have h2' : ring ≤ 4096 := by omega
      have h3 : (d.firm.length : Int) < ring + 2 := by have := HB.out; omega
      clear h1 h2
      go_wp2_with fail
      refine (size_any w FD g d HS.out).mono ?_
      rintro e w1 ⟨rfl, rfl⟩
      go_wp2
      go_ret2
      exact ⟨rfl, rfl⟩
/-- What an opening hands back: no log where the disk goes down. -/
def OpenTo (w w' : World) (FD : Nat → Prop) (g : Nat) (s : Wl.Lg) (r : Bool × Dk.Disk) (e : Ending) : Prop := ∃ b F', e = .returned (if r.1 then .tuple #[.pointer none, .int .i64 3] else .tuple #[ptr b, .int .i64 0]) ∧
      Log w' F' b g (s.with r) ∧ Moved FD w F' w'
set_option maxRecDepth 100000 in
set_option maxHeartbeats 4000000 in
/-- A log stands on the disk. -/
theorem open_good (w : World) (FD : Nat → Prop) (g ring : Nat) (d : Dk.Disk) (a n : Nat) (gs : List Wl.Grp) (H : List Wl.Text) (hs : Sec w FD g d) (hg : Wl.Good ring d.firm a n gs H) (ho : d.off = false) (hlo : d.loose = []) :
    Calls Tryz.prog 9 #[ptr g, .int .i64 ring] w fun e w' => OpenTo w w' FD g (Wl.opened ring H a n gs d) (Wl.fl (false, d)) e := by
  have HS := Lib.hid hs
  have HG := Lib.hid (And.intro hg (And.intro ho hlo))
  have hr1 : (4 : Int) ≤ ring := by have := hg.r1; omega
  have hr2 : (ring : Int) ≤ 4096 := by have := hg.r2; omega
  have hlen : (d.firm.length : Int) = 1 + ring + H.length := by have := hg.len; omega
  have hH1 : (1 : Int) ≤ H.length := by have := hg.hpos; omega
  have hH2 : (H.length : Int) ≤ 65536 := by have := hg.hmax; have := hg.len; omega
  have HHo := Lib.hid (show (1 + (ring : Int) + H.length) - 1 - ring = H.length by omega)
  have h3 : ¬ (1 + (ring : Int) + H.length) < ring + 2 := by omega
  clear hs hg ho hlo
  have hmm := @run_makeMap Tryz.prog
  go_enter Tryz.func9, Tryz.ntmps9
  unfold ptr
  go_wp2_with fail
  refine (size_any w FD g d HS.out).mono ?_
  rintro e w1 ⟨rfl, rfl⟩
  rw [hlen]
  go_wp2_with fail
  refine (down_any w1 FD g d HS.out).mono ?_
  rintro e w2 ⟨rfl, rfl⟩
  rw [HG.out.2.1]
  go_wp2_with fail
  refine (size_any w2 FD g d HS.out).mono ?_
  rintro e w3 ⟨rfl, rfl⟩
  rw [hlen]
  go_wp2_with fail
  rw [HHo.out]
  have hmk := LogP.make (ring := ring) (homes := H.length) HS.out
  obtain ⟨V, hV⟩ : ∃ V, V = ((w3.alloc (.map #[] 0)).alloc (.cells (lcells g w3.heap.size (bare ring H.length d)).toArray 93)) := ⟨_, rfl⟩
  rw [← hV] at hmk
  change Calls Tryz.prog _ _ ((w3.alloc (.map #[] 0)).alloc (.cells (lcells g w3.heap.size (bare ring H.length d)).toArray 93)) _
  rw [← hV]
  have HK := Lib.hid (show ∃ F, Log V F (w3.heap.size + 1) g (bare ring H.length d) ∧ Moved FD w3 F V from ⟨_, hmk.1.log, hmk.2⟩)
  clear hmk hV hmm
  obtain ⟨b, hb⟩ : ∃ b, b = w3.heap.size + 1 := ⟨_, rfl⟩
  rw [← hb] at HK ⊢
  clear hb
  obtain ⟨F, hL, hM⟩ := HK.out
  have HL := Lib.hid (And.intro hL hM)
  clear hL hM HK
  have hrd : d.read 0 = (Dk.full (Wl.first d.firm.length ring a n), 0) := by
    have h0 : d.read ((0 : Nat) : Int) = (Dk.full (Wl.first d.firm.length ring a n), 0) := Dk.read_at HG.out.2.1 (by unfold Dk.Disk.now; rw [HG.out.2.2, Dk.puts_nil]; exact HG.out.1.first)
    exact h0
  have HRD := Lib.hid hrd
  clear hrd
  refine (begin_not V F b g (bare ring H.length d) HL.out.1 (by show 1 ≤ d.firm.length; omega) (by show Wl.blank (d.read 0).1 = false; rw [HRD.out]; exact blank_first _ _ _ _) (by show (d.read 0).1.length ≤ _; rw [HRD.out]; show (Dk.full (Wl.first d.firm.length ring a n)).length ≤ _; rw [Dk.full_length _ (by rw [Wl.first_length]; decide)]; decide)).mono ?_
  rintro e w4 ⟨rfl, hb4⟩
  have H4 := Lib.hid (show Log w4 F b g (bare ring H.length d) ∧ Moved FD w3 F w4 from ⟨HL.out.1.below hb4, HL.out.2.trans ⟨But.of_below hb4 _, fun _ h => .inl h⟩⟩)
  clear hb4
  go_wp2_with fail
  refine (resume_any w4 F b g ring d a n gs H H4.out.1 HG.out.1 HG.out.2.1 HG.out.2.2).mono ?_
  rintro e w5 ⟨rfl, hL5, hM5⟩
  have H5 := Lib.hid (And.intro hL5 (H4.out.2.trans hM5))
  clear hL5 hM5
  go_wp2_with fail
  refine (lflush_any w5 F b g _ H5.out.1).mono ?_
  rintro e w6 ⟨rfl, F6, hL6, hM6⟩
  change Log w6 F6 b g ((Wl.opened ring H a n gs d).with (Wl.fl (false, d))) at hL6
  obtain ⟨r, hr⟩ : ∃ r, r = Wl.fl (false, d) := ⟨_, rfl⟩
  rw [← hr] at hL6
  have HR := Lib.hid hr
  have c7 : w6.cell? ⟨b, 7, none⟩ = some (.bool r.1) := hL6.c7
  have H6 := Lib.hid (And.intro hL6 (H5.out.2.trans hM6))
  clear hL6 hM6 hr
  by_cases hz : r.1 = true
  · rw [hz] at c7
    have HZ := Lib.hid hz
    clear hz
    go_wp2
    go_ret2
    rw [← HR.out]
    exact ⟨b, F6, by rw [HZ.out]; rfl, H6.out.1, H6.out.2⟩
  · have hz' : r.1 = false := by simpa using hz
    rw [hz'] at c7
    have HZ := Lib.hid hz'
    clear hz hz'
    go_wp2
    go_ret2
    rw [← HR.out]
    exact ⟨b, F6, by rw [HZ.out]; rfl, H6.out.1, H6.out.2⟩
set_option maxRecDepth 100000 in
set_option maxHeartbeats 4000000 in
/-- A new disk. -/
theorem open_fresh (w : World) (FD : Nat → Prop) (g ring size : Nat) (hs : Sec w FD g (Dk.fresh size)) (hr1 : 4 ≤ ring) (hr2 : ring ≤ 4096) (hs1 : ring + 2 ≤ size) (hs2 : size ≤ 65536) :
    Calls Tryz.prog 9 #[ptr g, .int .i64 ring] w fun e w' => ∃ b F', e = .returned (.tuple #[ptr b, .int .i64 0]) ∧ Log w' F' b g (Wl.begun size ring) ∧ Moved FD w F' w' := by
  have HS := Lib.hid hs
  have HN := Lib.hid (And.intro hr1 (And.intro hr2 (And.intro hs1 hs2)))
  have i1 : (4 : Int) ≤ ring := by omega
  have i2 : (ring : Int) ≤ 4096 := by omega
  have i3 : (ring : Int) + 2 ≤ size := by omega
  have i4 : (size : Int) ≤ 65536 := by omega
  have hlen : (Dk.fresh size).firm.length = size := by simp [Dk.fresh]
  have HHo := Lib.hid (show ((size : Int) - 1 - ring) = ((size - 1 - ring : Nat) : Int) by omega)
  clear hs hr1 hr2 hs1 hs2
  have hmm := @run_makeMap Tryz.prog
  go_enter Tryz.func9, Tryz.ntmps9
  unfold ptr
  go_wp2_with fail
  refine (size_any w FD g _ HS.out).mono ?_
  rintro e w1 ⟨rfl, rfl⟩
  rw [hlen]
  go_wp2_with fail
  refine (down_any w1 FD g _ HS.out).mono ?_
  rintro e w2 ⟨rfl, rfl⟩
  rw [show (Dk.fresh size).off = false from rfl]
  go_wp2_with fail
  refine (size_any w2 FD g _ HS.out).mono ?_
  rintro e w3 ⟨rfl, rfl⟩
  rw [hlen]
  go_wp2_with fail
  rw [HHo.out]
  have hmk := LogP.make (ring := ring) (homes := (size - 1 - ring)) HS.out
  obtain ⟨V, hV⟩ : ∃ V, V = ((w3.alloc (.map #[] 0)).alloc (.cells (lcells g w3.heap.size (bare ring (size - 1 - ring) (Dk.fresh size))).toArray 93)) := ⟨_, rfl⟩
  rw [← hV] at hmk
  change Calls Tryz.prog _ _ ((w3.alloc (.map #[] 0)).alloc (.cells (lcells g w3.heap.size (bare ring (size - 1 - ring) (Dk.fresh size))).toArray 93)) _
  rw [← hV]
  have HK := Lib.hid (show ∃ F, Log V F (w3.heap.size + 1) g (bare ring (size - 1 - ring) (Dk.fresh size)) ∧ Moved FD w3 F V from ⟨_, hmk.1.log, hmk.2⟩)
  clear hmk hV hmm
  obtain ⟨b, hb⟩ : ∃ b, b = w3.heap.size + 1 := ⟨_, rfl⟩
  rw [← hb] at HK ⊢
  clear hb
  obtain ⟨F, hL, hM⟩ := HK.out
  have HL := Lib.hid (And.intro hL hM)
  clear hL hM HK
  refine (begin_new V F b g ring size HL.out.1 HN.out.2.1 HN.out.2.2.2 (by have := HN.out.2.2.1; omega)).mono ?_
  rintro e w4 ⟨rfl, F4, hL4, hM4⟩
  have H4 := Lib.hid (And.intro hL4 (HL.out.2.trans hM4))
  clear hL4 hM4
  go_wp2_with fail
  refine (lflush_any w4 F4 b g _ H4.out.1).mono ?_
  rintro e w6 ⟨rfl, F6, hL6, hM6⟩
  change Log w6 F6 b g ((begot ring size).with (Wl.fl (Wl.wr (false, Dk.fresh size) (0, Wl.first size ring 0 1)))) at hL6
  rw [Wl.begun_with size ring (by have := HN.out.2.2.1; omega)] at hL6
  have c7 : w6.cell? ⟨b, 7, none⟩ = some (.bool false) := hL6.c7
  have H6 := Lib.hid (show Log w6 F6 b g (Wl.begun size ring) ∧ Moved FD w3 F6 w6 from ⟨hL6, H4.out.2.trans hM6⟩)
  clear hL6 hM6
  go_wp2
  go_ret2
  exact ⟨b, F6, rfl, H6.out⟩
end Go.Proofs.YtahnhhhhfioibaaGreatDoor

namespace Go.Proofs.YtahnhhhhfioibaaGreatDoor
open Go.RowKit Lib

theorem Wl.checked_small (ring size a n : Nat) (W : Wl.Grp) (s : Bool × Dk.Disk) : (Wl.checked ring size a n W s).2.firm.length = s.2.firm.length ∧ (Wl.checked ring size a n W s).2.loose.length ≤ s.2.loose.length + W.length + 1 := by
  unfold Wl.checked
  refine ⟨by rw [Wl.fl_firm, Wl.wr_firm, Wl.fl_firm, Wl.wrs_firm], ?_⟩
  have h1 := Wl.fl_loose (Wl.wr (Wl.fl (Wl.wrs s (Wl.homeWrites ring W))) (0, Wl.first size ring a n))
  have h2 := Wl.wr_loose (Wl.fl (Wl.wrs s (Wl.homeWrites ring W))) (0, Wl.first size ring a n)
  have h3 := Wl.fl_loose (Wl.wrs s (Wl.homeWrites ring W))
  have h4 := Wl.wrs_loose (Wl.homeWrites ring W) s
  rw [Wl.homeWrites_length] at h4
  omega
theorem Bnd.check {s : Wl.Lg} (h : Bnd s) : Bnd s.check.2 ∧ s.check.2.d.loose.length ≤ s.d.loose.length + s.wait.length + 1 := by
  obtain ⟨a1, a2, a3, a4, a5, a6, a7, a8, a9⟩ := h
  obtain ⟨e1, e2⟩ := Wl.checked_small s.ring s.d.firm.length s.place s.num s.wait (s.down, s.d)
  unfold Wl.Lg.check
  split
  · exact ⟨⟨a1, a2, a3, a4, a5, a6, a7, a8, a9⟩, by show s.d.loose.length ≤ _; omega⟩
  · split
    · exact ⟨⟨a1, a2, a3, a4, a5, a6, a7, a8, a9⟩, by show s.d.loose.length ≤ _; omega⟩
    · split
      · exact ⟨⟨a1, a2, a3, a4, a5, a6, a7, a8, e1.trans a9⟩, e2⟩
      · exact ⟨⟨a1, a2, a3, a4, a5, Nat.zero_le _, Wl.fits_nil _, Nat.zero_le _, e1.trans a9⟩, e2⟩
theorem Up.of {s : Wl.Lg} (h : Bnd s) (hl : s.d.loose.length ≤ 900000) (ps : List (Int × Wl.Text)) : Up s (Wl.gather s.homes [] ps).2 := by
  have hc := h.check
  have hw := h.wl
  have hh := h.h
  refine ⟨h, by omega, ?_, ?_, ?_⟩
  · unfold Wl.Lg.ready
    split
    · exact hc.1
    · exact h
  · unfold Wl.Lg.ready
    split
    · have := hc.2; omega
    · omega
  · exact Nat.le_trans (Wl.fits_length (Wl.gather_fits s.homes ps [] (Wl.fits_nil _))) hh
theorem Wl.Live.loose0 {ring N : Nat} {s : Wl.Lg} {H : List Wl.Text} (h : Wl.Live ring N s H) : s.d.loose.length = 0 := by rw [h.firm]; rfl
/-- What a call leaves of a log that was up: up, or down and safe. -/
def Left (w w' : World) (F : Nat → Prop) (b g : Nat) (Q : Wl.Lg → Prop) : Prop := ∃ F' s', Log w' F' b g s' ∧ Moved F w F' w' ∧ Q s'
def CommitTo (ring N : Nat) (s : Wl.Lg) (H : List Wl.Text) (ps : List (Int × Wl.Text)) (e : Ending) (s' : Wl.Lg) : Prop :=
  (e = .returned (.int .i64 (Wl.comm ring H ps).1) ∧ Wl.Live ring (N + 1) s' (Wl.comm ring H ps).2 ∧ (s.d.fuel < 0 → s'.d.fuel < 0)) ∨
  (e = .returned (.int .i64 3) ∧ Wl.Dead ring (N + 1) s' (fun K => K = H ∨ K = (Wl.comm ring H ps).2) ∧ 0 ≤ s.d.fuel)
theorem commit_live (w : World) (F : Nat → Prop) (b g ring N : Nat) (s : Wl.Lg) (H : List Wl.Text) (va : Value) (ll : List (Value × List PutD)) (hl : Log w F b g s) (hv : Wl.Live ring N s H) (hN : N + 1 < 1000000) (ha : RdL w va ll) :
    Calls Tryz.prog 54 #[ptr b, va] w fun e w' => Left w w' F b g (CommitTo ring N s H (ptsL ll) e) := by
  refine (commit_any w F b g s va ll hl (fun _ => Up.of hv.bnd (by rw [hv.loose0]; omega) _) ha).mono ?_
  rintro e w' ⟨rfl, F', hL, hM⟩
  refine ⟨F', _, hL, hM, ?_⟩
  rcases hv.commit hN (ptsL ll) with ⟨h1, h2, h3⟩ | ⟨h1, h2, h3⟩
  · exact .inl ⟨by rw [h1], h2, h3⟩
  · exact .inr ⟨by rw [h1], h2, h3⟩
def CheckTo (ring N : Nat) (s : Wl.Lg) (H : List Wl.Text) (e : Ending) (s' : Wl.Lg) : Prop :=
  (e = .returned (.int .i64 0) ∧ Wl.Live ring N s' H ∧ (s.d.fuel < 0 → s'.d.fuel < 0)) ∨ (e = .returned (.int .i64 3) ∧ Wl.Dead ring N s' (· = H) ∧ 0 ≤ s.d.fuel)
theorem check_live (w : World) (F : Nat → Prop) (b g ring N : Nat) (s : Wl.Lg) (H : List Wl.Text) (hl : Log w F b g s) (hv : Wl.Live ring N s H) :
    Calls Tryz.prog 83 #[ptr b] w fun e w' => Left w w' F b g (CheckTo ring N s H e) := by
  refine (check_any w F b g s hl hv.bnd (by rw [hv.loose0]; omega)).mono ?_
  rintro e w' ⟨rfl, F', hL, hM⟩
  refine ⟨F', _, hL, hM, ?_⟩
  rcases hv.check with ⟨h1, h2, h3, _⟩ | ⟨h1, h2, h3, _⟩
  · exact .inl ⟨by rw [h1], h2, h3⟩
  · exact .inr ⟨by rw [h1], h2, h3⟩
/-- What the document answers to Read. -/
def homeOf (H : List Wl.Text) (i : Int) : Wl.Text × Int := if 0 ≤ i ∧ i < H.length then (H.getD i.toNat [], 0) else ([], 2)
theorem live_read {ring N : Nat} {s : Wl.Lg} {H : List Wl.Text} (h : Wl.Live ring N s H) (i : Int) : s.read i = homeOf H i := by
  obtain ⟨h1, h2, h3, h4, h5, h6, h7, h8, h9, h10, h11, h12, h13⟩ := h.read
  unfold Wl.Lg.read homeOf
  rw [h.off_eq, if_neg (by decide)]
  have e2 := h.homes_eq
  have e1 := h.ring_eq
  by_cases hi : 0 ≤ i ∧ i < H.length
  · have hh : s.has i = true := by simp [Wl.Lg.has, e2, hi.1, hi.2]
    rw [hh, if_neg (by decide), if_pos hi]
    obtain ⟨j, rfl⟩ : ∃ j : Nat, i = j := ⟨i.toNat, by omega⟩
    rw [Int.toNat_natCast]
    have hj : j < H.length := by omega
    have hx := h13 j hj
    rw [List.getElem?_eq_getElem hj] at hx
    rw [List.getD_eq_getElem?_getD, List.getElem?_eq_getElem hj, Option.getD_some]
    cases hl : Wl.look j s.wait with
    | some t =>
      rw [hl] at hx
      have hx' : H[j] = t := by simpa using hx
      rw [hx']
    | none =>
      rw [hl, Option.none_or] at hx
      show s.d.read ((1 + s.ring + j : Nat) : Int) = _
      rw [e1]
      exact Dk.read_at h.on hx.symm
  · have hh : s.has i = false := by
      cases hc : s.has i with
      | false => rfl
      | true =>
        exfalso
        have : 0 ≤ i ∧ i < s.homes := by simpa [Wl.Lg.has] using hc
        rw [e2] at this
        exact hi this
    rw [hh, if_neg hi]; rfl
theorem read_live (w : World) (F : Nat → Prop) (b g ring N : Nat) (s : Wl.Lg) (H : List Wl.Text) (i : Int) (hl : Log w F b g s) (hv : Wl.Live ring N s H) :
    Calls Tryz.prog 25 #[ptr b, .int .i64 i] w fun e w' => e = .returned (.tuple #[.string (bs (homeOf H i).1), .int .i64 (homeOf H i).2]) ∧ Below w.heap.size w w' := by
  refine (lread_any w F b g s i hl hv.bnd).mono ?_
  rintro e w' ⟨rfl, hb⟩
  rw [live_read hv i]
  exact ⟨rfl, hb⟩
/-- An opening of a disk on which a log stands. -/
def OpenedTo (ring N : Nat) (d : Dk.Disk) (H : List Wl.Text) (b : Nat) (e : Ending) (s' : Wl.Lg) : Prop :=
  (e = .returned (.tuple #[ptr b, .int .i64 0]) ∧ Wl.Live ring N s' H ∧ (d.fuel < 0 → s'.d.fuel < 0)) ∨ (e = .returned (.tuple #[.pointer none, .int .i64 3]) ∧ Wl.Dead ring N s' (· = H) ∧ 0 ≤ d.fuel)
theorem open_live (w : World) (FD : Nat → Prop) (g ring N : Nat) (d : Dk.Disk) (a n : Nat) (gs : List Wl.Grp) (H : List Wl.Text) (hs : Sec w FD g d) (hg : Wl.Good ring d.firm a n gs H) (ho : d.off = false) (hlo : d.loose = []) (hN : n + gs.length ≤ N) :
    Calls Tryz.prog 9 #[ptr g, .int .i64 ring] w fun e w' => ∃ b, Left w w' FD b g (OpenedTo ring N d H b e) := by
  refine (open_good w FD g ring d a n gs H hs hg ho hlo).mono ?_
  rintro e w' ⟨b, F', rfl, hL, hM⟩
  refine ⟨b, F', _, hL, hM, ?_⟩
  rcases Wl.open_step hg ho hlo with ⟨h1, h2, h3⟩ | ⟨h1, h2, h3⟩
  · exact .inl ⟨by rw [h1]; rfl, h2.mono hN, h3⟩
  · exact .inr ⟨by rw [h1]; rfl, h2.mono hN (fun _ e => e), h3⟩
/-- Behind a fall of a disk that is safe: with the fuel n or without a limit. -/
theorem open_fallen (w : World) (FD : Nat → Prop) (g ring N : Nat) (d0 d : Dk.Disk) (keep : List Bool) (S : List Wl.Text → Prop) (hs : Sec w FD g d) (hd : d.firm = (d0.fall keep).firm) (ho : d.off = false) (hlo : d.loose = []) (hS : Wl.Safe ring N d0 S) :
    Calls Tryz.prog 9 #[ptr g, .int .i64 ring] w fun e w' => ∃ b H, S H ∧ Left w w' FD b g (OpenedTo ring N d H b e) := by
  obtain ⟨a, n, gs, H, hg, hH, hN⟩ := hS keep
  refine (open_live w FD g ring N d a n gs H hs (by rw [hd]; exact hg) ho hlo hN).mono ?_
  rintro e w' ⟨b, h⟩
  exact ⟨b, H, hH, h⟩
theorem open_begun (w : World) (FD : Nat → Prop) (g ring size : Nat) (hs : Sec w FD g (Dk.fresh size)) (hr1 : 4 ≤ ring) (hr2 : ring ≤ 4096) (hs1 : ring + 2 ≤ size) (hs2 : size ≤ 65536) :
    Calls Tryz.prog 9 #[ptr g, .int .i64 ring] w fun e w' => ∃ b, e = .returned (.tuple #[ptr b, .int .i64 0]) ∧ Left w w' FD b g (fun s' => Wl.Live ring 1 s' (Wl.noughts (size - 1 - ring)) ∧ s'.d.fuel < 0) := by
  refine (open_fresh w FD g ring size hs hr1 hr2 hs1 hs2).mono ?_
  rintro e w' ⟨b, F', rfl, hL, hM⟩
  exact ⟨b, rfl, F', _, hL, hM, Wl.begun_live size ring hr1 hr2 hs1 hs2, by show (-1 : Int) < 0; decide⟩
/-- The disk beneath a log. -/
theorem Log.sec {w : World} {F : Nat → Prop} {b g : Nat} {s : Wl.Lg} (h : Log w F b g s) : ∃ FD, Sec w FD g s.d ∧ ∀ k, FD k → F k := by
  obtain ⟨_, FD, h⟩ := h
  exact ⟨FD, h.sec, h.fd⟩
end Go.Proofs.YtahnhhhhfioibaaGreatDoor
