/- Walk of record. -/
import Derived.Test.YthkblabpiajbhaaDoorPack
import Derived.Test.YthkblabpiajbhaaDoorLogWrite
import Derived.Deep.RegionHeld3
namespace Go.Proofs.YthkblabpiajbhaaDoor
open Go.RowKit Lib

theorem Wl.wr_loose (s : Bool × Dk.Disk) (x : Nat × Wl.Text) : (Wl.wr s x).2.loose.length ≤ s.2.loose.length + 1 := by
  unfold Wl.wr
  split
  · omega
  · show (s.2.write x.1 x.2).2.loose.length ≤ _
    unfold Dk.Disk.write
    split
    · exact Nat.le_succ _
    · split
      · exact Nat.le_succ _
      · split
        · exact Nat.le_succ _
        · split
          · first | exact Nat.le_succ _ | exact Nat.zero_le _
          · show (s.2.loose ++ [_]).length ≤ _
            simp
theorem Wl.fl_loose (s : Bool × Dk.Disk) : (Wl.fl s).2.loose.length ≤ s.2.loose.length := by
  unfold Wl.fl
  split
  · omega
  · show s.2.flush.2.loose.length ≤ _
    unfold Dk.Disk.flush
    split
    · exact Nat.le_refl _
    · split
      · first | exact Nat.le_refl _ | exact Nat.zero_le _
      · show ([] : List (Nat × List UInt8)).length ≤ _
        simp
theorem Wl.wrs_loose (ws : List (Nat × Wl.Text)) (s : Bool × Dk.Disk) : (Wl.wrs s ws).2.loose.length ≤ s.2.loose.length + ws.length := by
  induction ws generalizing s with
  | nil => simp [Wl.wrs]
  | cons x ws ih =>
    have := ih (Wl.wr s x)
    have h2 := Wl.wr_loose s x
    rw [List.length_cons]
    show (Wl.wrs (Wl.wr s x) ws).2.loose.length ≤ _
    omega
theorem Moved.other {F F' : Nat → Prop} {w w' : World} {S : Nat → Prop} (h : Moved F w F' w') (hS : ∀ k, k < w.heap.size → S k → ¬ F k) : ∀ k, k < w.heap.size → S k → ¬ F' k := fun k hk hs hf => by
  rcases h.2 k hf with h' | h'
  · exact hS k hk hs h'
  · omega
theorem Wl.ringWrites_length (ring a : Nat) (ts : List Wl.Text) : (Wl.ringWrites ring a ts).length = ts.length := by simp [Wl.ringWrites]
theorem Wl.ringWrites_get (ring a : Nat) (ts : List Wl.Text) (k : Nat) (hk : k < ts.length) : (Wl.ringWrites ring a ts)[k]'(by rw [Wl.ringWrites_length]; exact hk) = (Wl.pos ring (a + 1 + k), ts[k]) := by simp [Wl.ringWrites]
theorem Wl.Lg.with_with (s : Wl.Lg) (r r' : Bool × Dk.Disk) : (s.with r).with r' = s.with r' := rfl
theorem Log.c1 {w : World} {F : Nat → Prop} {b g : Nat} {s : Wl.Lg} (h : Log w F b g s) : w.cell? ⟨b, 1, none⟩ = some (.int .i64 s.ring) := by obtain ⟨_, _, h⟩ := h; exact h.c1
theorem Log.c3 {w : World} {F : Nat → Prop} {b g : Nat} {s : Wl.Lg} (h : Log w F b g s) : w.cell? ⟨b, 3, none⟩ = some (.int .i64 s.place) := by obtain ⟨_, _, h⟩ := h; exact h.c3
theorem Log.c4 {w : World} {F : Nat → Prop} {b g : Nat} {s : Wl.Lg} (h : Log w F b g s) : w.cell? ⟨b, 4, none⟩ = some (.int .u64 s.num) := by obtain ⟨_, _, h⟩ := h; exact h.c4
theorem Log.c5 {w : World} {F : Nat → Prop} {b g : Nat} {s : Wl.Lg} (h : Log w F b g s) : w.cell? ⟨b, 5, none⟩ = some (.int .i64 s.filled) := by obtain ⟨_, _, h⟩ := h; exact h.c5
theorem Log.c7 {w : World} {F : Nat → Prop} {b g : Nat} {s : Wl.Lg} (h : Log w F b g s) : w.cell? ⟨b, 7, none⟩ = some (.bool s.down) := by obtain ⟨_, _, h⟩ := h; exact h.c7
theorem CMap.len {w : World} {b : Nat} {m : Wl.Grp} (h : CMap w b m) (ty : TypeId) : (Builtin.len_ #[52] ty #[.map (some b)]).run Tryd.prog w = .ok (.int .i64 m.length) w := by
  have := h.1.len underMap ty
  rwa [dat_size] at this
/-- A row of texts of the call's own, cell by cell. -/
theorem OwnS.at {B : Nat} {w : World} {a : Option Addr} {n cap : Nat} {T : List (List UInt8)} (h : OwnS B w (.slice a n cap) T) (k : Nat) (hk : k < T.length) :
    ∃ ga, a = some ⟨ga, 0, none⟩ ∧ B ≤ ga ∧ ga < w.heap.size ∧ w.cell? ⟨ga, k, none⟩ = some (.string (bs T[k])) := by
  obtain ⟨ga, c', e1, e2, e3, _⟩ := Own.form h (by rw [List.length_map]; omega)
  injection e1 with i1 i2 i3
  subst i1
  refine ⟨ga, rfl, e2, e3, ?_⟩
  have := Own.lies h k (.string (bs T[k])) (by rw [show strElem.cells (T.map bs) = (T.map bs).map (fun s => Value.string s) from oneElem_cells _ _ _]; simp [hk])
  rwa [Nat.zero_add] at this
set_option maxRecDepth 100000 in
set_option maxHeartbeats 4000000 in
theorem record_any (w : World) (F : Nat → Prop) (b g gb : Nat) (s : Wl.Lg) (grp : Wl.Grp) (hl : Log w F b g s) (hb : Bnd s) (hg : CMap w gb grp) (hn : ¬ F gb) (hf : Wl.Fits s.homes grp) (hgl : grp.length ≤ 65536) (hlo : s.d.loose.length ≤ 1000000) :
    Calls Tryd.prog 23 #[ptr b, .map (some gb)] w fun e w' => e = .returned (.tuple #[]) ∧ ∃ F', Log w' F' b g (s.record grp) ∧ Moved F w F' w' := by
  have HL := Lib.hid hl
  have HG := Lib.hid hg
  have HN := Lib.hid (And.intro hgl (And.intro hb (And.intro hn (And.intro hf hlo))))
  have hgt := hg.lt
  clear hl hg hgl hb hn hf hlo
  go_enter Tryd.func23, Tryd.ntmps23
  unfold ptr
  go_wp2_with fail
  refine (putsTexts_any w s.homes gb grp HG.out HN.out.2.2.2.1 HN.out.2.1.h HN.out.1).mono ?_
  rintro e w1 ⟨v, rfl, hv, hb1⟩
  obtain ⟨T, hT⟩ : ∃ T, T = Wl.putsTexts grp := ⟨_, rfl⟩
  rw [← hT] at hv
  have HT := Lib.hid hT
  have HTl := Lib.hid (show T.length ≤ 70000 by
    have h1 := Wl.putsTexts_length (homes := s.homes) (g := grp) HN.out.2.2.2.1.2
    rw [← hT] at h1
    have h2 := HN.out.1
    unfold Wl.sizeOf at h1
    omega)
  clear hT
  obtain ⟨a, cap, rfl, hc⟩ := Own.slice hv
  rw [List.length_map] at hv ⊢
  have hr := fun k hk => OwnS.at hv k hk
  have H1 := Lib.hid (show Log w1 F b g s ∧ CMap w1 gb grp from ⟨HL.out.below hb1, HG.out.but (But.of_below hb1 (fun _ => False)) id⟩)
  have HR := Lib.hid hr
  have HW := Lib.hid hb1
  clear hv hb1 hr hc
  go_wp2_with fail
  go_loopw [9] (fun i wr => ∃ k : Nat, k ≤ T.length ∧ i = .int .i64 k ∧ Hid (∃ F', Log wr F' b g (s.with (Wl.wrs (s.down, s.d) ((Wl.ringWrites s.ring s.place T).take k))) ∧ Moved F w1 F' wr)) (fun i _ => T.length - (Go.RowKit.intOf i).toNat)
  case atStart => exact ⟨0, Nat.zero_le _, rfl, Lib.hid ⟨F, H1.out.1, Moved.refl _ _⟩⟩
  case round =>
    obtain ⟨k, hk, rfl, hS⟩ := hrel
    by_cases hlt : k < T.length
    · have hI : (k : Int) < T.length := by omega
      obtain ⟨ga, rfl, hga, hga2, hc⟩ := HR.out k hlt
      obtain ⟨F', hL, hMv⟩ := hS.out
      have hgF : ¬ F ga := fun h => by have := HL.out.lt ga h; omega
      have hc2 := hMv.1.cell hc hgF
      have c3 := hL.c3
      have HLk := Lib.hid (And.intro hlt (And.intro hL hMv))
      have hpI : (s.place : Int) ≤ 4096 := by have := HN.out.2.1.p; have := HN.out.2.1.r2; omega
      have hp0 : (0 : Int) ≤ s.place := by omega
      have hkI : (k : Int) ≤ 70000 := by have := HTl.out; omega
      have hk0 : (0 : Int) ≤ k := by omega
      clear hS hL hMv hc hga hga2 hgF
      change wr.cell? ⟨b, 3, none⟩ = some (.int .i64 s.place) at c3
      go_wp2_with fail
      rw [show ((s.place : Int) + 1 + k) = ((s.place + 1 + k : Nat) : Int) by omega]
      refine (sectorOfRing_any wr F' b g _ _ HLk.out.2.1 HN.out.2.1.r2 (by have := HN.out.2.1.r1; exact (by omega : 1 ≤ s.ring)) (by omega)).mono ?_
      rintro e w2 ⟨rfl, rfl⟩
      go_wp2_with fail
      have hloo := Wl.wrs_loose ((Wl.ringWrites s.ring s.place T).take k) (s.down, s.d)
      rw [List.length_take] at hloo
      refine (lwrite_any _ F' b g _ _ _ HLk.out.2.1 (by
        show (Wl.wrs (s.down, s.d) ((Wl.ringWrites s.ring s.place T).take k)).2.loose.length ≤ _
        have h1 := HN.out.2.2.2.2
        have h2 := HLk.out.1
        have h3 := HTl.out
        have h4 : (s.down, s.d).2.loose.length = s.d.loose.length := rfl
        omega)).mono ?_
      rintro e w3 ⟨rfl, F3, hL3, hM3⟩
      have HL3 := Lib.hid (show ∃ F', Log w3 F' b g (s.with (Wl.wrs (s.down, s.d) ((Wl.ringWrites s.ring s.place T).take (k + 1)))) ∧ Moved F w1 F' w3 by
        refine ⟨F3, ?_, HLk.out.2.2.trans hM3⟩
        rw [Wl.wrs_take _ _ k (by rw [Wl.ringWrites_length]; exact HLk.out.1), Wl.ringWrites_get _ _ _ _ HLk.out.1]
        exact hL3)
      clear hL3 hM3 hloo c3 hc2
      go_wp2
      go_roundw
      case rel => exact ⟨k + 1, by have := HLk.out.1; omega, by go_num, HL3⟩
      case measure => have := HLk.out.1; simp [Go.RowKit.intOf]; omega
    · obtain rfl : k = T.length := by omega
      rw [List.take_of_length_le (by rw [Wl.ringWrites_length]; exact Nat.le_refl _)] at hS
      obtain ⟨F', hL, hMv⟩ := hS.out
      have HL2 := Lib.hid (And.intro hL hMv)
      clear hS hL hMv
      go_wp2_with fail
      refine (lflush_any wr F' b g _ HL2.out.1).mono ?_
      rintro e w3 ⟨rfl, F3, hL3, hM3⟩
      change Log w3 F3 b g (s.with (Wl.fl (Wl.wrs (s.down, s.d) (Wl.ringWrites s.ring s.place T)))) at hL3
      have hM := HL2.out.2.trans hM3
      have hgm : CMap w3 gb grp := H1.out.2.but hM.1 HN.out.2.2.1
      have hlo : (Wl.fl (Wl.wrs (s.down, s.d) (Wl.ringWrites s.ring s.place T))).2.loose.length ≤ 2000000 := by
        refine Nat.le_trans (Wl.fl_loose _) (Nat.le_trans (Wl.wrs_loose _ _) ?_)
        rw [Wl.ringWrites_length]
        have h1 := HN.out.2.2.2.2
        have h3 := HTl.out
        show s.d.loose.length + T.length ≤ _
        omega
      obtain ⟨r, hr⟩ : ∃ r, r = Wl.fl (Wl.wrs (s.down, s.d) (Wl.ringWrites s.ring s.place T)) := ⟨_, rfl⟩
      rw [← hr] at hL3 hlo
      have hln := hgm.len
      have hdr : But (fun _ => False) w3 w3.drew := (But.refl _ w3).drew
      have HL3 := Lib.hid (show Log w3.drew F3 b g (s.with r) ∧ Moved F w1 F3 w3.drew ∧ CMap w3.drew gb grp ∧ r.2.loose.length ≤ 2000000 ∧ r = Wl.fl (Wl.wrs (s.down, s.d) (Wl.ringWrites s.ring s.place T)) from
        ⟨hL3.but hdr (fun _ _ h => h), hM.trans ⟨hdr.mono (fun _ _ h => h.elim), fun _ h => .inl h⟩, hgm.but hdr id, hlo, hr⟩)
      have c3 : w3.cell? ⟨b, 3, none⟩ = some (.int .i64 s.place) := hL3.c3
      have c4 : w3.cell? ⟨b, 4, none⟩ = some (.int .u64 s.num) := hL3.c4
      have hpI : (s.place : Int) ≤ 4096 := by have := HN.out.2.1.p; have := HN.out.2.1.r2; omega
      have hp0 : (0 : Int) ≤ s.place := by omega
      clear hL3 hM3 hM hgm hlo hr hdr
      go_wp2_with fail
      go_region_held3 (fun w' => w'.cell? ⟨b, 3, none⟩ = some (.int .i64 s.place) ∧ w'.cell? ⟨b, 4, none⟩ = some (.int .u64 s.num) ∧ ∀ ty, (Builtin.len_ #[52] ty #[.map (some gb)]).run Tryd.prog w' = .ok (.int .i64 grp.length) w')
        (first
          | (exact ⟨c3, c4, HL3.out.2.2.1.len⟩)
          | (exact ⟨d3, d4, dl⟩)
          | go_keep)
        (first
          | (go_at_call 41; refine (sectorOfRing_any _ F3 b g (s.with r) s.place HL3.out.1 HN.out.2.1.r2 (by have := HN.out.2.1.r1; exact (by omega : 1 ≤ s.ring)) (by omega)).mono ?_; rintro e w4 ⟨rfl, rfl⟩)
          | (go_at_call 42; refine (headText_any s.num grp.length _ (by have := HN.out.2.1.n; omega) (by have := HN.out.1; omega)).mono ?_; rintro e w5 ⟨rfl, hb5⟩; have HL4 := Lib.hid (show Log w5 F3 b g (s.with r) ∧ CMap w5 gb grp ∧ Moved F w1 F3 w5 from ⟨HL3.out.1.below hb5, HL3.out.2.2.1.but (But.of_below hb5 (fun _ => False)) id, HL3.out.2.1.trans ⟨But.of_below hb5 _, fun _ h => .inl h⟩⟩); have d3 : w5.cell? ⟨b, 3, none⟩ = some (.int .i64 s.place) := HL4.out.1.c3; have d4 : w5.cell? ⟨b, 4, none⟩ = some (.int .u64 s.num) := HL4.out.1.c4; have dl := HL4.out.2.1.len; clear hb5)
          | (go_at_call 30; refine (lwrite_any _ F3 b g (s.with r) _ _ HL4.out.1 (by have := HL3.out.2.2.2.1; exact (by omega : r.2.loose.length ≤ 900000000))).mono ?_; rintro e w6 ⟨rfl, F6, hL6, hM6⟩; have HL6 := Lib.hid (show Log w6 F6 b g (s.with (Wl.wr r (Wl.pos s.ring s.place, Wl.head s.num grp.length))) ∧ Moved F w1 F6 w6 ∧ CMap w6 gb grp from ⟨hL6, HL4.out.2.2.trans hM6, HL4.out.2.1.but hM6.1 (HL3.out.2.1.other (S := fun k => k = gb) (fun k _ e => e ▸ HN.out.2.2.1) gb (by have := H1.out.2.lt; omega) rfl)⟩); have d3 : w6.cell? ⟨b, 3, none⟩ = some (.int .i64 s.place) := HL6.out.1.c3; have d4 : w6.cell? ⟨b, 4, none⟩ = some (.int .u64 s.num) := HL6.out.1.c4; have dl := HL6.out.2.2.len; clear hL6 hM6))
      clear d3 d4 dl c3 c4 hln
      go_wp2_with fail
      refine (lflush_any w6 F6 b g _ HL6.out.1).mono ?_
      rintro e w7 ⟨rfl, F7, hL7, hM7⟩
      go_wp2
      refine bodyPost_end (results_none rfl _ _ _) rfl ?_
      refine ⟨rfl, F7, ?_, ?_⟩
      · have hre : s.record grp = (s.with (Wl.wr r (Wl.pos s.ring s.place, Wl.head s.num grp.length))).with (Wl.fl (Wl.wr r (Wl.pos s.ring s.place, Wl.head s.num grp.length))) := by
          rw [HL3.out.2.2.2.2, HT.out]; rfl
        rw [hre]
        exact hL7
      · have hm := HL6.out.2.1.trans hM7
        have hb := HW.out
        have h0 : Moved F w F w1 := ⟨But.of_below hb _, fun _ h => .inl h⟩
        exact h0.trans hm
end Go.Proofs.YthkblabpiajbhaaDoor
