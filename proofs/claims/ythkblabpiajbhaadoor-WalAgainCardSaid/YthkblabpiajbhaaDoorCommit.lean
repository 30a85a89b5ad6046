/- Walk of Commit. -/
import Derived.Test.YthkblabpiajbhaaDoorCheck
import Derived.Test.YthkblabpiajbhaaDoorTake
import Derived.Test.YthkblabpiajbhaaDoorGather
namespace Go.Proofs.YthkblabpiajbhaaDoor
open Go.RowKit Lib

/-- What Commit leans on while the log is up. -/
structure Up (s : Wl.Lg) (G : Wl.Grp) : Prop where
  bnd : Bnd s
  lo : s.d.loose.length ≤ 1000000
  bnd2 : Bnd (s.ready G)
  lo2 : (s.ready G).d.loose.length ≤ 1000000
  len : G.length ≤ 65536
theorem Wl.Lg.check_ring (s : Wl.Lg) : s.check.2.ring = s.ring ∧ s.check.2.homes = s.homes := by
  unfold Wl.Lg.check
  repeat' split
  all_goals exact ⟨rfl, rfl⟩
theorem Wl.Lg.ready_ring (s : Wl.Lg) (G : Wl.Grp) : (s.ready G).ring = s.ring ∧ (s.ready G).homes = s.homes := by
  unfold Wl.Lg.ready
  split
  · exact s.check_ring
  · exact ⟨rfl, rfl⟩
theorem Bnd.record {s : Wl.Lg} (h : Bnd s) (G : Wl.Grp) : Bnd (s.record G) := by
  obtain ⟨a1, a2, a3, a4, a5, a6, a7, a8, a9⟩ := h
  refine ⟨a1, a2, a3, a4, a5, a6, a7, a8, ?_⟩
  show _ = 1 + s.ring + s.homes
  rw [← a9]
  show (Wl.recorded s.ring s.place s.num G (s.down, s.d)).2.firm.length = _
  unfold Wl.recorded
  rw [Wl.fl_firm, Wl.wr_firm, Wl.fl_firm, Wl.wrs_firm]
set_option maxRecDepth 100000 in
set_option maxHeartbeats 4000000 in
theorem commit_any (w : World) (F : Nat → Prop) (b g : Nat) (s : Wl.Lg) (va : Value) (ll : List (Value × List PutD)) (hl : Log w F b g s) (hu : s.off = false → Up s (Wl.gather s.homes [] (ptsL ll)).2) (ha : RdL w va ll) :
    Calls Tryd.prog 8 #[ptr b, va] w fun e w' => e = .returned (.int .i64 (s.commit (ptsL ll)).1) ∧ ∃ F', Log w' F' b g (s.commit (ptsL ll)).2 ∧ Moved F w F' w' := by
  have HS := Lib.hid (show s.commit (ptsL ll) = if s.off then (3, s) else
    if (Wl.gather s.homes [] (ptsL ll)).1 ≠ 0 then ((Wl.gather s.homes [] (ptsL ll)).1, s) else
    if s.ring < Wl.sizeOf (Wl.gather s.homes [] (ptsL ll)).2.length then (5, s) else
    if (Wl.gather s.homes [] (ptsL ll)).2 = [] then (0, s) else
    if ((s.ready (Wl.gather s.homes [] (ptsL ll)).2).record (Wl.gather s.homes [] (ptsL ll)).2).down then (3, (s.ready (Wl.gather s.homes [] (ptsL ll)).2).record (Wl.gather s.homes [] (ptsL ll)).2)
    else (0, ((s.ready (Wl.gather s.homes [] (ptsL ll)).2).record (Wl.gather s.homes [] (ptsL ll)).2).take (Wl.gather s.homes [] (ptsL ll)).2) from rfl)
  have hft := Wl.gather_fits s.homes (ptsL ll) [] (Wl.fits_nil _)
  obtain ⟨c, G, hcG⟩ : ∃ c G, Wl.gather s.homes [] (ptsL ll) = (c, G) := ⟨_, _, rfl⟩
  rw [hcG] at HS hu hft
  simp only at HS hu hft
  have HcG := Lib.hid hcG
  have HL := Lib.hid hl
  have HU := Lib.hid hu
  have HA := Lib.hid ha
  have HFl := Lib.hid hl.lt
  have HFt := Lib.hid hft
  clear hl hu ha hft hcG
  obtain ⟨R, hR⟩ : ∃ R, R = s.commit (ptsL ll) := ⟨_, rfl⟩
  rw [← hR] at HS ⊢
  clear hR
  go_enter Tryd.func8, Tryd.ntmps8
  unfold ptr
  go_wp2_with fail
  refine (ldown_any w F b g s HL.out).mono ?_
  rintro e w1 ⟨rfl, rfl⟩
  by_cases ho : s.off = true
  · rw [ho]
    have HE := Lib.hid (HS.out.trans (if_pos ho))
    clear ho HS
    go_wp2
    go_ret
    rw [HE.out]
    exact ⟨rfl, F, HL.out, Moved.refl _ _⟩
  · have ho' : s.off = false := by simpa using ho
    have HS := Lib.hid (HS.out.trans (if_neg ho))
    have HU := Lib.hid (HU.out ho')
    rw [ho']
    clear ho ho'
    go_wp2_with fail
    refine (gather_any w1 F b g s va ll HL.out HU.out.bnd.h HA.out).mono ?_
    rintro e w2 ⟨mv, rfl, hb2, hG⟩
    rw [HcG.out] at hG ⊢
    simp only at hG ⊢
    have H2 := Lib.hid (And.intro (HL.out.below hb2) hb2)
    clear hb2
    by_cases hc : c = 0
    · subst hc
      have HS := Lib.hid (HS.out.trans (if_neg (by simp)))
      obtain ⟨gb, rfl, hgm, hge⟩ := hG rfl
      have HG := Lib.hid (show CMap w2 gb G ∧ ¬ F gb ∧ gb < w2.heap.size from ⟨hgm, fun h => by have := HFl.out gb h; omega, hgm.lt⟩)
      clear hG hgm hge
      have c1 := H2.out.1.c1
      have c5 := H2.out.1.c5
      go_wp2_with (at_len; refine wpList_lenC rfl _ rfl gb G rfl HG.out.1 ?_)
      refine (sizeOf_any w2 G.length (by have := HU.out.len; omega)).mono ?_
      rintro e w3 ⟨rfl, rfl⟩
      have hz : ((Wl.sizeOf G.length : Nat) : Int) ≤ 1000000 := by have := HU.out.len; unfold Wl.sizeOf; omega
      have hz0 : (0 : Int) ≤ ((Wl.sizeOf G.length : Nat) : Int) := by omega
      have HZ := Lib.hid (show ∀ z, z = Wl.sizeOf G.length → (s.ready G = if s.ring < s.filled + z then s.check.2 else s) from fun z e => by rw [e]; rfl)
      obtain ⟨z, hzz⟩ : ∃ z, z = Wl.sizeOf G.length := ⟨_, rfl⟩
      rw [← hzz] at hz hz0 HS ⊢
      have HZ := Lib.hid (HZ.out z hzz)
      clear hzz
      by_cases hr : s.ring < z
      · have hrI : (z : Int) > s.ring := by omega
        have HE := Lib.hid (HS.out.trans (if_pos hr))
        clear hr HS
        go_wp2
        go_ret
        rw [HE.out]
        exact ⟨rfl, F, H2.out.1, ⟨But.of_below H2.out.2 _, fun _ h => .inl h⟩⟩
      · have hrI : (z : Int) ≤ s.ring := by omega
        have HS := Lib.hid (HS.out.trans (if_neg hr))
        clear hr
        by_cases hG0 : G = []
        · have HE := Lib.hid (HS.out.trans (if_pos hG0))
          subst hG0
          clear HS
          go_wp2_with (at_len; refine wpList_lenC rfl _ rfl gb [] rfl HG.out.1 ?_)
          go_ret
          rw [HE.out]
          exact ⟨rfl, F, H2.out.1, ⟨But.of_below H2.out.2 _, fun _ h => .inl h⟩⟩
        · have HS := Lib.hid (HS.out.trans (if_neg hG0))
          have hl0 : ¬ ((G.length : Int) = 0) := by intro e; exact hG0 (List.eq_nil_of_length_eq_zero (by omega))
          have hl1 : ¬ (G.length = 0) := by omega
          clear hG0
          have hfI : (s.filled : Int) ≤ 1000000 := by have := HU.out.bnd.f; omega
          have hf0 : (0 : Int) ≤ s.filled := by omega
          go_wp2_with (at_len; refine wpList_lenC rfl _ rfl gb G rfl HG.out.1 ?_)
          go_quiet (fail)
          obtain ⟨V, hV⟩ : ∃ V, V = w3.drewN nq := ⟨_, rfl⟩
          rw [← hV]
          have hbV : But (fun _ => False) w3 V := by rw [hV]; exact (But.refl _ _).drewN _
          have HV := Lib.hid (show Log V F b g s ∧ CMap V gb G ∧ gb < V.heap.size ∧ Moved F w1 F V from ⟨H2.out.1.but hbV (fun _ _ h => h), HG.out.1.but hbV id, Nat.lt_of_lt_of_le HG.out.2.2 hbV.size,
            (show Moved F w1 F w3 from ⟨But.of_below H2.out.2 _, fun _ h => .inl h⟩).trans ⟨hbV.mono (fun _ _ h => h.elim), fun _ h => .inl h⟩⟩)
          clear hV hbV c1 c5
          by_cases hbig : s.ring < s.filled + z
          focus
            have hbI : (s.filled : Int) + z > s.ring := by omega
            have HZ := Lib.hid (HZ.out.trans (if_pos hbig))
            clear hbig
            go_wp2_with fail
            refine (check_any V F b g s HV.out.1 HU.out.bnd HU.out.lo).mono ?_
            rintro e w4 ⟨rfl, F4, hL4, hM4⟩
            have hn4 : ¬ F4 gb := fun h => by
              rcases hM4.2 gb h with h' | h'
              · exact HG.out.2.1 h'
              · have := HV.out.2.2.1; omega
            have H4 := Lib.hid (show Log w4 F4 b g (s.ready G) ∧ CMap w4 gb G ∧ ¬ F4 gb ∧ gb < w4.heap.size ∧ Moved F w1 F4 w4 from ⟨by rw [HZ.out]; exact hL4, HV.out.2.1.but hM4.1 HG.out.2.1, hn4, Nat.lt_of_lt_of_le HV.out.2.2.1 hM4.1.size, HV.out.2.2.2.trans hM4⟩)
            clear hL4 hM4 hn4
            go_wp2_with fail
          rotate_left 1
          focus
            have hbI : (s.filled : Int) + z ≤ s.ring := by omega
            have HZ := Lib.hid (HZ.out.trans (if_neg hbig))
            clear hbig
            obtain ⟨F4, hF4⟩ : ∃ F4, F4 = F := ⟨_, rfl⟩
            obtain ⟨w4, hw4⟩ : ∃ w4, w4 = V := ⟨_, rfl⟩
            have H4 := Lib.hid (show Log w4 F4 b g (s.ready G) ∧ CMap w4 gb G ∧ ¬ F4 gb ∧ gb < w4.heap.size ∧ Moved F w1 F4 w4 by
              rw [hF4, hw4, HZ.out]; exact ⟨HV.out.1, HV.out.2.1, HG.out.2.1, HV.out.2.2.1, HV.out.2.2.2⟩)
            rw [← hw4]
            clear hF4 hw4
            go_wp2_with fail
          all_goals (
            obtain ⟨t, ht⟩ : ∃ t, t = s.ready G := ⟨_, rfl⟩
            have HT := Lib.hid ht
            rw [← ht] at HS H4
            refine (record_any w4 F4 b g gb t G H4.out.1 (by rw [ht]; exact HU.out.bnd2) H4.out.2.1 H4.out.2.2.1 (by rw [ht, (s.ready_ring G).2]; exact HFt.out) HU.out.len (by rw [ht]; exact HU.out.lo2)).mono ?_
            rintro e w5 ⟨rfl, F5, hL5, hM5⟩
            have hn5 : ¬ F5 gb := fun h => by
              rcases hM5.2 gb h with h' | h'
              · exact H4.out.2.2.1 h'
              · have := H4.out.2.2.2.1; omega
            have hbt : Bnd t := by rw [ht]; exact HU.out.bnd2
            have H5 := Lib.hid (show Log w5 F5 b g (t.record G) ∧ CMap w5 gb G ∧ ¬ F5 gb ∧ Moved F w1 F5 w5 ∧ Bnd (t.record G) from ⟨hL5, H4.out.2.1.but hM5.1 H4.out.2.2.1, hn5, H4.out.2.2.2.2.trans hM5, hbt.record G⟩)
            have c7 := hL5.c7
            clear hL5 hM5 hn5 hbt ht
            generalize t.record G = t2 at *
            by_cases hd : t2.down = true
            · rw [hd] at c7
              have HE := Lib.hid (HS.out.trans (if_pos hd))
              clear hd
              go_wp2
              go_ret
              rw [HE.out]
              exact ⟨rfl, F5, H5.out.1, H5.out.2.2.2.1⟩
            · have hd' : t2.down = false := by simpa using hd
              rw [hd'] at c7
              have HE := Lib.hid (HS.out.trans (if_neg hd))
              clear hd hd'
              go_wp2_with fail
              refine (take_any w5 F5 b g gb t2 G H5.out.1 H5.out.2.2.2.2 H5.out.2.1 H5.out.2.2.1 HU.out.len).mono ?_
              rintro e w6 ⟨rfl, hL6, hM6⟩
              have H6 := Lib.hid (And.intro hL6 (H5.out.2.2.2.1.trans hM6))
              clear hL6 hM6
              go_wp2
              go_ret
              rw [HE.out]
              exact ⟨rfl, F5, H6.out.1, H6.out.2⟩)
    · have HE := Lib.hid (HS.out.trans (if_pos hc))
      clear HS hG
      have hc2 : (c != 0) = true := by rw [bne_iff_ne]; exact hc
      go_wp2
      go_ret
      rw [HE.out]
      exact ⟨rfl, F, H2.out.1, ⟨But.of_below H2.out.2 _, fun _ h => .inl h⟩⟩
end Go.Proofs.YthkblabpiajbhaaDoor
