/- A part of the law. -/
import Derived.Test.YtahnhhhhfioibaaGreatDoorG18
import Derived.Deep.CutBlock
import Derived.Deep.DeepCutAuto
import Derived.Test.YtahnhhhhfioibaaGreatDoorBlPartsM
namespace Go.Proofs.YtahnhhhhfioibaaGreatDoor
open Go.RowKit Lib
set_option maxRecDepth 100000 in
set_option maxHeartbeats 100000000 in
theorem bl_drop_0 : bl_g1 := by
  intro w _ _ _ _ _ _ m _ _ _ g b _ tb _ r _ rt w5 _ HN _ _ _ _ _ _ _ _ _ _ _ _ _ _ _ _ _ _ _ _ _ _ _ _ _ _ _ _ _ _ _ _ _ _ _ _ _ _ _ _ _ _ _ _ _ _ _ _ _ _ _ _ _ _ _ _ _ _ _ _ _ _ _ _ _ _ _ _ _ _ _ _ _ _ _ _ _ _ _ _ _ _ _ _ _ _ _ _ _ _ _ _ _ _ _ _ _ _ _ _ _ _ _ _ _ _ _ _ _ _ _ _ _ _ _ _ _ _ _ _ _ _ _ _ _ _ _ _ _ _ _ _ _ _ _ _ _ _ _ _ _ _ _ _ _ _ _ _ _ _ _ _ _ _ _ _ _ _ _ _ _ _ _ _ _ _ _ _ _ _ _ _ _ _ _ _ _ _ _ _ _ _ _ _ _ _ _ _ _ _ _ _ _ _ _ _ _ _ _ _ _ _ _ _ _ _ _ _ _ _ _ _ _ _ _ _ _ _ _ _ _ _ _ _ _ _ _ _ _ _ _ _ _ _ _ _ _ _ _ _ _ _ _ _ _ _ _ _ _ k pg B _ _ _ _ _ HLt _ an size _ _ _ _ _ HY _ _ _ _ _ _ y0 y1 y2 y3 _ _ _ _ h0 h1
  subst h1
  obtain ⟨av, capv, hv, hcv⟩ := HY.out.1.form
  subst hv
  by_cases hB0 : B.length = 0
  · have hBI : (B.length : Int) = 0 := by omega
    go_wp2
    go_meet
    case rel => exact ⟨pg, B, rfl, Lib.hid (HY.out.1.more (show 1040 * k ≤ 1040 * (k + 1) by omega))⟩
  · have hcnt := HY.out.1.count
    have hsm := HY.out.1.small
    have hBI : ¬ (B.length : Int) = 0 := by omega
    have hBI2 : (B.length : Int) ≤ 58 := by have := HN.out; omega
    have hBI3 : (0 : Int) < B.length := by omega
    have huI : (Rm.used pg : Int) ≤ 58 := by have := HN.out; omega
    obtain ⟨y, hy⟩ : ∃ y, an.tmod B.length = y := ⟨_, rfl⟩
    have hy1 : -58 ≤ y ∧ y ≤ 58 ∧ -(B.length : Int) < y ∧ y < B.length := by
      have h1 := Int.tmod_lt_of_pos an hBI3
      have h2 := Int.lt_tmod_of_pos an hBI3
      omega
    obtain ⟨kk, hk1, hk2⟩ : ∃ kk : Nat, (y + B.length).tmod B.length = kk ∧ kk < B.length := by
      have e : (y + B.length).tmod B.length = (y + B.length) % B.length := Int.tmod_eq_emod_of_nonneg (by omega)
      have h1 := Int.emod_nonneg (y + B.length) hBI
      have h2 := Int.emod_lt_of_pos (y + B.length) hBI3
      exact ⟨((y + B.length) % B.length).toNat, by omega, by omega⟩
    obtain ⟨hy2, hy3, hy4, hy5⟩ := hy1
    obtain ⟨gv, cap2, e2, hc2, e0, e1⟩ := HY.out.1.cells hk2
    injection e2 with ea _ ec
    subst ea ec
    have HK := Lib.hid hk2
    have hkI : (kk : Int) < B.length := by omega
    have hkI0 : (kk : Int) + 1 ≤ B.length := by omega
    have hcI : (B.length : Int) ≤ capv := by omega
    have HU := Lib.hid hsm
    clear hcnt hsm hB0
    obtain ⟨pa, hpa⟩ : ∃ pa, pa = (B[kk]'HK.out).1.headD 0 := ⟨_, rfl⟩
    rw [← hpa] at e0
    have hD := kt_drop HY.out.1 (by have := HLt.out; omega) HK.out
    rw [← hpa] at hD
    have HD := Lib.hid hD
    clear hpa hD
    go_wp2_with fail
    refine HD.out.mono ?_
    rintro e w8 ⟨qg, R8, rfl, hu8, hp8⟩
    have H8 := Lib.hid hp8
    have HU8 := Lib.hid (hu8 HK.out)
    clear hp8 hu8 e0 e1 y0 y1 y2 y3
    have e1 := (OwnKp.at H8.out.own kk (by rw [List.length_map]; exact HK.out)).2
    rw [List.getElem_map] at e1
    obtain ⟨ts, hts⟩ : ∃ ts, ts = bs (keptOf (B[kk]'HK.out)).2 := ⟨_, rfl⟩
    rw [← hts] at e1
    have hfw : (B[kk]'HK.out).2.length ≤ 3000 := by
      obtain ⟨R0, h0⟩ := HY.out.1
      exact h0.few _ (List.getElem_mem HK.out)
    have htl : ts.size = (B[kk]'HK.out).2.length := by rw [hts]; exact bs_size _
    have HRef := Lib.hid (ref8Pages_any w8 ts.size (by omega) (by omega))
    rw [Bl.pagesI_nat, htl] at HRef
    have htI : (ts.size : Int) ≤ 3000 := by omega
    obtain ⟨nd, hnd⟩ : ∃ nd, nd = Bl.need (B[kk]'HK.out).2.length := ⟨_, rfl⟩
    rw [← hnd] at HRef HU8
    have huE : (Rm.used pg : Int) - nd = (Rm.used qg : Nat) := by have := HU8.out; omega
    rw [← htl] at HRef
    have hndI : (nd : Int) ≤ Rm.used pg := by have := HU8.out; omega
    clear hts hfw htl hnd
    go_wp2_with fail
    refine HRef.out.mono ?_
    rintro e w9 ⟨rfl, rfl⟩
    have HUE := Lib.hid huE
    have HCap := Lib.hid (And.intro hc2 (show B.length ≤ 58 by omega))
    clear huE e1 htI HRef
    have f1 : (kk : Int) ≤ capv := by omega
    have f2 : IntKind.i64.wrap ((kk : Int) + 1) = (kk : Int) + 1 := by
      have := wrap_nat (kk + 1) (by omega)
      rwa [show ((kk + 1 : Nat) : Int) = (kk : Int) + 1 by omega] at this
    have f3 : ((kk : Int) + 1).toNat = kk + 1 := by omega
    have f4 : (0 : Int) ≤ (kk : Int) + 1 := by omega
    have f5 : (kk : Int) + 1 ≤ B.length := by omega
    have f6 : B.length ≤ capv := hc2
    have f0 : (kk : Int) ≤ (kk : Int) + 1 := by omega
    by_cases hcn : capv = kk + 1
    · have hrest : B.drop (kk + 1) = [] := List.drop_eq_nil_of_le (by omega)
      have HRest := Lib.hid hrest
      have f7 : B.length - (kk + 1) = 0 := by omega
      clear hrest
      go_wp2_with (refine wp_region_any (by kernel_rfl) ?_; refine Hid.out ?_)
      refine Lib.hid ?_
      try (change wpAny _ _ _ _ _ _ _ (World.drew _))
      refine wpAny_take (i := 1) (v := ?_) (by simp only [List.getElem?_toArray, List.getElem?_cons_succ, List.getElem?_cons_zero]; exact rfl) (by kernel_rfl) (by kernel_rfl) (by kernel_rfl) (by exact fun _ _ _ h => h) (Or.inl ⟨by rfl, ?_⟩) ?_
      rotate_left
      · intro w; go_simp; try with_reducible rfl
      refine wpAny_take (i := 2) (v := ?_) (by simp only [List.getElem?_toArray, List.getElem?_cons_succ, List.getElem?_cons_zero]; exact rfl) (by kernel_rfl) (by kernel_rfl) (by kernel_rfl) (by exact fun _ _ _ h => h) (Or.inl ⟨by rfl, ?_⟩) ?_
      rotate_left
      · intro w; go_simp; try with_reducible rfl
      refine wpAny_take (i := 3) (v := ?_) (by simp only [List.getElem?_toArray, List.getElem?_cons_succ, List.getElem?_cons_zero]; exact rfl) (by kernel_rfl) (by kernel_rfl) (by kernel_rfl) (by exact fun _ _ _ h => h) (Or.inl ⟨by rfl, ?_⟩) ?_
      rotate_left
      · intro w; go_simp; try with_reducible rfl
      refine wpAny_take (i := 5) (v := ?_) (by simp only [List.getElem?_toArray, List.getElem?_cons_succ, List.getElem?_cons_zero]; exact rfl) (by kernel_rfl) (by kernel_rfl) (by kernel_rfl) (by exact fun _ _ _ h => h) (Or.inl ⟨by rfl, ?_⟩) ?_
      rotate_left
      · intro w; go_simp; try with_reducible rfl
      refine wpAny_take (i := 6) (v := ?_) (by simp only [List.getElem?_toArray, List.getElem?_cons_succ, List.getElem?_cons_zero]; exact rfl) (by kernel_rfl) (by kernel_rfl) (by kernel_rfl) (by exact fun _ _ _ h => h) (Or.inl ⟨by rfl, ?_⟩) ?_
      rotate_left
      · intro w; go_simp; try with_reducible rfl
      refine wpAny_take (i := 7) (v := ?_) (by simp only [List.getElem?_toArray, List.getElem?_cons_succ, List.getElem?_cons_zero]; exact rfl) (by kernel_rfl) (by kernel_rfl) (by kernel_rfl) (by exact fun _ _ _ h => h) (Or.inl ⟨by rfl, ?_⟩) ?_
      rotate_left
      · intro w; go_simp; try with_reducible rfl
      refine wpAny_take (i := 8) (v := ?_) (by simp only [List.getElem?_toArray, List.getElem?_cons_succ, List.getElem?_cons_zero]; exact rfl) (by kernel_rfl) (by kernel_rfl) (by kernel_rfl) (by exact fun _ _ _ h => h) (Or.inl ⟨by rfl, ?_⟩) ?_
      rotate_left
      · intro w; go_simp; try with_reducible rfl
      try simp only [Act.put, List.setIfInBounds_toArray, List.set_cons_succ, List.set_cons_zero]
      refine wpAny_ready (rs := [0]) (by kernel_rfl) (by simp) ?_
      refine AllReady.cons rfl (fun K hK => ?_) AllReady.nil
      go_simp
      refine hK _ _ ?_; clear hK K
      refine wpAny_ready (rs := [4]) (by kernel_rfl) (by simp) ?_
      refine AllReady.cons rfl (fun K hK => ?_) AllReady.nil
      refine wp_app keptST _ _ rfl rfl (lit8_own w9) (by show w9.heap.size ≤ (lit8 w9).heap.size; exact (lit8_below w9).size) gv 0 kk (kk + 1) ((B.map keptOf).take kk) rfl (by rw [List.length_take, List.length_map]; exact Nat.min_eq_left (Nat.le_of_lt HK.out)) (lies_upto (show OwnKp _ (lit8 w9) _ _ from Own.below H8.out.own (lit8_below w9) (Nat.le_refl _)) kk) (by have := HK.out; have := HCap.out; show 0 + kk ≤ _; omega) ?_; intro v5 w5 ho5 hg5
      refine hK _ _ ?_; clear hK K
      refine wpAny_ready (rs := [9]) (by kernel_rfl) (by simp) ?_
      refine AllReady.cons rfl (fun K hK => ?_) AllReady.nil
      refine wp_app keptST _ _ rfl rfl ho5 (by have e5 : (lit8 w9).heap.size ≤ w5.heap.size := hg5.size; have := (lit8_below w9).size; omega) gv 0 0 0 [] rfl rfl (fun _ _ hu => by cases hu) (by rw [List.nil_append, List.length_take, List.length_map]; have := HCap.out; omega) ?_; intro v6 w6 ho6 hg6
      refine hK _ _ ?_; clear hK K
      refine wpAny_take (i := 10) (v := ?_) (by simp only [List.getElem?_toArray, List.getElem?_cons_succ, List.getElem?_cons_zero]; exact rfl) (by kernel_rfl) (by kernel_rfl) (by kernel_rfl) (by exact fun _ _ _ h => h) (Or.inl ⟨by rfl, ?_⟩) ?_
      rotate_left
      · intro w; go_simp; try with_reducible rfl
      refine wpAny_done (by kernel_rfl) ?_ _
      have H9 := Lib.hid (show KT w g b tb r m rt qg (B.take kk ++ B.drop (kk + 1)) (1040 * (k + 1)) v6 w6 from (H8.out.anew (by rw [HRest.out, List.append_nil, List.map_take]; rwa [List.append_nil, List.nil_append] at ho6) (lit8_twice hg5 ho5 hg6)).more (by omega))
      clear ho5 hg5 ho6 hg6
      go_wp2
      go_meet
      case rel => exact ⟨qg, _, by rw [HUE.out], H9⟩
    · have hcn2 : (capv == kk + 1) = false := beq_eq_false_iff_ne.2 hcn
      have hcnI : ¬ (capv : Int) = kk + 1 := by omega
      go_wp2_with (refine wp_region_any (by kernel_rfl) ?_; refine Hid.out ?_)
      refine Lib.hid ?_
      try (change wpAny _ _ _ _ _ _ _ (World.drew _))
      refine wpAny_take (i := 1) (v := ?_) (by simp only [List.getElem?_toArray, List.getElem?_cons_succ, List.getElem?_cons_zero]; exact rfl) (by kernel_rfl) (by kernel_rfl) (by kernel_rfl) (by exact fun _ _ _ h => h) (Or.inl ⟨by rfl, ?_⟩) ?_
      rotate_left
      · intro w; go_simp; try with_reducible rfl
      refine wpAny_take (i := 2) (v := ?_) (by simp only [List.getElem?_toArray, List.getElem?_cons_succ, List.getElem?_cons_zero]; exact rfl) (by kernel_rfl) (by kernel_rfl) (by kernel_rfl) (by exact fun _ _ _ h => h) (Or.inl ⟨by rfl, ?_⟩) ?_
      rotate_left
      · intro w; go_simp; try with_reducible rfl
      refine wpAny_take (i := 3) (v := ?_) (by simp only [List.getElem?_toArray, List.getElem?_cons_succ, List.getElem?_cons_zero]; exact rfl) (by kernel_rfl) (by kernel_rfl) (by kernel_rfl) (by exact fun _ _ _ h => h) (Or.inl ⟨by rfl, ?_⟩) ?_
      rotate_left
      · intro w; go_simp; try with_reducible rfl
      refine wpAny_take (i := 5) (v := ?_) (by simp only [List.getElem?_toArray, List.getElem?_cons_succ, List.getElem?_cons_zero]; exact rfl) (by kernel_rfl) (by kernel_rfl) (by kernel_rfl) (by exact fun _ _ _ h => h) (Or.inl ⟨by rfl, ?_⟩) ?_
      rotate_left
      · intro w; go_simp; try with_reducible rfl
      refine wpAny_take (i := 6) (v := ?_) (by simp only [List.getElem?_toArray, List.getElem?_cons_succ, List.getElem?_cons_zero]; exact rfl) (by kernel_rfl) (by kernel_rfl) (by kernel_rfl) (by exact fun _ _ _ h => h) (Or.inl ⟨by rfl, ?_⟩) ?_
      rotate_left
      · intro w; go_simp; try with_reducible rfl
      refine wpAny_take (i := 7) (v := ?_) (by simp only [List.getElem?_toArray, List.getElem?_cons_succ, List.getElem?_cons_zero]; exact rfl) (by kernel_rfl) (by kernel_rfl) (by kernel_rfl) (by exact fun _ _ _ h => h) (Or.inl ⟨by rfl, ?_⟩) ?_
      rotate_left
      · intro w; go_simp; try with_reducible rfl
      refine wpAny_take (i := 8) (v := ?_) (by simp only [List.getElem?_toArray, List.getElem?_cons_succ, List.getElem?_cons_zero]; exact rfl) (by kernel_rfl) (by kernel_rfl) (by kernel_rfl) (by exact fun _ _ _ h => h) (Or.inl ⟨by rfl, ?_⟩) ?_
      rotate_left
      · intro w; go_simp; try with_reducible rfl
      try simp only [Act.put, List.setIfInBounds_toArray, List.set_cons_succ, List.set_cons_zero]
      refine wpAny_ready (rs := [0]) (by kernel_rfl) (by simp) ?_
      refine AllReady.cons rfl (fun K hK => ?_) AllReady.nil
      go_simp
      refine hK _ _ ?_; clear hK K
      refine wpAny_ready (rs := [4]) (by kernel_rfl) (by simp) ?_
      refine AllReady.cons rfl (fun K hK => ?_) AllReady.nil
      refine wp_app keptST _ _ rfl rfl (lit8_own w9) (by show w9.heap.size ≤ (lit8 w9).heap.size; exact (lit8_below w9).size) gv 0 kk capv ((B.map keptOf).take kk) rfl (by rw [List.length_take, List.length_map]; exact Nat.min_eq_left (Nat.le_of_lt HK.out)) (lies_upto (show OwnKp _ (lit8 w9) _ _ from Own.below H8.out.own (lit8_below w9) (Nat.le_refl _)) kk) (by have := HK.out; have := HCap.out; show 0 + kk ≤ _; omega) ?_; intro v5 w5 ho5 hg5
      refine hK _ _ ?_; clear hK K
      refine wpAny_ready (rs := [9]) (by kernel_rfl) (by simp) ?_
      refine AllReady.cons rfl (fun K hK => ?_) AllReady.nil
      refine wp_app keptST _ _ rfl rfl ho5 (by have e5 : (lit8 w9).heap.size ≤ w5.heap.size := hg5.size; have := (lit8_below w9).size; omega) gv ((kk + 1) * 2) (B.length - (kk + 1)) (capv - (kk + 1)) ((B.map keptOf).drop (kk + 1)) rfl (by rw [List.length_drop, List.length_map]) (show Lies putElem w5 gv ((kk + 1) * 2) _ from lies_behind (lit8_past H8.out.own hg5) (kk + 1) (by rw [List.length_map]; exact HK.out)) (by rw [List.nil_append, List.length_take, List.length_map]; have := HCap.out; omega) ?_; intro v6 w6 ho6 hg6
      refine hK _ _ ?_; clear hK K
      refine wpAny_take (i := 10) (v := ?_) (by simp only [List.getElem?_toArray, List.getElem?_cons_succ, List.getElem?_cons_zero]; exact rfl) (by kernel_rfl) (by kernel_rfl) (by kernel_rfl) (by exact fun _ _ _ h => h) (Or.inl ⟨by rfl, ?_⟩) ?_
      rotate_left
      · intro w; go_simp; try with_reducible rfl
      refine wpAny_done (by kernel_rfl) ?_ _
      have H9 := Lib.hid (show KT w g b tb r m rt qg (B.take kk ++ B.drop (kk + 1)) (1040 * (k + 1)) v6 w6 from (H8.out.anew (by rw [List.map_append, List.map_take, List.map_drop]; rwa [List.nil_append] at ho6) (lit8_twice hg5 ho5 hg6)).more (by omega))
      clear ho5 hg5 ho6 hg6
      go_wp2
      go_meet
      case rel => exact ⟨qg, _, by rw [HUE.out], H9⟩
end Go.Proofs.YtahnhhhhfioibaaGreatDoor
