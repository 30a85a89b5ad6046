/- A part of the law. -/
import Derived.Test.YtahnhhhhfioibaaGreatDoorG21
import Derived.Test.YtahnhhhhfioibaaGreatDoorG20
import Derived.Deep.RegionHeld3
import Derived.OrdersHeld
import Derived.Deep.CutBlock
import Derived.Deep.DeepCutAuto
import Derived.Test.YtahnhhhhfioibaaGreatDoorTxPartsM
namespace Go.Proofs.YtahnhhhhfioibaaGreatDoor
open Go.RowKit Lib
set_option maxRecDepth 100000 in
set_option maxHeartbeats 100000000 in
theorem tx_tail_1 : tx_g15 := by
  intro w _ _ _ _ _ _ _ _ _ g _ _ b _ _ _ _ _ _ _ _ ah ch t _ _ gm gw gb _ _ _ _ _ _ _ _ _ _ _ _ _ _ _ _ _ _ _ _ _ _ _ _ _ _ _ _ _ _ _ _ _ _ _ _ _ _ _ _ _ _ _ _ _ _ _ _ _ _ _ _ _ _ _ _ _ _ _ _ _ _ _ _ _ _ _ _ _ _ _ _ _ _ _ _ _ _ _ _ _ _ _ _ _ _ _ _ _ _ _ _ _ _ _ _ _ _ _ _ _ _ _ _ _ _ _ _ _ _ _ _ _ _ _ _ _ _ _ _ _ _ _ _ _ _ _ _ _ _ _ _ _ _ _ _ _ _ _ _ _ _ _ _ _ _ _ _ _ _ _ _ _ _ _ _ _ _ _ _ _ _ _ _ _ _ _ _ _ _ _ _ _ _ _ _ _ _ _ _ _ _ _ _ _ _ _ _ _ _ _ _ _ _ _ _ _ _ _ _ _ _ _ _ _ _ _ _ _ _ _ _ k a c H' _ _ _ m M hS _ _ _ _ HLt _ _ _ _ _ c0 c1 c2 c3 c5 _ _ _ c4 _ HY HYY _ _ _ _ HH HHk HZ HZZ _ _ _ _ _ _ b0 b1 b2 b3 b5 _ _ _ _ _ _ _ _ _ _ _ _ _ _ _ _ _ _ _ _ _ _ _ _ _ _ _ _ _ _ _ _ _ _ _ _ _ _ _ _ _ _ _ _ _ _ _ _ _ _ _ _ _ _ _ _ _ _ _ _ _ _ _ _ _ _ _ _ _ _ _ _ _ _ _ _ _ _ _ _ _ _ _ _ _ _ _ _ _ _ _ _ _ _ _ _ _ _ _ _ _ _ _ _ _ _ _ _ _ _ _ _ _ _ _ _ _ _ _ _ _ _ _ _ _ _ _ _ _ _ _ _ _ _ _ _ _ _ _ _ _ _ _ _ _ _ _ _ _ _ _ _ _ _ _ _ _ _ _ _ _ _ _ _ _ _ _ _ _ _ _ _ _ _ _ _ _ _ _ _ _ _ _ _ _ _ _ _ _ _ _ _ _ _ _ _ _ _ _ _ _ _ hcut
  clear b0 b1 b2 b3 b5 HZ HZZ HY HYY hS HHk HH c0 c1 c2 c3 c4 c5
  obtain ⟨a, c, H', P, Q, HH, m, M, rfl, H9⟩ := hcut
  obtain ⟨aq, cq, hq⟩ := H9.out.qlen (j := 1) (by decide)
  obtain ⟨ah, nh, ch, hhh⟩ := H9.out.home0 (j := 1) (by decide)
  have HQk := Lib.hid hq
  have HHk := Lib.hid hhh
  obtain ⟨nq, hnq⟩ : ∃ nq, nq = (P 1).length := ⟨_, rfl⟩
  rw [← hnq] at HQk
  clear hq hhh hnq
  go_wp2_with (refine wp_region_held_drew (S := (fun X => (X.cell? ⟨gw, 3, none⟩ = some (.slice ah nh ch) ∧ X.cell? ⟨gw, 4, none⟩ = some (.int .i64 16)) ∧ X.cell? ⟨gw, 5, none⟩ = some (.slice aq nq cq))) (by kernel_rfl) ?_ (fun hS' => ?_); focus skip; rotate_left; refine Hid.out ?_)
  refine Lib.hid ?_
  · skip
    obtain ⟨e0, e1, e2, -⟩ := H9.out.want (k := 1) (by decide)
    rw [HHk.out] at e0
    rw [HQk.out] at e2
    exact ⟨⟨e0, e1⟩, e2⟩
  have H9d := Lib.hid (H9.out.still (Below.refl _ _).drew)
  refine wpAnyH_take (i := 0) (v := ?_) (by simp only [List.getElem?_toArray, List.getElem?_cons_zero]; exact rfl) (by kernel_rfl) (by kernel_rfl) (by kernel_rfl) (by exact fun _ _ _ h => h) (Or.inl ⟨by rfl, ?_⟩) hS' ?_
  rotate_left
  · intro w hSw; obtain ⟨s0, s1⟩ := hSw; go_simp; try with_reducible rfl
  refine wpAnyH_take (i := 2) (v := ?_) (by simp only [List.getElem?_toArray, List.getElem?_cons_succ, List.getElem?_cons_zero]; exact rfl) (by kernel_rfl) (by kernel_rfl) (by kernel_rfl) (by exact fun _ _ _ h => h) (Or.inl ⟨by rfl, ?_⟩) hS' ?_
  rotate_left
  · intro w hSw; obtain ⟨s0, s1⟩ := hSw; go_simp; try with_reducible rfl
  refine wpAnyH_take (i := 3) (v := ?_) (by simp only [List.getElem?_toArray, List.getElem?_cons_succ, List.getElem?_cons_zero]; exact rfl) (by kernel_rfl) (by kernel_rfl) (by kernel_rfl) (by exact fun _ _ _ h => h) (Or.inl ⟨by rfl, ?_⟩) hS' ?_
  rotate_left
  · intro w hSw; obtain ⟨s0, s1⟩ := hSw; go_simp; try with_reducible rfl
  refine wpAnyH_take (i := 4) (v := ?_) (by simp only [List.getElem?_toArray, List.getElem?_cons_succ, List.getElem?_cons_zero]; exact rfl) (by kernel_rfl) (by kernel_rfl) (by kernel_rfl) (by exact fun _ _ _ h => h) (Or.inl ⟨by rfl, ?_⟩) hS' ?_
  rotate_left
  · intro w hSw; obtain ⟨s0, s1⟩ := hSw; go_simp; try with_reducible rfl
  try simp only [Act.put, List.setIfInBounds_toArray, List.set_cons_succ, List.set_cons_zero]
  refine wpAnyH_ready (rs := [1]) (by kernel_rfl) (by simp) ?_
  refine AllReadyH.cons rfl (fun K hK => ?_) AllReadyH.nil
  go_simp
  refine (ts_touched H9d.out (k := 1) (by decide)).mono ?_
  rintro e w10 ⟨rfl, rfl⟩
  obtain ⟨e0, e1, e2, -⟩ := H9d.out.want (k := 1) (by decide)
  rw [HHk.out] at e0
  rw [HQk.out] at e2
  refine hK.out _ _ ⟨⟨e0, e1⟩, e2⟩ (fun hS' => ?_); clear hK K e0 e1 e2
  refine wpAnyH_ready (rs := [5]) (by kernel_rfl) (by simp) ?_
  refine AllReadyH.cons rfl (fun K hK => ?_) AllReadyH.nil
  go_simp
  have hc := ts_rtouched H9d.out (k := 1) (by decide) (by have := HLt.out; omega) (.slice ah nh ch)
  rw [HQk.out] at hc
  refine hc.mono ?_
  clear hc
  rintro e w11 ⟨rfl, h11, -⟩
  have H11 := Lib.hid h11
  obtain ⟨e0, e1, e2, -⟩ := H11.out.want (k := 1) (by decide)
  clear h11
  rw [HHk.out] at e0
  rw [HQk.out] at e2
  refine hK.out _ _ ⟨⟨e0, e1⟩, e2⟩ (fun hS' => ?_); clear hK K e0 e1 e2
  refine wpAnyH_take (i := 6) (v := ?_) (by simp only [List.getElem?_toArray, List.getElem?_cons_succ, List.getElem?_cons_zero]; exact rfl) (by kernel_rfl) (by kernel_rfl) (by kernel_rfl) (by exact fun _ _ _ h => h) (Or.inl ⟨by rfl, ?_⟩) hS' ?_
  rotate_left
  · intro w hSw; obtain ⟨s0, s1⟩ := hSw; go_simp; try with_reducible rfl
  refine wpAnyH_take (i := 7) (v := ?_) (by simp only [List.getElem?_toArray, List.getElem?_cons_succ, List.getElem?_cons_zero]; exact rfl) (by kernel_rfl) (by kernel_rfl) (by kernel_rfl) (by exact fun _ _ _ h => h) (Or.inl ⟨by rfl, ?_⟩) hS' ?_
  rotate_left
  · intro w hSw; obtain ⟨s0, s1⟩ := hSw; go_simp; try with_reducible rfl
  refine wpAnyH_take (i := 8) (v := ?_) (by simp only [List.getElem?_toArray, List.getElem?_cons_succ, List.getElem?_cons_zero]; exact rfl) (by kernel_rfl) (by kernel_rfl) (by kernel_rfl) (by exact fun _ _ _ h => h) (Or.inl ⟨by rfl, ?_⟩) hS' ?_
  rotate_left
  · intro w hSw; obtain ⟨s0, s1⟩ := hSw; go_simp; try with_reducible rfl
  try simp only [Act.put, List.setIfInBounds_toArray, List.set_cons_succ, List.set_cons_zero]
  refine wpAnyH_ready (rs := [9]) (by kernel_rfl) (by simp) ?_
  refine AllReadyH.cons rfl (fun K hK => ?_) AllReadyH.nil
  go_simp
  refine (ts_homes H11.out (k := 1) (by decide)).mono ?_
  rintro e w12 ⟨rfl, rfl⟩
  obtain ⟨e0, e1, e2, -⟩ := H11.out.want (k := 1) (by decide)
  rw [HHk.out] at e0
  rw [HQk.out] at e2
  refine hK.out _ _ ⟨⟨e0, e1⟩, e2⟩ (fun hS' => ?_); clear hK K e0 e1 e2
  refine wpAnyH_take (i := 10) (v := ?_) (by simp only [List.getElem?_toArray, List.getElem?_cons_succ, List.getElem?_cons_zero]; exact rfl) (by kernel_rfl) (by kernel_rfl) (by kernel_rfl) (by exact fun _ _ _ h => h) (Or.inl ⟨by rfl, ?_⟩) hS' ?_
  rotate_left
  · intro w hSw; obtain ⟨s0, s1⟩ := hSw; go_simp; try with_reducible rfl
  refine wpAnyH_take (i := 11) (v := ?_) (by simp only [List.getElem?_toArray, List.getElem?_cons_succ, List.getElem?_cons_zero]; exact rfl) (by kernel_rfl) (by kernel_rfl) (by kernel_rfl) (by exact fun _ _ _ h => h) (Or.inl ⟨by rfl, ?_⟩) hS' ?_
  rotate_left
  · intro w hSw; obtain ⟨s0, s1⟩ := hSw; go_simp; try with_reducible rfl
  refine wpAnyH_done (by kernel_rfl) ?_ _
  have H12 := H11
  go_wp2
  go_loopw [230] (fun i X => ∃ j : Nat, j ≤ 20 ∧ i = .int .i64 (j : Nat) ∧ Hid (TS w g b gb gw gm (fun _ => False) (k + 1) (.slice a 20 c) H' t P P Q HH m M X)) (fun i _ => 20 - (Go.RowKit.intOf i).toNat)
  case atStart => exact ⟨0, Nat.zero_le _, rfl, H12⟩
  case round =>
    clear H12 H11 H9d H9
    obtain ⟨j, hj, rfl, hT⟩ := hrel
    by_cases hlt : j < 20
    · have hjI : (j : Int) < 20 := by omega
      obtain ⟨gh, rfl, hcj⟩ := hT.out.homeAt hlt
      have HJ := Lib.hid hlt
      obtain ⟨st, hst⟩ : ∃ st, st = bs (H'.getD j []) := ⟨_, rfl⟩
      rw [← hst] at hcj
      have HSt := Lib.hid hst
      clear hst hlt hj
      go_wp2_with fail
      have hc := ts_log hT.out (j : Nat)
      rw [homeOf_lt (show j < H'.length by rw [hT.out.hlen]; exact HJ.out)] at hc
      simp only [← HSt.out] at hc
      refine hc.mono ?_
      rintro e w13 ⟨rfl, h13, -⟩
      have H13 := Lib.hid h13
      clear hc h13 hcj
      go_wp2
      go_roundw
      case rel => exact ⟨j + 1, HJ.out, by go_num, H13⟩
      case measure => have := HJ.out; simp [Go.RowKit.intOf]; omega
    · have hjI : ¬ (j : Int) < 20 := by omega
      go_wp2
      go_roundw
      case rel => exact ⟨k + 1, a, c, H', _, _, _, _, _, HLt.out.1, rfl, by go_num, hT⟩
      case measure => have := HLt.out.1; simp [Go.RowKit.intOf]; omega
end Go.Proofs.YtahnhhhhfioibaaGreatDoor
