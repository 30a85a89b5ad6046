/- A part of the law. -/
import Derived.Test.YtahnhhhhfioibaaGreatDoorG21
import Derived.Test.YtahnhhhhfioibaaGreatDoorG20
import Derived.Deep.RegionHeld3
import Derived.OrdersHeld
import Derived.Deep.CutBlock
import Derived.Deep.DeepCutAuto
import Derived.Test.YtahnhhhhfioibaaGreatDoorTxPartsM
namespace Go.Proofs.YtahnhhhhfioibaaGreatDoor
open Go.RowKit Lib
set_option maxRecDepth 100000 in
set_option maxHeartbeats 100000000 in
theorem tx_write_0 : tx_g0 := by
  intro w _ _ _ _ _ _ _ _ _ g _ _ b _ _ _ _ _ _ _ _ _ _ t _ _ gm gw gb wr _ _ _ _ _ _ _ _ _ _ _ _ _ _ _ _ _ _ _ _ _ _ _ _ _ _ _ _ _ _ _ _ _ _ _ _ _ _ _ _ _ _ _ _ _ _ _ _ _ _ _ _ _ _ _ _ _ _ _ _ _ _ _ _ _ _ _ _ _ _ _ _ _ _ _ _ _ _ _ _ _ _ _ _ _ _ _ _ _ _ _ _ _ _ _ _ _ _ _ _ _ _ _ _ _ _ _ _ _ _ _ _ _ _ _ _ _ _ _ _ _ _ _ _ _ _ _ _ _ _ _ _ _ _ _ _ _ _ _ _ _ _ _ _ _ _ _ _ _ _ _ _ _ _ _ _ _ _ _ _ _ _ _ _ _ _ _ _ _ _ _ _ _ _ _ _ _ _ _ _ _ _ _ _ _ _ _ _ _ _ _ _ _ _ _ _ _ _ _ _ _ _ _ _ _ _ _ _ _ _ _ k a c H' p q h m M _ _ _ op _ HLt _ at_ xn text raw _ _ _ _ _ _ _ _ _ Z HH HHk HZ _ _ _ _ _ _ _ b0 b1 b2 b3 b5 _ _ _ _ aq cq HQk h0
  subst h0
  obtain ⟨cd, L, hW6⟩ := w6_any (p 0) at_ text
  have HW := Lib.hid hW6
  have HFit := Lib.hid (hW6.fits (B := k) (HZ.out.1.inr (k := 0) (by decide)))
  clear hW6 b0 b2 b5
  have hS6 : ∀ (E' : Nat → Prop) (W : World), TS w g b gb gw gm E' k (.slice a 20 c) H' t p p q HH m M W → Blk W wr.heap.size 43 [.int .i64 0, .int .i64 at_, .int .i64 xn, .string text, .bool false, .bool raw] → (((W.cell? ⟨gw, 0, none⟩ = some (.slice a 20 c) ∧ W.cell? ⟨gw, 1, none⟩ = some (.int .i64 16)) ∧ W.cell? ⟨gw, 2, none⟩ = some (.slice aq (p 0).length cq)) ∧ W.cell? ⟨wr.heap.size, 1, none⟩ = some (.int .i64 at_) ∧ W.cell? ⟨wr.heap.size, 3, none⟩ = some (.string text)) := by
    intro E' W h1 h2
    obtain ⟨e0, e1, e2, -⟩ := h1.want (k := 0) (by decide)
    rw [HHk.out] at e0
    rw [HQk.out] at e2
    exact ⟨⟨⟨e0, e1⟩, e2⟩, h2.cell (j := 1) rfl, h2.cell (j := 3) rfl⟩
  have HS6 := Lib.hid hS6
  clear hS6
  go_upto_region 23 with fail
  go_cut [15, 16] (fun v15 v16 wx => ∃ gx vp E', v15 = ptr gx ∧ v16 = .int .i64 cd ∧ Hid (New6 w g b gb gw gm E' k (.slice a 20 c) H' t p p q HH m M 0 (.slice a 20 c) vp L gx wr.heap.size 43 [.int .i64 0, .int .i64 at_, .int .i64 xn, .string text, .bool false, .bool raw] wx))
  case first =>
    go_wp2_with (refine wp_region_held_drew (S := (fun X => ((X.cell? ⟨gw, 0, none⟩ = some (.slice a 20 c) ∧ X.cell? ⟨gw, 1, none⟩ = some (.int .i64 16)) ∧ X.cell? ⟨gw, 2, none⟩ = some (.slice aq (p 0).length cq)) ∧ X.cell? ⟨wr.heap.size, 1, none⟩ = some (.int .i64 at_) ∧ X.cell? ⟨wr.heap.size, 3, none⟩ = some (.string text))) (by kernel_rfl) ?_ (fun hS' => ?_); focus skip; rotate_left; refine Hid.out ?_)
    refine Lib.hid ?_
    · exact HS6.out _ _ (HZ.out.1.still (Below.refl _ _).drew) HZ.out.2
    have HZd := Lib.hid (show TS w g b gb gw gm (fun x => x = wr.heap.size) k (.slice a 20 c) H' t p p q HH m M Z.drew ∧ Blk Z.drew wr.heap.size 43 [.int .i64 0, .int .i64 at_, .int .i64 xn, .string text, .bool false, .bool raw] from ⟨HZ.out.1.still (Below.refl _ _).drew, HZ.out.2⟩)
    generalize Z.drew = V at HZd hS' ⊢
    refine wpAnyH_take (i := 0) (v := ?_) (by simp only [List.getElem?_toArray, List.getElem?_cons_zero]; exact rfl) (by kernel_rfl) (by kernel_rfl) (by kernel_rfl) (by exact fun _ _ _ h => h) (Or.inl ⟨by rfl, ?_⟩) hS' ?_
    rotate_left
    · intro w hSw; obtain ⟨s0, s1⟩ := hSw; go_simp; try with_reducible rfl
    refine wpAnyH_take (i := 1) (v := ?_) (by simp only [List.getElem?_toArray, List.getElem?_cons_succ, List.getElem?_cons_zero]; exact rfl) (by kernel_rfl) (by kernel_rfl) (by kernel_rfl) (by exact fun _ _ _ h => h) (Or.inl ⟨by rfl, ?_⟩) hS' ?_
    rotate_left
    · intro w hSw; obtain ⟨s0, s1⟩ := hSw; go_simp; try with_reducible rfl
    refine wpAnyH_take (i := 2) (v := ?_) (by simp only [List.getElem?_toArray, List.getElem?_cons_succ, List.getElem?_cons_zero]; exact rfl) (by kernel_rfl) (by kernel_rfl) (by kernel_rfl) (by exact fun _ _ _ h => h) (Or.inl ⟨by rfl, ?_⟩) hS' ?_
    rotate_left
    · intro w hSw; obtain ⟨s0, s1⟩ := hSw; go_simp; try with_reducible rfl
    refine wpAnyH_take (i := 3) (v := ?_) (by simp only [List.getElem?_toArray, List.getElem?_cons_succ, List.getElem?_cons_zero]; exact rfl) (by kernel_rfl) (by kernel_rfl) (by kernel_rfl) (by exact fun _ _ _ h => h) (Or.inl ⟨by rfl, ?_⟩) hS' ?_
    rotate_left
    · intro w hSw; obtain ⟨s0, s1⟩ := hSw; go_simp; try with_reducible rfl
    refine wpAnyH_take (i := 4) (v := ?_) (by simp only [List.getElem?_toArray, List.getElem?_cons_succ, List.getElem?_cons_zero]; exact rfl) (by kernel_rfl) (by kernel_rfl) (by kernel_rfl) (by exact fun _ _ _ h => h) (Or.inl ⟨by rfl, ?_⟩) hS' ?_
    rotate_left
    · intro w hSw; obtain ⟨s0, s1⟩ := hSw; go_simp; try with_reducible rfl
    refine wpAnyH_take (i := 5) (v := ?_) (by simp only [List.getElem?_toArray, List.getElem?_cons_succ, List.getElem?_cons_zero]; exact rfl) (by kernel_rfl) (by kernel_rfl) (by kernel_rfl) (by exact fun _ _ _ h => h) (Or.inl ⟨by rfl, ?_⟩) hS' ?_
    rotate_left
    · intro w hSw; obtain ⟨s0, s1⟩ := hSw; go_simp; try with_reducible rfl
    refine wpAnyH_take (i := 6) (v := ?_) (by simp only [List.getElem?_toArray, List.getElem?_cons_succ, List.getElem?_cons_zero]; exact rfl) (by kernel_rfl) (by kernel_rfl) (by kernel_rfl) (by exact fun _ _ _ h => h) (Or.inl ⟨by rfl, ?_⟩) hS' ?_
    rotate_left
    · intro w hSw; obtain ⟨s0, s1⟩ := hSw; go_simp; try with_reducible rfl
    try simp only [Act.put, List.setIfInBounds_toArray, List.set_cons_succ, List.set_cons_zero]
    refine wpAnyH_ready (rs := [7, 11]) (by kernel_rfl) (by simp) ?_
    refine AllReadyH.cons rfl (fun K hK => ?_) (AllReadyH.cons rfl (fun K hK => ?_) AllReadyH.nil)
    · go_simp
      have hc := ts_rw HZd.out.1 (k := 0) (by decide) (by have := HLt.out; omega) HW.out
      rw [HQk.out] at hc
      refine hc.mono ?_
      clear hc
      rintro e w9 ⟨vp, rfl, ho9, hv9, hb9⟩
      have H9 := Lib.hid (And.intro ho9 (And.intro hv9 hb9))
      have hts9 := HZd.out.1.still hb9
      have hbk9 := Blk.below HZd.out.2 hb9 HZd.out.2.lt
      refine hK.out _ _ (HS6.out _ _ hts9 hbk9) (fun hS' => ?_); clear hK K hts9 hbk9 ho9 hv9 hb9
      refine wpAnyH_take (i := 8) (v := ?_) (by simp only [List.getElem?_toArray, List.getElem?_cons_succ, List.getElem?_cons_zero]; exact rfl) (by kernel_rfl) (by kernel_rfl) (by kernel_rfl) (by exact fun _ _ _ h => h) (Or.inl ⟨by rfl, ?_⟩) hS' ?_
      rotate_left
      · intro w hSw; obtain ⟨s0, s1⟩ := hSw; go_simp; try with_reducible rfl
      refine wpAnyH_take (i := 9) (v := ?_) (by simp only [List.getElem?_toArray, List.getElem?_cons_succ, List.getElem?_cons_zero]; exact rfl) (by kernel_rfl) (by kernel_rfl) (by kernel_rfl) (by exact fun _ _ _ h => h) (Or.inl ⟨by rfl, ?_⟩) hS' ?_
      rotate_left
      · intro w hSw; obtain ⟨s0, s1⟩ := hSw; go_simp; try with_reducible rfl
      refine wpAnyH_take (i := 10) (v := ?_) (by simp only [List.getElem?_toArray, List.getElem?_cons_succ, List.getElem?_cons_zero]; exact rfl) (by kernel_rfl) (by kernel_rfl) (by kernel_rfl) (by exact fun _ _ _ h => h) (Or.inl ⟨by rfl, ?_⟩) hS' ?_
      rotate_left
      · intro w hSw; obtain ⟨s0, s1⟩ := hSw; go_simp; try with_reducible rfl
      try simp only [Act.put, List.setIfInBounds_toArray, List.set_cons_succ, List.set_cons_zero]
      refine wpAnyH_ready (rs := [11]) (by kernel_rfl) (by simp) ?_
      refine AllReadyH.cons rfl (fun K hK => ?_) AllReadyH.nil
      go_simp
      obtain ⟨gx, hgx⟩ : ∃ gx, gx = w9.heap.size := ⟨_, rfl⟩
      obtain ⟨W2, hW2⟩ : ∃ W2, W2 = w9.alloc (.cells #[.slice none 0 0, .int .i64 0, .slice none 0 0] T6T) := ⟨_, rfl⟩
      have hb2 : Below V.heap.size V W2 := by rw [hW2]; exact H9.out.2.2.alloc H9.out.2.2.size _
      have H2 := Lib.hid (show Below V.heap.size V W2 ∧ OwnP w.heap.size W2 vp L ∧ Blk W2 gx T6T [.slice none 0 0, .int .i64 0, .slice none 0 0] ∧ V.heap.size ≤ gx from ⟨hb2, by rw [hW2]; exact Own.alloc H9.out.1 _, by rw [hW2, hgx]; exact Blk.new w9 _ _, by rw [hgx]; exact H9.out.2.2.size⟩)
      rw [← hW2, ← hgx]
      refine hK.out _ _ (HS6.out _ _ (HZd.out.1.still hb2) (Blk.below HZd.out.2 hb2 HZd.out.2.lt)) (fun hS' => ?_); clear hK K hb2 hW2 hgx
      obtain ⟨av, nv, cv, hvv⟩ : ∃ av nv cv, vp = .slice av nv cv := by
        obtain ⟨av, cv, e, _⟩ := Own.slice H2.out.2.1
        exact ⟨av, _, cv, e⟩
      subst hvv
      refine wpAnyH_ready (rs := [12]) (by kernel_rfl) (by simp) ?_
      refine AllReadyH.cons rfl (fun K hK => ?_) AllReadyH.nil
      refine wp_store_row T6T (.tmp 15) (.tmp 85) rfl gx #[.slice a 20 c, .int .i64 16, .slice av nv cv] rfl rfl T6T _ H2.out.2.2.1 (show (Tryz.prog.info? T6T).map (·.size) = some 3 by kernel_rfl) rfl (by simp [Value.oneCell']) ?_
      obtain ⟨W3, hW3⟩ : ∃ W3, W3 = W2.setRow gx #[.slice a 20 c, .int .i64 16, .slice av nv cv] := ⟨_, rfl⟩
      obtain ⟨E3, h3⟩ := new6_store (k := 0) HZd.out.1 H2.out.1 H2.out.2.1 (by first | exact H9.out.2 | (rw [HQk.out]; exact H9.out.2) | (rw [HQk.out]; exact H9.out.2.1)) H2.out.2.2.1 H2.out.2.2.2 HZd.out.2 rfl hW3
      have H3 := Lib.hid h3
      rw [← hW3]
      refine hK.out _ _ (HS6.out _ _ H3.out.ts H3.out.ba) (fun hS' => ?_); clear hK K hW3 h3
      refine wpAnyH_take (i := 13) (v := ?_) (by simp only [List.getElem?_toArray, List.getElem?_cons_succ, List.getElem?_cons_zero]; exact rfl) (by kernel_rfl) (by kernel_rfl) (by kernel_rfl) (by exact fun _ _ _ h => h) (Or.inl ⟨by rfl, ?_⟩) hS' ?_
      rotate_left
      · intro w hSw; obtain ⟨s0, s1⟩ := hSw; go_simp; try with_reducible rfl
      refine wpAnyH_done (by kernel_rfl) ?_ _
      go_wp2
      go_meet
      case rel => exact ⟨gx, _, E3, rfl, rfl, H3⟩
    · go_simp
      obtain ⟨gx, hgx⟩ : ∃ gx, gx = V.heap.size := ⟨_, rfl⟩
      obtain ⟨V2, hV2⟩ : ∃ V2, V2 = V.alloc (.cells #[.slice none 0 0, .int .i64 0, .slice none 0 0] T6T) := ⟨_, rfl⟩
      have hb2 : Below V.heap.size V V2 := by rw [hV2]; exact (Below.refl _ V).alloc (Nat.le_refl _) _
      have HV2 := Lib.hid (show TS w g b gb gw gm (fun x => x = wr.heap.size) k (.slice a 20 c) H' t p p q HH m M V2 ∧ Blk V2 wr.heap.size 43 [.int .i64 0, .int .i64 at_, .int .i64 xn, .string text, .bool false, .bool raw] ∧ Below V.heap.size V V2 ∧ Blk V2 gx T6T [.slice none 0 0, .int .i64 0, .slice none 0 0] ∧ V.heap.size ≤ gx from ⟨HZd.out.1.still hb2, Blk.below HZd.out.2 hb2 HZd.out.2.lt, hb2, by rw [hV2, hgx]; exact Blk.new V _ _, by rw [hgx]; exact Nat.le_refl _⟩)
      rw [← hV2, ← hgx]
      refine hK.out _ _ (HS6.out _ _ HV2.out.1 HV2.out.2.1) (fun hS' => ?_); clear hK K hb2 hV2 hgx
      try simp only [Act.put, List.setIfInBounds_toArray, List.set_cons_succ, List.set_cons_zero]
      refine wpAnyH_ready (rs := [7]) (by kernel_rfl) (by simp) ?_
      refine AllReadyH.cons rfl (fun K hK => ?_) AllReadyH.nil
      go_simp
      have hc := ts_rw HV2.out.1 (k := 0) (by decide) (by have := HLt.out; omega) HW.out
      rw [HQk.out] at hc
      refine hc.mono ?_
      clear hc
      rintro e W2 ⟨vp, rfl, ho9, hv9, hb9⟩
      have H9 := Lib.hid (show True ∧ ((∀ x, vp.ownBlock = some x → V.heap.size ≤ x) ∨ vp = .slice aq (p 0).length cq ∧ L = p 0) from ⟨trivial, hv9.imp_left fun h x hx => Nat.le_trans HV2.out.2.2.1.size (h x hx)⟩)
      have hbb := HV2.out.2.2.1.trans (hb9.mono HV2.out.2.2.1.size)
      have H2 := Lib.hid (show Below V.heap.size V W2 ∧ OwnP w.heap.size W2 vp L ∧ Blk W2 gx T6T [.slice none 0 0, .int .i64 0, .slice none 0 0] ∧ V.heap.size ≤ gx from ⟨hbb, ho9, Blk.below HV2.out.2.2.2.1 hb9 HV2.out.2.2.2.1.lt, HV2.out.2.2.2.2⟩)
      refine hK.out _ _ (HS6.out _ _ (HV2.out.1.still hb9) (Blk.below HV2.out.2.1 hb9 HV2.out.2.1.lt)) (fun hS' => ?_); clear hK K ho9 hv9 hb9 hbb
      refine wpAnyH_take (i := 8) (v := ?_) (by simp only [List.getElem?_toArray, List.getElem?_cons_succ, List.getElem?_cons_zero]; exact rfl) (by kernel_rfl) (by kernel_rfl) (by kernel_rfl) (by exact fun _ _ _ h => h) (Or.inl ⟨by rfl, ?_⟩) hS' ?_
      rotate_left
      · intro w hSw; obtain ⟨s0, s1⟩ := hSw; go_simp; try with_reducible rfl
      refine wpAnyH_take (i := 9) (v := ?_) (by simp only [List.getElem?_toArray, List.getElem?_cons_succ, List.getElem?_cons_zero]; exact rfl) (by kernel_rfl) (by kernel_rfl) (by kernel_rfl) (by exact fun _ _ _ h => h) (Or.inl ⟨by rfl, ?_⟩) hS' ?_
      rotate_left
      · intro w hSw; obtain ⟨s0, s1⟩ := hSw; go_simp; try with_reducible rfl
      refine wpAnyH_take (i := 10) (v := ?_) (by simp only [List.getElem?_toArray, List.getElem?_cons_succ, List.getElem?_cons_zero]; exact rfl) (by kernel_rfl) (by kernel_rfl) (by kernel_rfl) (by exact fun _ _ _ h => h) (Or.inl ⟨by rfl, ?_⟩) hS' ?_
      rotate_left
      · intro w hSw; obtain ⟨s0, s1⟩ := hSw; go_simp; try with_reducible rfl
      try simp only [Act.put, List.setIfInBounds_toArray, List.set_cons_succ, List.set_cons_zero]
      obtain ⟨av, nv, cv, hvv⟩ : ∃ av nv cv, vp = .slice av nv cv := by
        obtain ⟨av, cv, e, _⟩ := Own.slice H2.out.2.1
        exact ⟨av, _, cv, e⟩
      subst hvv
      refine wpAnyH_ready (rs := [12]) (by kernel_rfl) (by simp) ?_
      refine AllReadyH.cons rfl (fun K hK => ?_) AllReadyH.nil
      refine wp_store_row T6T (.tmp 15) (.tmp 85) rfl gx #[.slice a 20 c, .int .i64 16, .slice av nv cv] rfl rfl T6T _ H2.out.2.2.1 (show (Tryz.prog.info? T6T).map (·.size) = some 3 by kernel_rfl) rfl (by simp [Value.oneCell']) ?_
      obtain ⟨W3, hW3⟩ : ∃ W3, W3 = W2.setRow gx #[.slice a 20 c, .int .i64 16, .slice av nv cv] := ⟨_, rfl⟩
      obtain ⟨E3, h3⟩ := new6_store (k := 0) HZd.out.1 H2.out.1 H2.out.2.1 (by first | exact H9.out.2 | (rw [HQk.out]; exact H9.out.2) | (rw [HQk.out]; exact H9.out.2.1)) H2.out.2.2.1 H2.out.2.2.2 HZd.out.2 rfl hW3
      have H3 := Lib.hid h3
      rw [← hW3]
      refine hK.out _ _ (HS6.out _ _ H3.out.ts H3.out.ba) (fun hS' => ?_); clear hK K hW3 h3
      refine wpAnyH_take (i := 13) (v := ?_) (by simp only [List.getElem?_toArray, List.getElem?_cons_succ, List.getElem?_cons_zero]; exact rfl) (by kernel_rfl) (by kernel_rfl) (by kernel_rfl) (by exact fun _ _ _ h => h) (Or.inl ⟨by rfl, ?_⟩) hS' ?_
      rotate_left
      · intro w hSw; obtain ⟨s0, s1⟩ := hSw; go_simp; try with_reducible rfl
      refine wpAnyH_done (by kernel_rfl) ?_ _
      go_wp2
      go_meet
      case rel => exact ⟨gx, _, E3, rfl, rfl, H3⟩
  case rest =>
    obtain ⟨gx, vp, E', rfl, rfl, hN⟩ := hcut
    have d1 := hN.out.ba.cell (j := 1) rfl
    have d3 := hN.out.ba.cell (j := 3) rfl
    clear b1 b3
    unfold ptr
    go_wp2_with fail
    refine (ts_w hN.out.ts (k := 0) (by decide) (by have := HLt.out; omega) HW.out).mono ?_
    rintro e w10 ⟨rfl, h10, hb10⟩
    have H10 := Lib.hid (hN.out.but (by decide) h10 hb10)
    clear h10 hb10 d1 d3
    have x0 := H10.out.bx.cell (j := 0) rfl
    have x1 := H10.out.bx.cell (j := 1) rfl
    have x2 := H10.out.bx.cell (j := 2) rfl
    obtain ⟨av, nv, cv, hvv⟩ : ∃ av nv cv, vp = .slice av nv cv := by
      obtain ⟨av, cv, e, _⟩ := Own.slice H10.out.op
      exact ⟨av, _, cv, e⟩
    subst hvv
    go_wp2_with (refine wpList_store_part rfl T6T (.tmp 97) (.tmp 96) rfl gw 0 [.slice a 20 c, .int .i64 16, .slice av nv cv] rfl rfl 39 _ H10.out.ts.bw (show (Tryz.prog.info? T6T).map (·.size) = some 3 by kernel_rfl) (show 0 + 3 ≤ 6 by decide) (by simp [Value.oneCell']) ?_)
    have H11 := Lib.hid ((TS.store H10.out.ts (k := 0) (v := .slice a 20 c) (by decide) H10.out.op ⟨_, _, _, rfl⟩ H10.out.old HFit.out).less (E' := fun _ => False) (fun _ h => h.elim))
    clear x0 x1 x2
    go_wp2
    go_meet
    case rel => exact ⟨a, c, H', _, _, _, _, _, rfl, H11⟩
end Go.Proofs.YtahnhhhhfioibaaGreatDoor
