/- A part of the law. -/
import Derived.Test.YtahnhhhhfioibaaGreatDoorG21
import Derived.Test.YtahnhhhhfioibaaGreatDoorG20
import Derived.Deep.RegionHeld3
import Derived.OrdersHeld
import Derived.Deep.CutBlock
import Derived.Deep.DeepCutAuto
import Derived.Test.YtahnhhhhfioibaaGreatDoorTxPartsM
namespace Go.Proofs.YtahnhhhhfioibaaGreatDoor
open Go.RowKit Lib
set_option maxRecDepth 100000 in
set_option maxHeartbeats 100000000 in
theorem tx_mark_0 : tx_g4 := by
  intro w _ _ _ _ _ _ _ _ _ g _ _ b _ _ _ _ _ _ _ _ _ _ t _ _ gm gw gb wr _ _ _ _ _ _ _ _ _ _ _ _ _ _ _ _ _ _ _ _ _ _ _ _ _ _ _ _ _ _ _ _ _ _ _ _ _ _ _ _ _ _ _ _ _ _ _ _ _ _ _ _ _ _ _ _ _ _ _ _ _ _ _ _ _ _ _ _ _ _ _ _ _ _ _ _ _ _ _ _ _ _ _ _ _ _ _ _ _ _ _ _ _ _ _ _ _ _ _ _ _ _ _ _ _ _ _ _ _ _ _ _ _ _ _ _ _ _ _ _ _ _ _ _ _ _ _ _ _ _ _ _ _ _ _ _ _ _ _ _ _ _ _ _ _ _ _ _ _ _ _ _ _ _ _ _ _ _ _ _ _ _ _ _ _ _ _ _ _ _ _ _ _ _ _ _ _ _ _ _ _ _ _ _ _ _ _ _ _ _ _ _ _ _ _ _ _ _ _ _ _ _ _ _ _ _ _ _ _ _ _ k a c H' p q h m M _ _ _ _ _ HLt _ _ _ _ _ _ _ _ _ _ _ _ _ _ Z HH _ HZ _ _ _ _ _ _ _ b0 b1 b2 b3 b5 _ _ _ _ aq cq HQk _ _ h2
  subst h2
  clear b0 b1 b2 b3 b5
  go_wp2_with (refine wp_region_held_drew (S := (fun X => X.cell? ⟨gw, 2, none⟩ = some (.slice aq (p 0).length cq) ∧ True)) (by kernel_rfl) ?_ (fun hS' => ?_); focus skip; rotate_left; refine Hid.out ?_)
  refine Lib.hid ?_
  · obtain ⟨e0, e1, e2, -⟩ := HZ.out.1.want (k := 0) (by decide)
    rw [HQk.out] at e2
    exact ⟨e2, trivial⟩
  have HV := Lib.hid (show TS w g b gb gw gm (fun x => x = wr.heap.size) k (.slice a 20 c) H' t p p q HH m M Z.drew from HZ.out.1.still (Below.refl _ _).drew)
  generalize Z.drew = V at HV hS' ⊢
  refine wpAnyH_take (i := 0) (v := ?_) (by simp only [List.getElem?_toArray, List.getElem?_cons_zero]; exact rfl) (by kernel_rfl) (by kernel_rfl) (by kernel_rfl) (by exact fun _ _ _ h => h) (Or.inl ⟨by rfl, ?_⟩) hS' ?_
  rotate_left
  · intro w hSw; obtain ⟨s0, s1⟩ := hSw; go_simp; try with_reducible rfl
  refine wpAnyH_take (i := 2) (v := ?_) (by simp only [List.getElem?_toArray, List.getElem?_cons_succ, List.getElem?_cons_zero]; exact rfl) (by kernel_rfl) (by kernel_rfl) (by kernel_rfl) (by exact fun _ _ _ h => h) (Or.inl ⟨by rfl, ?_⟩) hS' ?_
  rotate_left
  · intro w hSw; obtain ⟨s0, s1⟩ := hSw; go_simp; try with_reducible rfl
  refine wpAnyH_take (i := 3) (v := ?_) (by simp only [List.getElem?_toArray, List.getElem?_cons_succ, List.getElem?_cons_zero]; exact rfl) (by kernel_rfl) (by kernel_rfl) (by kernel_rfl) (by exact fun _ _ _ h => h) (Or.inl ⟨by rfl, ?_⟩) hS' ?_
  rotate_left
  · intro w hSw; obtain ⟨s0, s1⟩ := hSw; go_simp; try with_reducible rfl
  refine wpAnyH_take (i := 4) (v := ?_) (by simp only [List.getElem?_toArray, List.getElem?_cons_succ, List.getElem?_cons_zero]; exact rfl) (by kernel_rfl) (by kernel_rfl) (by kernel_rfl) (by exact fun _ _ _ h => h) (Or.inl ⟨by rfl, ?_⟩) hS' ?_
  rotate_left
  · intro w hSw; obtain ⟨s0, s1⟩ := hSw; go_simp; try with_reducible rfl
  refine wpAnyH_take (i := 5) (v := ?_) (by simp only [List.getElem?_toArray, List.getElem?_cons_succ, List.getElem?_cons_zero]; exact rfl) (by kernel_rfl) (by kernel_rfl) (by kernel_rfl) (by exact fun _ _ _ h => h) (Or.inl ⟨by rfl, ?_⟩) hS' ?_
  rotate_left
  · intro w hSw; obtain ⟨s0, s1⟩ := hSw; go_simp; try with_reducible rfl
  refine wpAnyH_take (i := 6) (v := ?_) (by simp only [List.getElem?_toArray, List.getElem?_cons_succ, List.getElem?_cons_zero]; exact rfl) (by kernel_rfl) (by kernel_rfl) (by kernel_rfl) (by exact fun _ _ _ h => h) (Or.inl ⟨by rfl, ?_⟩) hS' ?_
  rotate_left
  · intro w hSw; obtain ⟨s0, s1⟩ := hSw; go_simp; try with_reducible rfl
  try simp only [Act.put, List.setIfInBounds_toArray, List.set_cons_succ, List.set_cons_zero]
  refine wpAnyH_ready (rs := [1]) (by kernel_rfl) (by simp) ?_
  refine AllReadyH.cons rfl (fun K hK => ?_) AllReadyH.nil
  go_simp
  refine (ts_mark HV.out (k := 0) (by decide)).mono ?_
  rintro e w8 ⟨rfl, rfl⟩
  obtain ⟨e0, e1, e2, -⟩ := HV.out.want (k := 0) (by decide)
  rw [HQk.out] at e2
  refine hK.out _ _ ⟨e2, trivial⟩ (fun hS' => ?_); clear hK K e0 e1 e2
  refine wpAnyH_take (i := 7) (v := ?_) (by simp only [List.getElem?_toArray, List.getElem?_cons_succ, List.getElem?_cons_zero]; exact rfl) (by kernel_rfl) (by kernel_rfl) (by kernel_rfl) (by exact fun _ _ _ h => h) (Or.inl ⟨by rfl, ?_⟩) hS' ?_
  rotate_left
  · intro w hSw; obtain ⟨s0, s1⟩ := hSw; go_simp; try with_reducible rfl
  refine wpAnyH_done (by kernel_rfl) ?_ _
  obtain ⟨am, cm, hmm, -, -⟩ := HV.out.mlen (j := 0) (by decide)
  have HMk := Lib.hid hmm
  clear hmm
  go_wp2_with (refine wp_region_any (by kernel_rfl) ?_; refine Hid.out ?_)
  refine Lib.hid ?_
  try (change wpAny _ _ _ _ _ _ _ (World.drew _))
  have HU := Lib.hid (show TS w g b gb gw gm (fun x => x = wr.heap.size) k (.slice a 20 c) H' t p p q HH m M w8.drew from HV.out.still (Below.refl _ _).drew)
  generalize w8.drew = U at HU ⊢
  have hcU : U.cell? ⟨gm, 0, none⟩ = some (.slice am (M 0).length cm) := by
    obtain ⟨e0, e1, e2⟩ := HU.out.cells (k := 0) (by decide)
    rw [HMk.out] at e1
    exact e1
  refine wpAny_take (i := 0) (v := ?_) (by simp only [List.getElem?_toArray, List.getElem?_cons_zero]; exact rfl) (by kernel_rfl) (by kernel_rfl) (by kernel_rfl) (by exact fun _ _ _ h => h) (Or.inl ⟨by rfl, ?_⟩) ?_
  rotate_left
  · intro w; go_simp; try with_reducible rfl
  refine wpAny_take (i := 1) (v := ?_) (by simp only [List.getElem?_toArray, List.getElem?_cons_succ, List.getElem?_cons_zero]; exact rfl) (by kernel_rfl) (by kernel_rfl) (by kernel_rfl) (by exact fun _ _ _ h => h) (Or.inl ⟨by rfl, ?_⟩) ?_
  rotate_left
  · intro w; go_simp; try with_reducible rfl
  refine wpAny_take (i := 2) (v := ?_) (by simp only [List.getElem?_toArray, List.getElem?_cons_succ, List.getElem?_cons_zero]; exact rfl) (by kernel_rfl) (by kernel_rfl) (by kernel_rfl) (by exact fun _ _ _ h => h) (Or.inl ⟨by rfl, ?_⟩) ?_
  rotate_left
  · intro w; go_simp; try with_reducible rfl
  refine wpAny_take (i := 4) (v := ?_) (by simp only [List.getElem?_toArray, List.getElem?_cons_succ, List.getElem?_cons_zero]; exact rfl) (by kernel_rfl) (by kernel_rfl) (by kernel_rfl) (by exact fun _ _ _ h => h) (Or.inl ⟨by rfl, ?_⟩) ?_
  rotate_left
  · intro w; go_simp; try with_reducible rfl
  try simp only [Act.put, List.setIfInBounds_toArray, List.set_cons_succ, List.set_cons_zero]
  refine wpAny_ready (rs := [3, 5]) (by kernel_rfl) (by simp) ?_
  refine AllReady.cons rfl (fun K hK => ?_) (AllReady.cons rfl (fun K hK => ?_) AllReady.nil)
  · go_simp
    refine hK _ _ ?_; clear hK K
    refine wpAny_ready (rs := [5]) (by kernel_rfl) (by simp) ?_
    refine AllReady.cons rfl (fun K hK => ?_) AllReady.nil
    go_simp
    refine (ts_mark HU.out (k := 0) (by decide)).mono ?_
    rintro e w9 ⟨rfl, rfl⟩
    refine hK _ _ ?_; clear hK K
    refine wpAny_ready (rs := [6]) (by kernel_rfl) (by simp) ?_
    refine AllReady.cons rfl (fun K hK => ?_) AllReady.nil
    go_simp
    obtain ⟨n, hn⟩ : ∃ n : Int, n = ((p 0).length : Nat) := ⟨_, rfl⟩
    rw [← hn]
    have hb2 : Below w9.heap.size w9 (w9.alloc (.cells #[.int .i64 n] 3)) := (Below.refl _ w9).alloc (Nat.le_refl _) _
    have H2 := Lib.hid (HU.out.still hb2)
    have hl2 := lies_int6 w9 n
    obtain ⟨U2, hU2⟩ : ∃ U2, U2 = w9.alloc (.cells #[.int .i64 n] 3) := ⟨_, rfl⟩
    rw [← hU2] at H2 hl2 ⊢
    have HL2 := Lib.hid (And.intro hl2 (show w.heap.size ≤ U2.heap.size from H2.out.below.size))
    refine hK _ _ ?_; clear hK K hb2 hl2 hU2 hcU
    refine wpAny_ready (rs := [7]) (by kernel_rfl) (by simp) ?_
    refine AllReady.cons rfl (fun K hK => ?_) AllReady.nil
    refine wp_app2 intST6 _ _ rfl rfl (show OwnK w.heap.size U2 (.slice am (M 0).length cm) (M 0) from HMk.out ▸ (H2.out.om (j := 0) (by decide)).1) HL2.out.2 w9.heap.size 0 1 1 [n] rfl rfl HL2.out.1 (by have := (H2.out.om (j := 0) (by decide)).2; have := HLt.out; omega) ?_
    intro v9 w10 ho10 hg10 hw10
    have hg' : U2.grownBy w10 (m 0).ownBlock := by rw [HMk.out]; exact hg10
    have HG := Lib.hid (And.intro ho10 (And.intro hg' (show v9.ownBlock = (m 0).ownBlock ∨ ∀ x, v9.ownBlock = some x → U2.heap.size ≤ x by rw [HMk.out]; exact hw10)))
    obtain ⟨g1, g2⟩ := H2.out.grow_cell (k := 0) (by decide) hg'
    rw [HMk.out] at g1
    obtain ⟨av, nv, cv, hvv⟩ : ∃ av nv cv, v9 = .slice av nv cv := by
      obtain ⟨av, cv, e, _⟩ := Own.slice HG.out.1
      exact ⟨av, _, cv, e⟩
    subst hvv
    refine hK _ _ ?_; clear hK K ho10 hg10 hw10 hg'
    refine wpAny_take (i := 8) (v := ?_) (by simp only [List.getElem?_toArray, List.getElem?_cons_succ, List.getElem?_cons_zero]; exact rfl) (by kernel_rfl) (by kernel_rfl) (by kernel_rfl) (by exact fun _ _ _ h => h) (Or.inl ⟨by rfl, ?_⟩) ?_
    rotate_left
    · intro w; go_simp; try with_reducible rfl
    simp only [Act.put, List.setIfInBounds_toArray]
    refine wpAny_ready (rs := [9]) (by kernel_rfl) (by simp) ?_
    refine AllReady.cons rfl (fun K hK => ?_) AllReady.nil
    go_simp
    obtain ⟨W3, hW3⟩ : ∃ W3, W3 = w10.setCell ⟨gm, 0, none⟩ (.slice av nv cv) := ⟨_, rfl⟩
    have H3 := Lib.hid (show TS w g b gb gw gm (fun x => x = wr.heap.size) (k + 1) (.slice a 20 c) H' t p p q HH (upd m 0 (.slice av nv cv)) (upd M 0 (M 0 ++ [n])) W3 by rw [hW3]; exact H2.out.grow (k := 0) (by decide) HG.out.1 HG.out.2.1 HG.out.2.2)
    rw [← hW3]
    refine hK _ _ ?_; clear hK K hW3 g1
    refine wpAny_done (by kernel_rfl) ?_ _
    go_wp2
    go_meet
    case rel => exact ⟨a, c, H', _, _, _, _, _, rfl, Lib.hid (H3.out.less (fun _ h => h.elim))⟩
  · go_simp
    refine (ts_mark HU.out (k := 0) (by decide)).mono ?_
    rintro e w9 ⟨rfl, rfl⟩
    refine hK _ _ ?_; clear hK K
    refine wpAny_ready (rs := [3, 6]) (by kernel_rfl) (by simp) ?_
    refine AllReady.cons rfl (fun K hK => ?_) (AllReady.cons rfl (fun K hK => ?_) AllReady.nil)
    · go_simp
      refine hK _ _ ?_; clear hK K
      refine wpAny_ready (rs := [6]) (by kernel_rfl) (by simp) ?_
      refine AllReady.cons rfl (fun K hK => ?_) AllReady.nil
      go_simp
      obtain ⟨n, hn⟩ : ∃ n : Int, n = ((p 0).length : Nat) := ⟨_, rfl⟩
      rw [← hn]
      have hb2 : Below w9.heap.size w9 (w9.alloc (.cells #[.int .i64 n] 3)) := (Below.refl _ w9).alloc (Nat.le_refl _) _
      have H2 := Lib.hid (HU.out.still hb2)
      have hl2 := lies_int6 w9 n
      obtain ⟨U2, hU2⟩ : ∃ U2, U2 = w9.alloc (.cells #[.int .i64 n] 3) := ⟨_, rfl⟩
      rw [← hU2] at H2 hl2 ⊢
      have HL2 := Lib.hid (And.intro hl2 (show w.heap.size ≤ U2.heap.size from H2.out.below.size))
      refine hK _ _ ?_; clear hK K hb2 hl2 hU2 hcU
      refine wpAny_ready (rs := [7]) (by kernel_rfl) (by simp) ?_
      refine AllReady.cons rfl (fun K hK => ?_) AllReady.nil
      refine wp_app2 intST6 _ _ rfl rfl (show OwnK w.heap.size U2 (.slice am (M 0).length cm) (M 0) from HMk.out ▸ (H2.out.om (j := 0) (by decide)).1) HL2.out.2 w9.heap.size 0 1 1 [n] rfl rfl HL2.out.1 (by have := (H2.out.om (j := 0) (by decide)).2; have := HLt.out; omega) ?_
      intro v9 w10 ho10 hg10 hw10
      have hg' : U2.grownBy w10 (m 0).ownBlock := by rw [HMk.out]; exact hg10
      have HG := Lib.hid (And.intro ho10 (And.intro hg' (show v9.ownBlock = (m 0).ownBlock ∨ ∀ x, v9.ownBlock = some x → U2.heap.size ≤ x by rw [HMk.out]; exact hw10)))
      obtain ⟨g1, g2⟩ := H2.out.grow_cell (k := 0) (by decide) hg'
      rw [HMk.out] at g1
      obtain ⟨av, nv, cv, hvv⟩ : ∃ av nv cv, v9 = .slice av nv cv := by
        obtain ⟨av, cv, e, _⟩ := Own.slice HG.out.1
        exact ⟨av, _, cv, e⟩
      subst hvv
      refine hK _ _ ?_; clear hK K ho10 hg10 hw10 hg'
      refine wpAny_take (i := 8) (v := ?_) (by simp only [List.getElem?_toArray, List.getElem?_cons_succ, List.getElem?_cons_zero]; exact rfl) (by kernel_rfl) (by kernel_rfl) (by kernel_rfl) (by exact fun _ _ _ h => h) (Or.inl ⟨by rfl, ?_⟩) ?_
      rotate_left
      · intro w; go_simp; try with_reducible rfl
      simp only [Act.put, List.setIfInBounds_toArray]
      refine wpAny_ready (rs := [9]) (by kernel_rfl) (by simp) ?_
      refine AllReady.cons rfl (fun K hK => ?_) AllReady.nil
      go_simp
      obtain ⟨W3, hW3⟩ : ∃ W3, W3 = w10.setCell ⟨gm, 0, none⟩ (.slice av nv cv) := ⟨_, rfl⟩
      have H3 := Lib.hid (show TS w g b gb gw gm (fun x => x = wr.heap.size) (k + 1) (.slice a 20 c) H' t p p q HH (upd m 0 (.slice av nv cv)) (upd M 0 (M 0 ++ [n])) W3 by rw [hW3]; exact H2.out.grow (k := 0) (by decide) HG.out.1 HG.out.2.1 HG.out.2.2)
      rw [← hW3]
      refine hK _ _ ?_; clear hK K hW3 g1
      refine wpAny_done (by kernel_rfl) ?_ _
      go_wp2
      go_meet
      case rel => exact ⟨a, c, H', _, _, _, _, _, rfl, Lib.hid (H3.out.less (fun _ h => h.elim))⟩
    · go_simp
      obtain ⟨n, hn⟩ : ∃ n : Int, n = ((p 0).length : Nat) := ⟨_, rfl⟩
      rw [← hn]
      have hb2 : Below w9.heap.size w9 (w9.alloc (.cells #[.int .i64 n] 3)) := (Below.refl _ w9).alloc (Nat.le_refl _) _
      have H2 := Lib.hid (HU.out.still hb2)
      have hl2 := lies_int6 w9 n
      obtain ⟨U2, hU2⟩ : ∃ U2, U2 = w9.alloc (.cells #[.int .i64 n] 3) := ⟨_, rfl⟩
      rw [← hU2] at H2 hl2 ⊢
      have HL2 := Lib.hid (And.intro hl2 (show w.heap.size ≤ U2.heap.size from H2.out.below.size))
      refine hK _ _ ?_; clear hK K hb2 hl2 hU2 hcU
      refine wpAny_ready (rs := [3]) (by kernel_rfl) (by simp) ?_
      refine AllReady.cons rfl (fun K hK => ?_) AllReady.nil
      obtain ⟨e0, e1, e2⟩ := H2.out.cells (k := 0) (by decide)
      rw [HMk.out] at e1
      go_simp
      refine hK _ _ ?_; clear hK K e0 e1 e2
      refine wpAny_ready (rs := [7]) (by kernel_rfl) (by simp) ?_
      refine AllReady.cons rfl (fun K hK => ?_) AllReady.nil
      refine wp_app2 intST6 _ _ rfl rfl (show OwnK w.heap.size U2 (.slice am (M 0).length cm) (M 0) from HMk.out ▸ (H2.out.om (j := 0) (by decide)).1) HL2.out.2 w9.heap.size 0 1 1 [n] rfl rfl HL2.out.1 (by have := (H2.out.om (j := 0) (by decide)).2; have := HLt.out; omega) ?_
      intro v9 w10 ho10 hg10 hw10
      have hg' : U2.grownBy w10 (m 0).ownBlock := by rw [HMk.out]; exact hg10
      have HG := Lib.hid (And.intro ho10 (And.intro hg' (show v9.ownBlock = (m 0).ownBlock ∨ ∀ x, v9.ownBlock = some x → U2.heap.size ≤ x by rw [HMk.out]; exact hw10)))
      obtain ⟨g1, g2⟩ := H2.out.grow_cell (k := 0) (by decide) hg'
      rw [HMk.out] at g1
      obtain ⟨av, nv, cv, hvv⟩ : ∃ av nv cv, v9 = .slice av nv cv := by
        obtain ⟨av, cv, e, _⟩ := Own.slice HG.out.1
        exact ⟨av, _, cv, e⟩
      subst hvv
      refine hK _ _ ?_; clear hK K ho10 hg10 hw10 hg'
      refine wpAny_take (i := 8) (v := ?_) (by simp only [List.getElem?_toArray, List.getElem?_cons_succ, List.getElem?_cons_zero]; exact rfl) (by kernel_rfl) (by kernel_rfl) (by kernel_rfl) (by exact fun _ _ _ h => h) (Or.inl ⟨by rfl, ?_⟩) ?_
      rotate_left
      · intro w; go_simp; try with_reducible rfl
      simp only [Act.put, List.setIfInBounds_toArray]
      refine wpAny_ready (rs := [9]) (by kernel_rfl) (by simp) ?_
      refine AllReady.cons rfl (fun K hK => ?_) AllReady.nil
      go_simp
      obtain ⟨W3, hW3⟩ : ∃ W3, W3 = w10.setCell ⟨gm, 0, none⟩ (.slice av nv cv) := ⟨_, rfl⟩
      have H3 := Lib.hid (show TS w g b gb gw gm (fun x => x = wr.heap.size) (k + 1) (.slice a 20 c) H' t p p q HH (upd m 0 (.slice av nv cv)) (upd M 0 (M 0 ++ [n])) W3 by rw [hW3]; exact H2.out.grow (k := 0) (by decide) HG.out.1 HG.out.2.1 HG.out.2.2)
      rw [← hW3]
      refine hK _ _ ?_; clear hK K hW3 g1
      refine wpAny_done (by kernel_rfl) ?_ _
      go_wp2
      go_meet
      case rel => exact ⟨a, c, H', _, _, _, _, _, rfl, Lib.hid (H3.out.less (fun _ h => h.elim))⟩
end Go.Proofs.YtahnhhhhfioibaaGreatDoor
