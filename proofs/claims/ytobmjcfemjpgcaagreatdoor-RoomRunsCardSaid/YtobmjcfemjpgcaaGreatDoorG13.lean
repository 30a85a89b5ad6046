/- Elder texts, merged (13). -/
import Derived.Test.YtobmjcfemjpgcaaGreatDoorG12
import Derived.Deep.RegionHeld3
import Derived.OrdersHeld
import Derived.Test.YtobmjcfemjpgcaaGreatDoorG11
namespace Go.Proofs.YtobmjcfemjpgcaaGreatDoor
open Go.RowKit Lib

theorem none_cells : ∀ n : Nat, pageElem.cells (List.replicate n none) = (List.replicate n [Value.bool false, Value.string .empty]).flatten := by
  intro n
  induction n with
  | zero => rfl
  | succ n ih => rw [List.replicate_succ, Elem.cells_cons, ih, List.replicate_succ, List.flatten_cons]; rfl
theorem own_lit_of {α : Type} (K : Elem α) (E : TypeId) {B : Nat} {w X : World} (_ : Below B w X) (hB : B ≤ X.heap.size) : Own K E B (X.alloc (.cells #[] E)) (.slice (some ⟨X.heap.size, 0, none⟩) 0 0) [] := Own.mono (own_lit0 K E X) hB
theorem own_ofBlk {α : Type} (K : Elem α) {E : TypeId} {w : World} {r n : Nat} {l : List α} (hb : Blk w r E (K.cells l)) (hn : l.length = n) (hm : n ≤ 1000000) {B : Nat} (hB : B ≤ r) (hs : 1 ≤ n) : Own K E B w (.slice (some ⟨r, 0, none⟩) n n) l := by
  have hl := K.cells_length l
  subst hn
  refine ⟨hl, .inr ⟨r, l.length, (K.cells l).toArray, rfl, hB, hb, Nat.le_refl _, by unfold maxLen; omega, ?_, ?_⟩⟩
  · rw [List.size_toArray, hl]
  · exact List.take_of_length_le (by rw [hl]; exact Nat.le_refl _)
section
variable {w w1 : World} {F S : Nat → Prop} {q : Nat} {va vr : Value} {pg : List (Option Wl.Text)} {rt : List Nat}
/-- A room in new blocks. -/
theorem R7.fresh {X : World} {va vr : Value} (hb : Below w.heap.size w X) (hp : OwnPg w.heap.size X va pg) (hn : OwnW w.heap.size X vr rt) (h1 : 1 ≤ pg.length) (h2 : pg.length ≤ 4096) :
    R7 (X.alloc (.cells #[va, vr] 83)) (fun k => w.heap.size ≤ k ∧ k < (X.alloc (.cells #[va, vr] 83)).heap.size) X.heap.size va vr pg rt := by
  have hs := hb.size
  have hsz : (X.alloc (.cells #[va, vr] 83)).heap.size = X.heap.size + 1 := World.size_alloc ..
  exact ⟨Blk.new X #[va, vr] _, Own.mono (Own.alloc hp _) (Nat.zero_le _), Own.mono (Own.alloc hn _) (Nat.zero_le _), ⟨hs, by omega⟩, fun k hk => ⟨(Own.block hp k hk).1, by have := (Own.block hp k hk).2; omega⟩, fun k hk => ⟨(Own.block hn k hk).1, by have := (Own.block hn k hk).2; omega⟩, fun k hk => hk.2, h1, h2⟩
set_option maxRecDepth 100000 in
set_option maxHeartbeats 8000000 in
theorem ref7_copy (h : R7 w F q va vr pg rt) (h16 : rt.length = 16) :
    Calls Tryz.prog 30 #[ptr q] w fun e w' => ∃ q' va' vr' F', e = .returned (ptr q') ∧ R7 w' F' q' va' vr' pg rt ∧ (∀ k, F' k → w.heap.size ≤ k) ∧ Below w.heap.size w w' := by
  have c0 := h.c0
  have c1 := h.c1
  have HI := Lib.hid h
  have HR16 := Lib.hid h16
  obtain ⟨a, ca, rfl, _, _⟩ := h.form
  obtain ⟨a', ca', rfl, _⟩ := Own.slice h.on
  have hq := h.lt q h.fq
  have HSX := Lib.hid (show ∀ X : World, Below w.heap.size w X → (X.cell? ⟨q, 0, none⟩ = some (.slice (some ⟨a, 0, none⟩) pg.length ca) ∧ X.cell? ⟨q, 1, none⟩ = some (.slice a' rt.length ca')) from fun X hb => ⟨(hb.cell (p := ⟨q, 0, none⟩) hq).trans c0, (hb.cell (p := ⟨q, 1, none⟩) hq).trans c1⟩)
  have HBc := Lib.hid (show Below w.heap.size w w.drew from (Below.refl _ w).drew)
  clear h h16
  go_enter Tryz.func30, Tryz.ntmps30
  unfold ptr
  go_wp2_with (refine wp_region_held_drew (S := (fun X => X.cell? ⟨q, 0, none⟩ = some (.slice (some ⟨a, 0, none⟩) pg.length ca) ∧ X.cell? ⟨q, 1, none⟩ = some (.slice a' rt.length ca'))) (by kernel_rfl) ?_ (fun hS => ?_); focus skip; rotate_left; refine Hid.out ?_)
  refine Lib.hid ?_
  · exact ⟨c0, c1⟩
  refine wpAnyH_take (i := 1) (v := ?_) (by simp only [List.getElem?_toArray, List.getElem?_cons_succ, List.getElem?_cons_zero]; exact rfl) (by kernel_rfl) (by kernel_rfl) (by kernel_rfl) (by exact fun _ _ _ h => h) (Or.inl ⟨by rfl, ?_⟩) hS ?_
  rotate_left
  · intro w hSw; obtain ⟨s0, s1⟩ := hSw; go_simp; try with_reducible rfl
  refine wpAnyH_take (i := 2) (v := ?_) (by simp only [List.getElem?_toArray, List.getElem?_cons_succ, List.getElem?_cons_zero]; exact rfl) (by kernel_rfl) (by kernel_rfl) (by kernel_rfl) (by exact fun _ _ _ h => h) (Or.inl ⟨by rfl, ?_⟩) hS ?_
  rotate_left
  · intro w hSw; obtain ⟨s0, s1⟩ := hSw; go_simp; try with_reducible rfl
  refine wpAnyH_take (i := 3) (v := ?_) (by simp only [List.getElem?_toArray, List.getElem?_cons_succ, List.getElem?_cons_zero]; exact rfl) (by kernel_rfl) (by kernel_rfl) (by kernel_rfl) (by exact fun _ _ _ h => h) (Or.inl ⟨by rfl, ?_⟩) hS ?_
  rotate_left
  · intro w hSw; obtain ⟨s0, s1⟩ := hSw; go_simp; try with_reducible rfl
  refine wpAnyH_take (i := 4) (v := ?_) (by simp only [List.getElem?_toArray, List.getElem?_cons_succ, List.getElem?_cons_zero]; exact rfl) (by kernel_rfl) (by kernel_rfl) (by kernel_rfl) (by exact fun _ _ _ h => h) (Or.inl ⟨by rfl, ?_⟩) hS ?_
  rotate_left
  · intro w hSw; obtain ⟨s0, s1⟩ := hSw; go_simp; try with_reducible rfl
  refine wpAnyH_take (i := 7) (v := ?_) (by simp only [List.getElem?_toArray, List.getElem?_cons_succ, List.getElem?_cons_zero]; exact rfl) (by kernel_rfl) (by kernel_rfl) (by kernel_rfl) (by exact fun _ _ _ h => h) (Or.inl ⟨by rfl, ?_⟩) hS ?_
  rotate_left
  · intro w hSw; obtain ⟨s0, s1⟩ := hSw; go_simp; try with_reducible rfl
  refine wpAnyH_take (i := 8) (v := ?_) (by simp only [List.getElem?_toArray, List.getElem?_cons_succ, List.getElem?_cons_zero]; exact rfl) (by kernel_rfl) (by kernel_rfl) (by kernel_rfl) (by exact fun _ _ _ h => h) (Or.inl ⟨by rfl, ?_⟩) hS ?_
  rotate_left
  · intro w hSw; obtain ⟨s0, s1⟩ := hSw; go_simp; try with_reducible rfl
  refine wpAnyH_take (i := 9) (v := ?_) (by simp only [List.getElem?_toArray, List.getElem?_cons_succ, List.getElem?_cons_zero]; exact rfl) (by kernel_rfl) (by kernel_rfl) (by kernel_rfl) (by exact fun _ _ _ h => h) (Or.inl ⟨by rfl, ?_⟩) hS ?_
  rotate_left
  · intro w hSw; obtain ⟨s0, s1⟩ := hSw; go_simp; try with_reducible rfl
  refine wpAnyH_take (i := 10) (v := ?_) (by simp only [List.getElem?_toArray, List.getElem?_cons_succ, List.getElem?_cons_zero]; exact rfl) (by kernel_rfl) (by kernel_rfl) (by kernel_rfl) (by exact fun _ _ _ h => h) (Or.inl ⟨by rfl, ?_⟩) hS ?_
  rotate_left
  · intro w hSw; obtain ⟨s0, s1⟩ := hSw; go_simp; try with_reducible rfl
  simp only [Act.put, List.setIfInBounds_toArray, List.set_cons_succ, List.set_cons_zero]
  refine wpAnyH_ready (rs := [0, 6]) (by kernel_rfl) (by simp) ?_
  refine AllReadyH.cons rfl (fun K hK => ?_) (AllReadyH.cons rfl (fun K hK => ?_) AllReadyH.nil)
  · go_simp
    have HBn := Lib.hid (HBc.out.alloc HBc.out.size (.cells #[] 120))
    have HA := Lib.hid (own_lit_of pageElem 120 HBc.out HBc.out.size)
    try have HC := Lib.hid (Own.alloc HC.out (.cells #[] 120))
    refine hK.out _ _ (HSX.out _ HBn.out) (fun hS => ?_); clear hK K
    have HBc := HBn
    clear HBn
    refine wpAnyH_ready (rs := [5, 6]) (by kernel_rfl) (by simp) ?_
    refine AllReadyH.cons rfl (fun K hK => ?_) (AllReadyH.cons rfl (fun K hK => ?_) AllReadyH.nil)
    · rw [if_pos (by rfl)]
      refine wp_app_own (K := pageElem) (l := []) pageST _ _ rfl (by first | rfl | (simp; done) | (simp; rfl)) HA.out HBc.out.size _ 0 pg rfl (Own.below HI.out.op HBc.out (Nat.le_refl _)) (by have := HI.out.few; simp; omega) ?_
      intro v5 w5 hown5 hg5
      rw [List.nil_append] at hown5
      obtain ⟨a5, c5, hv5, _⟩ := Own.slice hown5
      subst hv5
      have HBn := Lib.hid (HBc.out.grown hg5 HBc.out.size (fun k e => (Own.block HA.out k e).1))
      try have HC := Lib.hid (Own.but HC.out (But.ofGrown hg5) (fun k hk e => Own.ne_own HA.out HC.out (by decide) e hk))
      have HA := Lib.hid hown5
      clear hown5 hg5
      refine hK.out _ _ (HSX.out _ HBn.out) (fun hS => ?_); clear hK K
      have HBc := HBn
      clear HBn
      refine wpAnyH_ready (rs := [6]) (by kernel_rfl) (by simp) ?_
      refine AllReadyH.cons rfl (fun K hK => ?_) AllReadyH.nil
      go_simp
      have HBn := Lib.hid (HBc.out.alloc HBc.out.size (.cells #[] 65))
      have HC := Lib.hid (own_lit_of u64Elem 65 HBc.out HBc.out.size)
      try have HA := Lib.hid (Own.alloc HA.out (.cells #[] 65))
      refine hK.out _ _ (HSX.out _ HBn.out) (fun hS => ?_); clear hK K
      have HBc := HBn
      clear HBn
      refine wpAnyH_ready (rs := [11]) (by kernel_rfl) (by simp) ?_
      refine AllReadyH.cons rfl (fun K hK => ?_) AllReadyH.nil
      rw [if_pos (by rfl)]
      refine wp_app_own (K := u64Elem) (l := []) u64ST _ _ rfl (by first | rfl | (simp; done) | (simp; rfl)) HC.out HBc.out.size _ 0 rt rfl (Own.below HI.out.on HBc.out (Nat.le_refl _)) (by have := HR16.out; simp; omega) ?_
      intro v6 w6 hown6 hg6
      rw [List.nil_append] at hown6
      obtain ⟨a6, c6, hv6, _⟩ := Own.slice hown6
      subst hv6
      have HBn := Lib.hid (HBc.out.grown hg6 HBc.out.size (fun k e => (Own.block HC.out k e).1))
      have HA := Lib.hid (Own.but HA.out (But.ofGrown hg6) (fun k hk e => Own.ne_own HC.out HA.out (by decide) e hk))
      have HC := Lib.hid hown6
      clear hown6 hg6
      refine hK.out _ _ (HSX.out _ HBn.out) (fun hS => ?_); clear hK K
      have HBc := HBn
      clear HBn
      refine wpAnyH_take (i := 12) (v := ?_) (by simp only [List.getElem?_toArray, List.getElem?_cons_succ, List.getElem?_cons_zero]; exact rfl) (by kernel_rfl) (by kernel_rfl) (by kernel_rfl) (by exact fun _ _ _ h => h) (Or.inl ⟨by rfl, ?_⟩) hS ?_
      rotate_left
      · intro w hSw; obtain ⟨s0, s1⟩ := hSw; go_simp; try with_reducible rfl
      refine wpAnyH_ready (rs := [13]) (by kernel_rfl) (by simp) ?_
      refine AllReadyH.cons rfl (fun K hK => ?_) AllReadyH.nil
      go_simp
      have HBn := Lib.hid (HBc.out.alloc HBc.out.size (.cells #[.slice a5 pg.length c5, .slice a6 rt.length c6] 83))
      refine hK.out _ _ (HSX.out _ HBn.out) (fun hS => ?_); clear hK K
      refine wpAnyH_take (i := 14) (v := ?_) (by simp only [List.getElem?_toArray, List.getElem?_cons_succ, List.getElem?_cons_zero]; exact rfl) (by kernel_rfl) (by kernel_rfl) (by kernel_rfl) (by exact fun _ _ _ h => h) (Or.inl ⟨by rfl, ?_⟩) hS ?_
      rotate_left
      · intro w hSw; obtain ⟨s0, s1⟩ := hSw; go_simp; try with_reducible rfl
      refine wpAnyH_done (by kernel_rfl) ?_ _
      go_wp2
      go_ret
      exact ⟨_, _, _, _, rfl, R7.fresh HBc.out HA.out HC.out HI.out.pos HI.out.few, fun k hk => hk.1, HBn.out⟩
    · go_simp
      have HBn := Lib.hid (HBc.out.alloc HBc.out.size (.cells #[] 65))
      have HC := Lib.hid (own_lit_of u64Elem 65 HBc.out HBc.out.size)
      try have HA := Lib.hid (Own.alloc HA.out (.cells #[] 65))
      refine hK.out _ _ (HSX.out _ HBn.out) (fun hS => ?_); clear hK K
      have HBc := HBn
      clear HBn
      refine wpAnyH_ready (rs := [5]) (by kernel_rfl) (by simp) ?_
      refine AllReadyH.cons rfl (fun K hK => ?_) AllReadyH.nil
      rw [if_pos (by rfl)]
      refine wp_app_own (K := pageElem) (l := []) pageST _ _ rfl (by first | rfl | (simp; done) | (simp; rfl)) HA.out HBc.out.size _ 0 pg rfl (Own.below HI.out.op HBc.out (Nat.le_refl _)) (by have := HI.out.few; simp; omega) ?_
      intro v5 w5 hown5 hg5
      rw [List.nil_append] at hown5
      obtain ⟨a5, c5, hv5, _⟩ := Own.slice hown5
      subst hv5
      have HBn := Lib.hid (HBc.out.grown hg5 HBc.out.size (fun k e => (Own.block HA.out k e).1))
      try have HC := Lib.hid (Own.but HC.out (But.ofGrown hg5) (fun k hk e => Own.ne_own HA.out HC.out (by decide) e hk))
      have HA := Lib.hid hown5
      clear hown5 hg5
      refine hK.out _ _ (HSX.out _ HBn.out) (fun hS => ?_); clear hK K
      have HBc := HBn
      clear HBn
      refine wpAnyH_ready (rs := [11]) (by kernel_rfl) (by simp) ?_
      refine AllReadyH.cons rfl (fun K hK => ?_) AllReadyH.nil
      rw [if_pos (by rfl)]
      refine wp_app_own (K := u64Elem) (l := []) u64ST _ _ rfl (by first | rfl | (simp; done) | (simp; rfl)) HC.out HBc.out.size _ 0 rt rfl (Own.below HI.out.on HBc.out (Nat.le_refl _)) (by have := HR16.out; simp; omega) ?_
      intro v6 w6 hown6 hg6
      rw [List.nil_append] at hown6
      obtain ⟨a6, c6, hv6, _⟩ := Own.slice hown6
      subst hv6
      have HBn := Lib.hid (HBc.out.grown hg6 HBc.out.size (fun k e => (Own.block HC.out k e).1))
      have HA := Lib.hid (Own.but HA.out (But.ofGrown hg6) (fun k hk e => Own.ne_own HC.out HA.out (by decide) e hk))
      have HC := Lib.hid hown6
      clear hown6 hg6
      refine hK.out _ _ (HSX.out _ HBn.out) (fun hS => ?_); clear hK K
      have HBc := HBn
      clear HBn
      refine wpAnyH_take (i := 12) (v := ?_) (by simp only [List.getElem?_toArray, List.getElem?_cons_succ, List.getElem?_cons_zero]; exact rfl) (by kernel_rfl) (by kernel_rfl) (by kernel_rfl) (by exact fun _ _ _ h => h) (Or.inl ⟨by rfl, ?_⟩) hS ?_
      rotate_left
      · intro w hSw; obtain ⟨s0, s1⟩ := hSw; go_simp; try with_reducible rfl
      refine wpAnyH_ready (rs := [13]) (by kernel_rfl) (by simp) ?_
      refine AllReadyH.cons rfl (fun K hK => ?_) AllReadyH.nil
      go_simp
      have HBn := Lib.hid (HBc.out.alloc HBc.out.size (.cells #[.slice a5 pg.length c5, .slice a6 rt.length c6] 83))
      refine hK.out _ _ (HSX.out _ HBn.out) (fun hS => ?_); clear hK K
      refine wpAnyH_take (i := 14) (v := ?_) (by simp only [List.getElem?_toArray, List.getElem?_cons_succ, List.getElem?_cons_zero]; exact rfl) (by kernel_rfl) (by kernel_rfl) (by kernel_rfl) (by exact fun _ _ _ h => h) (Or.inl ⟨by rfl, ?_⟩) hS ?_
      rotate_left
      · intro w hSw; obtain ⟨s0, s1⟩ := hSw; go_simp; try with_reducible rfl
      refine wpAnyH_done (by kernel_rfl) ?_ _
      go_wp2
      go_ret
      exact ⟨_, _, _, _, rfl, R7.fresh HBc.out HA.out HC.out HI.out.pos HI.out.few, fun k hk => hk.1, HBn.out⟩
  · go_simp
    have HBn := Lib.hid (HBc.out.alloc HBc.out.size (.cells #[] 65))
    have HC := Lib.hid (own_lit_of u64Elem 65 HBc.out HBc.out.size)
    try have HA := Lib.hid (Own.alloc HA.out (.cells #[] 65))
    refine hK.out _ _ (HSX.out _ HBn.out) (fun hS => ?_); clear hK K
    have HBc := HBn
    clear HBn
    refine wpAnyH_ready (rs := [0]) (by kernel_rfl) (by simp) ?_
    refine AllReadyH.cons rfl (fun K hK => ?_) AllReadyH.nil
    go_simp
    have HBn := Lib.hid (HBc.out.alloc HBc.out.size (.cells #[] 120))
    have HA := Lib.hid (own_lit_of pageElem 120 HBc.out HBc.out.size)
    try have HC := Lib.hid (Own.alloc HC.out (.cells #[] 120))
    refine hK.out _ _ (HSX.out _ HBn.out) (fun hS => ?_); clear hK K
    have HBc := HBn
    clear HBn
    refine wpAnyH_ready (rs := [5]) (by kernel_rfl) (by simp) ?_
    refine AllReadyH.cons rfl (fun K hK => ?_) AllReadyH.nil
    rw [if_pos (by rfl)]
    refine wp_app_own (K := pageElem) (l := []) pageST _ _ rfl (by first | rfl | (simp; done) | (simp; rfl)) HA.out HBc.out.size _ 0 pg rfl (Own.below HI.out.op HBc.out (Nat.le_refl _)) (by have := HI.out.few; simp; omega) ?_
    intro v5 w5 hown5 hg5
    rw [List.nil_append] at hown5
    obtain ⟨a5, c5, hv5, _⟩ := Own.slice hown5
    subst hv5
    have HBn := Lib.hid (HBc.out.grown hg5 HBc.out.size (fun k e => (Own.block HA.out k e).1))
    try have HC := Lib.hid (Own.but HC.out (But.ofGrown hg5) (fun k hk e => Own.ne_own HA.out HC.out (by decide) e hk))
    have HA := Lib.hid hown5
    clear hown5 hg5
    refine hK.out _ _ (HSX.out _ HBn.out) (fun hS => ?_); clear hK K
    have HBc := HBn
    clear HBn
    refine wpAnyH_ready (rs := [11]) (by kernel_rfl) (by simp) ?_
    refine AllReadyH.cons rfl (fun K hK => ?_) AllReadyH.nil
    rw [if_pos (by rfl)]
    refine wp_app_own (K := u64Elem) (l := []) u64ST _ _ rfl (by first | rfl | (simp; done) | (simp; rfl)) HC.out HBc.out.size _ 0 rt rfl (Own.below HI.out.on HBc.out (Nat.le_refl _)) (by have := HR16.out; simp; omega) ?_
    intro v6 w6 hown6 hg6
    rw [List.nil_append] at hown6
    obtain ⟨a6, c6, hv6, _⟩ := Own.slice hown6
    subst hv6
    have HBn := Lib.hid (HBc.out.grown hg6 HBc.out.size (fun k e => (Own.block HC.out k e).1))
    have HA := Lib.hid (Own.but HA.out (But.ofGrown hg6) (fun k hk e => Own.ne_own HC.out HA.out (by decide) e hk))
    have HC := Lib.hid hown6
    clear hown6 hg6
    refine hK.out _ _ (HSX.out _ HBn.out) (fun hS => ?_); clear hK K
    have HBc := HBn
    clear HBn
    refine wpAnyH_take (i := 12) (v := ?_) (by simp only [List.getElem?_toArray, List.getElem?_cons_succ, List.getElem?_cons_zero]; exact rfl) (by kernel_rfl) (by kernel_rfl) (by kernel_rfl) (by exact fun _ _ _ h => h) (Or.inl ⟨by rfl, ?_⟩) hS ?_
    rotate_left
    · intro w hSw; obtain ⟨s0, s1⟩ := hSw; go_simp; try with_reducible rfl
    refine wpAnyH_ready (rs := [13]) (by kernel_rfl) (by simp) ?_
    refine AllReadyH.cons rfl (fun K hK => ?_) AllReadyH.nil
    go_simp
    have HBn := Lib.hid (HBc.out.alloc HBc.out.size (.cells #[.slice a5 pg.length c5, .slice a6 rt.length c6] 83))
    refine hK.out _ _ (HSX.out _ HBn.out) (fun hS => ?_); clear hK K
    refine wpAnyH_take (i := 14) (v := ?_) (by simp only [List.getElem?_toArray, List.getElem?_cons_succ, List.getElem?_cons_zero]; exact rfl) (by kernel_rfl) (by kernel_rfl) (by kernel_rfl) (by exact fun _ _ _ h => h) (Or.inl ⟨by rfl, ?_⟩) hS ?_
    rotate_left
    · intro w hSw; obtain ⟨s0, s1⟩ := hSw; go_simp; try with_reducible rfl
    refine wpAnyH_done (by kernel_rfl) ?_ _
    go_wp2
    go_ret
    exact ⟨_, _, _, _, rfl, R7.fresh HBc.out HA.out HC.out HI.out.pos HI.out.few, fun k hk => hk.1, HBn.out⟩
end
end Go.Proofs.YtobmjcfemjpgcaaGreatDoor

namespace Go.Proofs.YtobmjcfemjpgcaaGreatDoor
open Go.RowKit Lib

theorem made_two (a b : Value) (n : Nat) : madeCells #[a, b] (n * 2) = (List.replicate n [a, b]).flatten.toArray := by
  have key : ∀ (n k : Nat), k < n * 2 → ((List.replicate n [a, b]).flatten)[k]? = some (if k % 2 = 0 then a else b) := by
    intro n
    induction n with
    | zero => intro k hk; omega
    | succ n ih =>
      intro k hk
      rw [List.replicate_succ, List.flatten_cons]
      match k, hk with
      | 0, _ => rfl
      | 1, _ => rfl
      | k + 2, hk =>
        show ((List.replicate n [a, b]).flatten)[k]? = _
        rw [ih k (by omega), show (k + 2) % 2 = k % 2 by omega]
  have hl : ((List.replicate n [a, b]).flatten).length = n * 2 := by simp
  apply Array.ext
  · simp [madeCells]
  · intro k h1 h2
    have hk : k < n * 2 := by simpa [madeCells] using h1
    have e := key n k hk
    rw [List.getElem?_eq_getElem (by rw [hl]; exact hk)] at e
    injection e with e
    simp only [madeCells, Array.getElem_map, Array.getElem_range, List.getElem_toArray, e]
    rcases Nat.mod_two_eq_zero_or_one k with h | h
    · rw [if_pos h]; simp [h]
    · rw [if_neg (by omega)]; simp [h]
theorem make_pages (w : World) (n : Nat) (hn : n ≤ 100000) : (Instr.makeSlice 80 (.int .i64 n) (.int .i64 n)).run Tryz.prog w = .ok (.slice (some ⟨w.heap.size, 0, none⟩) n n) (w.alloc (.cells (pageElem.cells (List.replicate n none)).toArray 120)) := by
  obtain ⟨i, hi, hz, hs, hb⟩ := info_of (P := Tryz.prog) (E := 120) (size := 2) (bytes := 24) (z := .agg #[.bool false, .string .empty]) (by kernel_rfl)
  have := run_make (P := Tryz.prog) w 80 120 i (.agg #[.bool false, .string .empty]) Tryz.underlying80 hi hz .i64 .i64 n n (by omega) (by omega) (by rw [hb]; omega) (by omega)
  rw [this, hs, Int.toNat_natCast, show (Value.agg #[.bool false, .string .empty]).cells = #[.bool false, .string .empty] from rfl, made_two, none_cells]
theorem make_u64 (w : World) : (Instr.makeSlice 81 (.int .i64 16) (.int .i64 16)).run Tryz.prog w = .ok (.slice (some ⟨w.heap.size, 0, none⟩) 16 16) (w.alloc (.cells (u64Elem.cells (List.replicate 16 0)).toArray 65)) := by
  obtain ⟨i, hi, hz, hs, hb⟩ := info_of (P := Tryz.prog) (E := 65) (size := 1) (bytes := 8) (z := .int .u64 0) (by kernel_rfl)
  have := run_make (P := Tryz.prog) w 81 65 i (.int .u64 0) Tryz.underlying81 hi hz .i64 .i64 16 16 (by omega) (by omega) (by rw [hb]; decide) (by omega)
  rw [this, hs, show (Value.int IntKind.u64 0).cells = #[.int .u64 0] from rfl, made_one]
  rfl
set_option maxRecDepth 100000 in
set_option maxHeartbeats 4000000 in
theorem ref7_new (w : World) (n : Int) (hr : -9223372036854775808 ≤ n ∧ n ≤ 9223372036854775807) (N : Nat) (hN : Rm.pages n = N) (h1 : 1 ≤ N) (h2 : N ≤ 4096) :
    Calls Tryz.prog 29 #[.int .i64 n] w fun e w' => ∃ q' va' vr' F', e = .returned (ptr q') ∧ R7 w' F' q' va' vr' (List.replicate N none) (List.replicate 16 0) ∧ (∀ k, F' k → w.heap.size ≤ k) ∧ Below w.heap.size w w' := by
  have HR := Lib.hid hr
  have HP := Lib.hid hN
  have HN := Lib.hid (And.intro h1 h2)
  have hm1 := fun X => make_pages X N (by omega)
  have hm2 := make_u64
  have HBc := Lib.hid (show Below w.heap.size w w.drew from (Below.refl _ w).drew)
  clear hr hN h1 h2
  go_enter Tryz.func29, Tryz.ntmps29
  go_wp2_with (refine wp_region_any (by kernel_rfl) ?_; refine Hid.out ?_)
  refine Lib.hid ?_
  try (change wpAny _ _ _ _ _ _ _ (World.drew _))
  refine wpAny_take (i := 0) (v := ?_) (by simp only [List.getElem?_toArray, List.getElem?_cons_zero]; exact rfl) (by kernel_rfl) (by kernel_rfl) (by kernel_rfl) (by exact fun _ _ _ h => h) (Or.inl ⟨by rfl, ?_⟩) ?_
  rotate_left
  · intro w; go_simp; try with_reducible rfl
  simp only [Act.put, List.setIfInBounds_toArray, List.set_cons_succ, List.set_cons_zero]
  refine wpAny_ready (rs := [1, 3]) (by kernel_rfl) (by simp) ?_
  refine AllReady.cons rfl (fun K hK => ?_) (AllReady.cons rfl (fun K hK => ?_) AllReady.nil)
  · go_simp
    refine (refPages_any _ n HR.out).mono ?_
    rintro e w1 ⟨rfl, rfl⟩
    rw [HP.out]
    refine hK _ _ ?_; clear hK K
    refine wpAny_ready (rs := [2, 3]) (by kernel_rfl) (by simp) ?_
    refine AllReady.cons rfl (fun K hK => ?_) (AllReady.cons rfl (fun K hK => ?_) AllReady.nil)
    · go_simp
      have HA := Lib.hid (own_ofBlk pageElem (Blk.new _ (pageElem.cells (List.replicate N none)).toArray 120 |> fun h => (show Blk _ _ _ (pageElem.cells (List.replicate N none)) from h)) List.length_replicate (by have := HN.out; omega) HBc.out.size HN.out.1)
      try have HC := Lib.hid (Own.alloc HC.out (.cells (pageElem.cells (List.replicate N none)).toArray 120))
      have HBc := Lib.hid (HBc.out.alloc HBc.out.size (.cells (pageElem.cells (List.replicate N none)).toArray 120))
      refine hK _ _ ?_; clear hK K
      refine wpAny_ready (rs := [3]) (by kernel_rfl) (by simp) ?_
      refine AllReady.cons rfl (fun K hK => ?_) AllReady.nil
      go_simp
      have HC := Lib.hid (own_ofBlk u64Elem (Blk.new _ (u64Elem.cells (List.replicate 16 0)).toArray 65 |> fun h => (show Blk _ _ _ (u64Elem.cells (List.replicate 16 0)) from h)) List.length_replicate (by decide) HBc.out.size (by decide))
      try have HA := Lib.hid (Own.alloc HA.out (.cells (u64Elem.cells (List.replicate 16 0)).toArray 65))
      have HBc := Lib.hid (HBc.out.alloc HBc.out.size (.cells (u64Elem.cells (List.replicate 16 0)).toArray 65))
      refine hK _ _ ?_; clear hK K
      refine wpAny_take (i := 4) (v := ?_) (by simp only [List.getElem?_toArray, List.getElem?_cons_succ, List.getElem?_cons_zero]; exact rfl) (by kernel_rfl) (by kernel_rfl) (by kernel_rfl) (by exact fun _ _ _ h => h) (Or.inl ⟨by rfl, ?_⟩) ?_
      rotate_left
      · intro w; go_simp; try with_reducible rfl
      refine wpAny_ready (rs := [5]) (by kernel_rfl) (by simp) ?_
      refine AllReady.cons rfl (fun K hK => ?_) AllReady.nil
      go_simp
      refine hK _ _ ?_; clear hK K
      refine wpAny_take (i := 6) (v := ?_) (by simp only [List.getElem?_toArray, List.getElem?_cons_succ, List.getElem?_cons_zero]; exact rfl) (by kernel_rfl) (by kernel_rfl) (by kernel_rfl) (by exact fun _ _ _ h => h) (Or.inl ⟨by rfl, ?_⟩) ?_
      rotate_left
      · intro w; go_simp; try with_reducible rfl
      refine wpAny_done (by kernel_rfl) ?_ _
      go_wp2
      go_ret
      have hf := R7.fresh HBc.out HA.out HC.out (by rw [List.length_replicate]; exact HN.out.1) (by rw [List.length_replicate]; have := HN.out; omega)
      simp only [World.size_alloc] at hf
      refine ⟨_, _, _, _, rfl, hf, fun k hk => (show w.heap.size ≤ k ∧ _ from hk).1, ?_⟩
      exact (HBc.out.alloc HBc.out.size _)
    · go_simp
      have HC := Lib.hid (own_ofBlk u64Elem (Blk.new _ (u64Elem.cells (List.replicate 16 0)).toArray 65 |> fun h => (show Blk _ _ _ (u64Elem.cells (List.replicate 16 0)) from h)) List.length_replicate (by decide) HBc.out.size (by decide))
      try have HA := Lib.hid (Own.alloc HA.out (.cells (u64Elem.cells (List.replicate 16 0)).toArray 65))
      have HBc := Lib.hid (HBc.out.alloc HBc.out.size (.cells (u64Elem.cells (List.replicate 16 0)).toArray 65))
      refine hK _ _ ?_; clear hK K
      refine wpAny_ready (rs := [2]) (by kernel_rfl) (by simp) ?_
      refine AllReady.cons rfl (fun K hK => ?_) AllReady.nil
      go_simp
      have HA := Lib.hid (own_ofBlk pageElem (Blk.new _ (pageElem.cells (List.replicate N none)).toArray 120 |> fun h => (show Blk _ _ _ (pageElem.cells (List.replicate N none)) from h)) List.length_replicate (by have := HN.out; omega) HBc.out.size HN.out.1)
      try have HC := Lib.hid (Own.alloc HC.out (.cells (pageElem.cells (List.replicate N none)).toArray 120))
      have HBc := Lib.hid (HBc.out.alloc HBc.out.size (.cells (pageElem.cells (List.replicate N none)).toArray 120))
      refine hK _ _ ?_; clear hK K
      refine wpAny_take (i := 4) (v := ?_) (by simp only [List.getElem?_toArray, List.getElem?_cons_succ, List.getElem?_cons_zero]; exact rfl) (by kernel_rfl) (by kernel_rfl) (by kernel_rfl) (by exact fun _ _ _ h => h) (Or.inl ⟨by rfl, ?_⟩) ?_
      rotate_left
      · intro w; go_simp; try with_reducible rfl
      refine wpAny_ready (rs := [5]) (by kernel_rfl) (by simp) ?_
      refine AllReady.cons rfl (fun K hK => ?_) AllReady.nil
      go_simp
      refine hK _ _ ?_; clear hK K
      refine wpAny_take (i := 6) (v := ?_) (by simp only [List.getElem?_toArray, List.getElem?_cons_succ, List.getElem?_cons_zero]; exact rfl) (by kernel_rfl) (by kernel_rfl) (by kernel_rfl) (by exact fun _ _ _ h => h) (Or.inl ⟨by rfl, ?_⟩) ?_
      rotate_left
      · intro w; go_simp; try with_reducible rfl
      refine wpAny_done (by kernel_rfl) ?_ _
      go_wp2
      go_ret
      have hf := R7.fresh HBc.out HA.out HC.out (by rw [List.length_replicate]; exact HN.out.1) (by rw [List.length_replicate]; have := HN.out; omega)
      simp only [World.size_alloc] at hf
      refine ⟨_, _, _, _, rfl, hf, fun k hk => (show w.heap.size ≤ k ∧ _ from hk).1, ?_⟩
      exact (HBc.out.alloc HBc.out.size _)
  · go_simp
    have HC := Lib.hid (own_ofBlk u64Elem (Blk.new _ (u64Elem.cells (List.replicate 16 0)).toArray 65 |> fun h => (show Blk _ _ _ (u64Elem.cells (List.replicate 16 0)) from h)) List.length_replicate (by decide) HBc.out.size (by decide))
    try have HA := Lib.hid (Own.alloc HA.out (.cells (u64Elem.cells (List.replicate 16 0)).toArray 65))
    have HBc := Lib.hid (HBc.out.alloc HBc.out.size (.cells (u64Elem.cells (List.replicate 16 0)).toArray 65))
    refine hK _ _ ?_; clear hK K
    refine wpAny_ready (rs := [1]) (by kernel_rfl) (by simp) ?_
    refine AllReady.cons rfl (fun K hK => ?_) AllReady.nil
    go_simp
    refine (refPages_any _ n HR.out).mono ?_
    rintro e w1 ⟨rfl, rfl⟩
    rw [HP.out]
    refine hK _ _ ?_; clear hK K
    refine wpAny_ready (rs := [2]) (by kernel_rfl) (by simp) ?_
    refine AllReady.cons rfl (fun K hK => ?_) AllReady.nil
    go_simp
    have HA := Lib.hid (own_ofBlk pageElem (Blk.new _ (pageElem.cells (List.replicate N none)).toArray 120 |> fun h => (show Blk _ _ _ (pageElem.cells (List.replicate N none)) from h)) List.length_replicate (by have := HN.out; omega) HBc.out.size HN.out.1)
    try have HC := Lib.hid (Own.alloc HC.out (.cells (pageElem.cells (List.replicate N none)).toArray 120))
    have HBc := Lib.hid (HBc.out.alloc HBc.out.size (.cells (pageElem.cells (List.replicate N none)).toArray 120))
    refine hK _ _ ?_; clear hK K
    refine wpAny_take (i := 4) (v := ?_) (by simp only [List.getElem?_toArray, List.getElem?_cons_succ, List.getElem?_cons_zero]; exact rfl) (by kernel_rfl) (by kernel_rfl) (by kernel_rfl) (by exact fun _ _ _ h => h) (Or.inl ⟨by rfl, ?_⟩) ?_
    rotate_left
    · intro w; go_simp; try with_reducible rfl
    refine wpAny_ready (rs := [5]) (by kernel_rfl) (by simp) ?_
    refine AllReady.cons rfl (fun K hK => ?_) AllReady.nil
    go_simp
    refine hK _ _ ?_; clear hK K
    refine wpAny_take (i := 6) (v := ?_) (by simp only [List.getElem?_toArray, List.getElem?_cons_succ, List.getElem?_cons_zero]; exact rfl) (by kernel_rfl) (by kernel_rfl) (by kernel_rfl) (by exact fun _ _ _ h => h) (Or.inl ⟨by rfl, ?_⟩) ?_
    rotate_left
    · intro w; go_simp; try with_reducible rfl
    refine wpAny_done (by kernel_rfl) ?_ _
    go_wp2
    go_ret
    have hf := R7.fresh HBc.out HA.out HC.out (by rw [List.length_replicate]; exact HN.out.1) (by rw [List.length_replicate]; have := HN.out; omega)
    simp only [World.size_alloc] at hf
    refine ⟨_, _, _, _, rfl, hf, fun k hk => (show w.heap.size ≤ k ∧ _ from hk).1, ?_⟩
    exact (HBc.out.alloc HBc.out.size _)
end Go.Proofs.YtobmjcfemjpgcaaGreatDoor

namespace Go.Proofs.YtobmjcfemjpgcaaGreatDoor
open Go.RowKit Lib

theorem OwnW.at {B : Nat} {w : World} {o n co : Nat} {ws : List Nat} (h : OwnW B w (.slice (some ⟨o, 0, none⟩) n co) ws) (k : Nat) (hk : k < ws.length) : w.cell? ⟨o, k, none⟩ = some (.int .u64 (ws.getD k 0 : Nat)) := by
  have h0 := (Own.lies h).at k 0 (by decide) hk _ rfl
  rw [Nat.zero_add, show u64Elem.size = 1 from rfl, Nat.mul_one, Nat.add_zero] at h0
  rw [h0, List.getD_eq_getElem?_getD, List.getElem?_eq_getElem hk, Option.getD_some]
section
variable {X X' : World} {R R' S F : Nat → Prop} {ring g N lb tb rb q : Nat} {H H' : List Wl.Text} {ps ps' : List (Nat × List UInt8)} {pg pg' : List (Option Wl.Text)} {rt rt' : List Nat} {va vr : Value}
set_option maxRecDepth 100000 in
set_option maxHeartbeats 4000000 in
theorem same_any (h : RmI R ring g N lb tb rb H ps pg rt X) (h7 : R7 X F q va vr pg rt) :
    Calls Tryz.prog 43 #[ptr rb, ptr q] X fun e X' => e = .returned (.bool true) ∧ Below X.heap.size X X' := by
  have HI := Lib.hid h
  have H7 := Lib.hid h7
  have HL := Lib.hid (show pg.length ≤ 4096 ∧ rt.length = 16 from ⟨h7.few, h.rep.nums⟩)
  have hfI : (pg.length : Int) ≤ 4096 := by have := h7.few; omega
  obtain ⟨a, ca, rfl, _, _⟩ := h7.form
  obtain ⟨a', ca', rfl, _, _⟩ := Own.form h7.on (by rw [h.rep.nums]; decide)
  clear h h7
  go_enter Tryz.func43, Tryz.ntmps43
  unfold ptr
  go_wp2_with fail
  refine (room_Used HI.out).mono ?_
  rintro e X1 ⟨rfl, hb1⟩
  have HI1 := Lib.hid (HI.out.still hb1)
  have H71 := Lib.hid (H7.out.still hb1)
  have HB1 := Lib.hid hb1
  have c0 := H71.out.c0
  clear hb1
  go_wp2
  go_quiet ((first
    | (go_at_call 80; exact Calls.quiet_of_same (ref7_used (by first | exact H71.out.still (below_drawn _ _) | exact H71.out)))
    | (go_at_call 67; exact Calls.quiet_of_same (room_pages (by first | exact HI1.out.still (below_drawn _ _) | exact HI1.out)))))
  rename_i nq
  obtain ⟨X2, hX2⟩ : ∃ X2, X2 = X1.drewN nq := ⟨_, rfl⟩
  rw [← hX2]
  have hbd : Below X1.heap.size X1 X2 := by rw [hX2]; exact below_drawn _ _
  have HI2 := Lib.hid (HI1.out.still hbd)
  have H72 := Lib.hid (H71.out.still hbd)
  have HB2 := Lib.hid (HB1.out.trans (hbd.mono HB1.out.size))
  have d0 := H72.out.c0
  clear hbd hX2 c0 H71 HI1 HB1
  go_wp2
  go_loopw [44] (fun i wr => ∃ k : Nat, k ≤ pg.length ∧ i = .int .i64 k ∧ Hid (Below X2.heap.size X2 wr)) (fun i _ => pg.length - (Go.RowKit.intOf i).toNat)
  case atStart => exact ⟨0, Nat.zero_le _, rfl, Lib.hid (Below.refl _ _)⟩
  case round =>
    clear d0
    obtain ⟨k, hk, rfl, hB⟩ := hrel
    have HI3 := Lib.hid (HI2.out.still hB.out)
    have H73 := Lib.hid (H72.out.still hB.out)
    by_cases hlt : k < pg.length
    · have hI : (k : Int) < pg.length := by omega
      have HLt := Lib.hid hlt
      clear hlt hk
      go_wp2_with fail
      refine (room_Read HI3.out k).mono ?_
      rintro e X4 ⟨rfl, hb4⟩
      have H74 := Lib.hid (H73.out.still hb4)
      have HB4 := Lib.hid (hB.out.trans (hb4.mono hB.out.size))
      clear hb4
      go_wp2_with fail
      refine (ref7_read H74.out k).mono ?_
      rintro e X5 ⟨rfl, rfl⟩
      generalize Rm.refuse pg k = z
      generalize Rm.got pg k = t
      go_wp2
      go_roundw
      case rel => exact ⟨k + 1, HLt.out, by go_num, HB4⟩
      case measure => have := HLt.out; simp [Go.RowKit.intOf]; omega
    · have hI : ¬ (k : Int) < pg.length := by omega
      have d1 := H73.out.c1
      have HB3 := Lib.hid (HB2.out.trans (hB.out.mono HB2.out.size))
      have h16I : (rt.length : Int) = 16 := by have := HL.out; omega
      clear hlt hk hB
      obtain ⟨X3, hX3⟩ : ∃ X3, X3 = wr := ⟨_, rfl⟩
      rw [← hX3] at HI3 H73 HB3 d1 ⊢
      clear hX3
      go_wp2
      go_loopw [73] (fun i wr => ∃ j : Nat, j ≤ 16 ∧ i = .int .i64 j ∧ Hid (Below X3.heap.size X3 wr)) (fun i _ => 16 - (Go.RowKit.intOf i).toNat)
      case atStart => exact ⟨0, Nat.zero_le _, rfl, Lib.hid (Below.refl _ _)⟩
      case round =>
        clear d1
        obtain ⟨j, hj, rfl, hB⟩ := hrel
        by_cases hlt2 : j < 16
        · have hI2 : (j : Int) < 16 := by omega
          have hI4 : (j : Int) < rt.length := by omega
          have e1 := OwnW.at (Own.below H73.out.on hB.out (Nat.le_refl _)) j (by have := HL.out; omega)
          have HLt := Lib.hid hlt2
          have HI5 := Lib.hid (HI3.out.still hB.out)
          obtain ⟨z, hz⟩ : ∃ z, z = rt.getD j 0 := ⟨_, rfl⟩
          rw [← hz] at e1
          have HZ := Lib.hid hz
          clear hlt2 hj hz
          go_wp2_with fail
          refine (room_Root HI5.out j HLt.out).mono ?_
          rintro e X6 ⟨rfl, hb6⟩
          have HB6 := Lib.hid (hB.out.trans (hb6.mono hB.out.size))
          rw [← HZ.out]
          clear hb6 e1
          go_wp2
          go_roundw
          case rel => exact ⟨j + 1, HLt.out, by go_num, HB6⟩
          case measure => have := HLt.out; simp [Go.RowKit.intOf]; omega
        · have hI2 : ¬ (j : Int) < 16 := by omega
          have hI4 : ¬ (j : Int) < rt.length := by omega
          go_wp2
          go_ret
          exact ⟨rfl, HB3.out.trans (hB.out.mono HB3.out.size)⟩
end
end Go.Proofs.YtobmjcfemjpgcaaGreatDoor

namespace Go.Proofs.YtobmjcfemjpgcaaGreatDoor
open Go.RowKit Lib

structure RSd (w : World) (g b tb r : Nat) (ab : Option (Nat × List Value)) (B q : Nat) (pw : List (Option Wl.Text)) (rw_ : List Nat) (qk : Nat) (pk : List (Option Wl.Text)) (rk : List Nat) (hp : List (Option Wl.Text)) (hr : List Nat) (pg : List (Option Wl.Text)) (rt : List Nat)
    (R F Fk : Nat → Prop) (n : Nat) (H : List Wl.Text) (ps : List (Nat × List UInt8)) (va vr vak vrk : Value) (X : World) : Prop where
  rm : RmI R 200 g n b tb r H ps pg rt X
  rf : R7 X F q va vr pw rw_
  kp : R7 X Fk qk vak vrk pk rk
  sf : ∀ x, F x → R x ∧ ¬ Fk x ∧ x ≠ r ∧ w.heap.size ≤ x
  sk : ∀ x, Fk x → R x ∧ x ≠ r ∧ w.heap.size ≤ x
  so : ∀ x, x < w.heap.size → R x
  bl : Below w.heap.size w X
  rp : Rm.Rep H hp hr
  hl : H.length ≤ 40
  l1 : ps.length ≤ 2 * B
  l2 : n ≤ B + 1
  lr : rw_.length = 16 ∧ rk.length = 16
  ac : ∀ z, ab = some z → Blk X z.1 67 z.2 ∧ R z.1 ∧ ¬ F z.1 ∧ ¬ Fk z.1
def RS (w : World) (g b tb r : Nat) (ab : Option (Nat × List Value)) (B q : Nat) (pw : List (Option Wl.Text)) (rw_ : List Nat) (qk : Nat) (pk : List (Option Wl.Text)) (rk : List Nat) (hp : List (Option Wl.Text)) (hr : List Nat) (pg : List (Option Wl.Text)) (rt : List Nat) (X : World) : Prop :=
  ∃ R F Fk n H ps va vr vak vrk, RSd w g b tb r ab B q pw rw_ qk pk rk hp hr pg rt R F Fk n H ps va vr vak vrk X
section
variable {w X X' : World} {g b tb r B q qk n : Nat} {ab : Option (Nat × List Value)} {pw pw' pk hp pg pg' : List (Option Wl.Text)} {rw_ rw' rk hr rt rt' : List Nat} {R F Fk : Nat → Prop} {H : List Wl.Text} {ps : List (Nat × List UInt8)} {va vr vak vrk : Value}
theorem RS.below (h : RS w g b tb r ab B q pw rw_ qk pk rk hp hr pg rt X) : Below w.heap.size w X := by
  obtain ⟨R, F, Fk, n, H, ps, va, vr, vak, vrk, h⟩ := h
  exact h.bl
theorem RS.more (h : RS w g b tb r ab B q pw rw_ qk pk rk hp hr pg rt X) {B' : Nat} (hB : B ≤ B') : RS w g b tb r ab B' q pw rw_ qk pk rk hp hr pg rt X := by
  obtain ⟨R, F, Fk, n, H, ps, va, vr, vak, vrk, h⟩ := h
  exact ⟨R, F, Fk, n, H, ps, va, vr, vak, vrk, { h with l1 := by have := h.l1; omega, l2 := by have := h.l2; omega }⟩
theorem RS.free (h : RS w g b tb r ab B q pw rw_ qk pk rk hp hr pg rt X) : RS w g b tb r none B q pw rw_ qk pk rk hp hr pg rt X := by
  obtain ⟨R, F, Fk, n, H, ps, va, vr, vak, vrk, h⟩ := h
  exact ⟨R, F, Fk, n, H, ps, va, vr, vak, vrk, { h with ac := fun z hz => by cases hz }⟩
theorem RS.still (h : RS w g b tb r ab B q pw rw_ qk pk rk hp hr pg rt X) (hb : Below X.heap.size X X') : RS w g b tb r ab B q pw rw_ qk pk rk hp hr pg rt X' := by
  obtain ⟨R, F, Fk, n, H, ps, va, vr, vak, vrk, h⟩ := h
  exact ⟨R, F, Fk, n, H, ps, va, vr, vak, vrk, h.rm.still hb, h.rf.still hb, h.kp.still hb, h.sf, h.sk, h.so, h.bl.trans (hb.mono h.bl.size), h.rp, h.hl, h.l1, h.l2, h.lr, fun z hz => ⟨(h.ac z hz).1.below hb (h.ac z hz).1.lt, (h.ac z hz).2⟩⟩
theorem RS.held (h : RS w g b tb r none B q pw rw_ qk pk rk hp hr pg rt X) (cs : List Value) : RS w g b tb r (some (X.heap.size, cs)) B q pw rw_ qk pk rk hp hr pg rt (X.alloc (.cells cs.toArray 67)) := by
  obtain ⟨R, F, Fk, n, H, ps, va, vr, vak, vrk, h⟩ := h
  have hb : Below X.heap.size X (X.alloc (.cells cs.toArray 67)) := (Below.refl _ _).alloc (Nat.le_refl _) _
  refine ⟨fun k => R k ∨ k = X.heap.size, F, Fk, n, H, ps, va, vr, vak, vrk, h.rm.turn (But.of_below hb (fun _ => False)) (fun _ _ h => h.elim) (fun h => h) (fun k hk => hk.imp_right fun e => ?_) (.inl h.rm.rr), h.rf.still hb, h.kp.still hb, fun x hx => ⟨.inl (h.sf x hx).1, (h.sf x hx).2⟩, fun x hx => ⟨.inl (h.sk x hx).1, (h.sk x hx).2⟩, fun x hx => .inl (h.so x hx), h.bl.trans (hb.mono h.bl.size), h.rp, h.hl, h.l1, h.l2, h.lr, fun z hz => ?_⟩
  · rw [e, World.size_alloc]; omega
  · injection hz with hz
    subst hz
    exact ⟨Blk.new X cs.toArray _, .inr rfl, fun hf => by have := h.rf.lt _ hf; simp only at this; omega, fun hf => by have := h.kp.lt _ hf; simp only at this; omega⟩
theorem RS.act {qa : Nat} {c0 c1 c2 c3 : Value} (h : RS w g b tb r (some (qa, [c0, c1, c2, c3])) B q pw rw_ qk pk rk hp hr pg rt X) : X.cell? ⟨qa, 0, none⟩ = some c0 ∧ X.cell? ⟨qa, 1, none⟩ = some c1 ∧ X.cell? ⟨qa, 2, none⟩ = some c2 ∧ X.cell? ⟨qa, 3, none⟩ = some c3 := by
  obtain ⟨R, F, Fk, n, H, ps, va, vr, vak, vrk, h⟩ := h
  have hb := (h.ac _ rfl).1
  exact ⟨hb.cell (j := 0) rfl, hb.cell (j := 1) rfl, hb.cell (j := 2) rfl, hb.cell (j := 3) rfl⟩
theorem RSd.room (h : RSd w g b tb r ab B q pw rw_ qk pk rk hp hr pg rt R F Fk n H ps va vr vak vrk X) (hd : Did R 200 g n b tb r H ps pg' rt' X X') : RS w g b tb r ab (B + 1) q pw rw_ qk pk rk hp hr pg' rt' X' := by
  obtain ⟨ps', hl, hm, hb⟩ := hd
  exact ⟨R, F, Fk, n, H, ps', va, vr, vak, vrk, hm, h.rf.but hb (fun k hk hn => hn (h.sf k hk).1), h.kp.but hb (fun k hk hn => hn (h.sk k hk).1), h.sf, h.sk, h.so, h.bl.trans (hb.below h.bl.size fun k hk hn => hn (h.so k hk)), h.rp, h.hl, by have := h.l1; omega, by have := h.l2; omega, h.lr, fun z hz => ⟨(h.ac z hz).1.but hb (fun hn => hn (h.ac z hz).2.1), (h.ac z hz).2⟩⟩
theorem RSd.ref (h : RSd w g b tb r ab B q pw rw_ qk pk rk hp hr pg rt R F Fk n H ps va vr vak vrk X) (hd : R7 X' F q va vr pw' rw' ∧ But F X X') (hl : rw'.length = 16) : RS w g b tb r ab B q pw' rw' qk pk rk hp hr pg rt X' := by
  obtain ⟨h7, hb⟩ := hd
  exact ⟨R, F, Fk, n, H, ps, va, vr, vak, vrk, h.rm.turn hb (fun k _ hk => (h.sf k hk).1) (fun hf => (h.sf r hf).2.2.1 rfl) (fun k hk => .inl hk) h.rm.rr, h7, h.kp.but hb (fun k hk hf => (h.sf k hf).2.1 hk), h.sf, h.sk, h.so, h.bl.trans (hb.below h.bl.size fun k hk hf => by have := (h.sf k hf).2.2.2; omega), h.rp, h.hl, h.l1, h.l2, ⟨hl, h.lr.2⟩, fun z hz => ⟨(h.ac z hz).1.but hb (h.ac z hz).2.2.1, (h.ac z hz).2⟩⟩
theorem rs_alloc (h : RS w g b tb r ab B q pw rw_ qk pk rk hp hr pg rt X) (hB : B ≤ 1000) :
    Calls Tryz.prog 31 #[ptr r] X fun e X' => e = .returned (.tuple #[.int .i64 (Rm.alloc pg).1, .int .i64 (Rm.alloc pg).2]) ∧ RS w g b tb r ab (B + 1) q pw rw_ qk pk rk hp hr (Rm.alloced pg) rt X' := by
  obtain ⟨R, F, Fk, n, H, ps, va, vr, vak, vrk, h⟩ := h
  refine (room_Alloc h.rm (by have := h.l1; omega)).mono ?_
  rintro e X' ⟨rfl, hd⟩
  exact ⟨rfl, h.room hd⟩
theorem rs_free (h : RS w g b tb r ab B q pw rw_ qk pk rk hp hr pg rt X) (hB : B ≤ 1000) (i : Int) :
    Calls Tryz.prog 33 #[ptr r, .int .i64 i] X fun e X' => e = .returned (.int .i64 (Rm.refuse pg i)) ∧ RS w g b tb r ab (B + 1) q pw rw_ qk pk rk hp hr (Rm.freed pg i) rt X' := by
  obtain ⟨R, F, Fk, n, H, ps, va, vr, vak, vrk, h⟩ := h
  refine (room_Free h.rm i (by have := h.l1; omega)).mono ?_
  rintro e X' ⟨rfl, hd⟩
  exact ⟨rfl, h.room hd⟩
theorem rs_write (h : RS w g b tb r ab B q pw rw_ qk pk rk hp hr pg rt X) (hB : B ≤ 1000) (i : Int) (s : ByteArray) :
    Calls Tryz.prog 35 #[ptr r, .int .i64 i, .string s] X fun e X' => e = .returned (.int .i64 (Rm.wrote pg i s.size)) ∧ RS w g b tb r ab (B + 1) q pw rw_ qk pk rk hp hr (Rm.written pg i s.data.toList) rt X' := by
  obtain ⟨R, F, Fk, n, H, ps, va, vr, vak, vrk, h⟩ := h
  refine (room_Write h.rm i s (by have := h.l1; omega)).mono ?_
  rintro e X' ⟨rfl, hd⟩
  exact ⟨rfl, h.room hd⟩
theorem rs_read (h : RS w g b tb r ab B q pw rw_ qk pk rk hp hr pg rt X) (i : Int) :
    Calls Tryz.prog 37 #[ptr r, .int .i64 i] X fun e X' => e = .returned (.tuple #[.string (bs (Rm.got pg i)), .int .i64 (Rm.refuse pg i)]) ∧ RS w g b tb r ab B q pw rw_ qk pk rk hp hr pg rt X' := by
  have h' := h
  obtain ⟨R, F, Fk, n, H, ps, va, vr, vak, vrk, h⟩ := h
  refine (room_Read h.rm i).mono ?_
  rintro e X' ⟨rfl, hb⟩
  exact ⟨rfl, h'.still hb⟩
theorem rs_has (h : RS w g b tb r ab B q pw rw_ qk pk rk hp hr pg rt X) (i : Int) :
    Calls Tryz.prog 39 #[ptr r, .int .i64 i] X fun e X' => e = .returned (.tuple #[.bool (Rm.has pg i), .int .i64 (Rm.hasNo pg i)]) ∧ RS w g b tb r ab B q pw rw_ qk pk rk hp hr pg rt X' := by
  have h' := h
  obtain ⟨R, F, Fk, n, H, ps, va, vr, vak, vrk, h⟩ := h
  refine (room_has h.rm i).mono ?_
  rintro e X' ⟨rfl, hb⟩
  exact ⟨rfl, h'.still hb⟩
theorem rs_root (h : RS w g b tb r ab B q pw rw_ qk pk rk hp hr pg rt X) (k : Nat) (hk : k < 16) :
    Calls Tryz.prog 42 #[ptr r, .int .i64 k] X fun e X' => e = .returned (.tuple #[.int .u64 (rt.getD k 0 : Nat), .int .i64 0]) ∧ RS w g b tb r ab B q pw rw_ qk pk rk hp hr pg rt X' := by
  have h' := h
  obtain ⟨R, F, Fk, n, H, ps, va, vr, vak, vrk, h⟩ := h
  refine (room_Root h.rm k hk).mono ?_
  rintro e X' ⟨rfl, hb⟩
  exact ⟨rfl, h'.still hb⟩
theorem rs_root_no (h : RS w g b tb r ab B q pw rw_ qk pk rk hp hr pg rt X) (k : Int) (hk : k < 0 ∨ 16 ≤ k) :
    Calls Tryz.prog 42 #[ptr r, .int .i64 k] X fun e X' => e = .returned (.tuple #[.int .u64 0, .int .i64 2]) ∧ RS w g b tb r ab B q pw rw_ qk pk rk hp hr pg rt X' := by
  have h' := h
  obtain ⟨R, F, Fk, n, H, ps, va, vr, vak, vrk, h⟩ := h
  refine (room_Root_no h.rm k hk).mono ?_
  rintro e X' ⟨rfl, hb⟩
  exact ⟨rfl, h'.still hb⟩
theorem rs_set (h : RS w g b tb r ab B q pw rw_ qk pk rk hp hr pg rt X) (hB : B ≤ 1000) (k n : Nat) (hk : k < 16) (hn : n < 18446744073709551616) :
    Calls Tryz.prog 41 #[ptr r, .int .i64 k, .int .u64 n] X fun e X' => e = .returned (.int .i64 0) ∧ RS w g b tb r ab (B + 1) q pw rw_ qk pk rk hp hr pg (rt.set k n) X' := by
  obtain ⟨R, F, Fk, m, H, ps, va, vr, vak, vrk, h⟩ := h
  refine (room_SetRoot h.rm k n hk hn (by have := h.l1; omega)).mono ?_
  rintro e X' ⟨rfl, hd⟩
  exact ⟨rfl, h.room hd⟩
theorem rs_set_no (h : RS w g b tb r ab B q pw rw_ qk pk rk hp hr pg rt X) (k : Int) (n : Nat) (hk : k < 0 ∨ 16 ≤ k) :
    Calls Tryz.prog 41 #[ptr r, .int .i64 k, .int .u64 n] X fun e X' => e = .returned (.int .i64 2) ∧ RS w g b tb r ab B q pw rw_ qk pk rk hp hr pg rt X' := by
  have h' := h
  obtain ⟨R, F, Fk, m, H, ps, va, vr, vak, vrk, h⟩ := h
  refine (room_SetRoot_no h.rm k n hk).mono ?_
  rintro e X' ⟨rfl, hb⟩
  exact ⟨rfl, h'.still hb⟩
theorem rs_ralloc (h : RS w g b tb r ab B q pw rw_ qk pk rk hp hr pg rt X) :
    Calls Tryz.prog 32 #[ptr q] X fun e X' => e = .returned (.tuple #[.int .i64 (Rm.alloc pw).1, .int .i64 (Rm.alloc pw).2]) ∧ RS w g b tb r ab B q (Rm.alloced pw) rw_ qk pk rk hp hr pg rt X' := by
  obtain ⟨R, F, Fk, n, H, ps, va, vr, vak, vrk, h⟩ := h
  refine (ref7_alloc h.rf).mono ?_
  rintro e X' ⟨rfl, hd⟩
  exact ⟨rfl, h.ref hd h.lr.1⟩
theorem rs_rfree (h : RS w g b tb r ab B q pw rw_ qk pk rk hp hr pg rt X) (i : Int) :
    Calls Tryz.prog 34 #[ptr q, .int .i64 i] X fun e X' => e = .returned (.int .i64 (Rm.refuse pw i)) ∧ RS w g b tb r ab B q (Rm.freed pw i) rw_ qk pk rk hp hr pg rt X' := by
  obtain ⟨R, F, Fk, n, H, ps, va, vr, vak, vrk, h⟩ := h
  refine (ref7_free h.rf i).mono ?_
  rintro e X' ⟨rfl, hd⟩
  exact ⟨rfl, h.ref hd h.lr.1⟩
theorem rs_rwrite (h : RS w g b tb r ab B q pw rw_ qk pk rk hp hr pg rt X) (i : Int) (s : ByteArray) (hs : s.size ≤ 600) :
    Calls Tryz.prog 36 #[ptr q, .int .i64 i, .string s] X fun e X' => e = .returned (.int .i64 (Rm.wrote pw i s.size)) ∧ RS w g b tb r ab B q (Rm.written pw i s.data.toList) rw_ qk pk rk hp hr pg rt X' := by
  obtain ⟨R, F, Fk, n, H, ps, va, vr, vak, vrk, h⟩ := h
  refine (ref7_write h.rf i s hs).mono ?_
  rintro e X' ⟨rfl, hd⟩
  exact ⟨rfl, h.ref hd h.lr.1⟩
theorem rs_rread (h : RS w g b tb r ab B q pw rw_ qk pk rk hp hr pg rt X) (i : Int) :
    Calls Tryz.prog 38 #[ptr q, .int .i64 i] X fun e X' => e = .returned (.tuple #[.string (bs (Rm.got pw i)), .int .i64 (Rm.refuse pw i)]) ∧ X' = X := by
  obtain ⟨R, F, Fk, n, H, ps, va, vr, vak, vrk, h⟩ := h
  exact ref7_read h.rf i
theorem rs_rhas (h : RS w g b tb r ab B q pw rw_ qk pk rk hp hr pg rt X) (i : Int) :
    Calls Tryz.prog 40 #[ptr q, .int .i64 i] X fun e X' => e = .returned (.tuple #[.bool (Rm.has pw i), .int .i64 (Rm.hasNo pw i)]) ∧ X' = X := by
  obtain ⟨R, F, Fk, n, H, ps, va, vr, vak, vrk, h⟩ := h
  exact ref7_has h.rf i
/-- What the law's own store of a number needs, and what it leaves. -/
theorem RS.roots (h : RS w g b tb r ab B q pw rw_ qk pk rk hp hr pg rt X) (k n : Nat) (hk : k < 16) : ∃ o co, o < X.heap.size ∧ q ≠ o ∧ X.cell? ⟨q, 1, none⟩ = some (.slice (some ⟨o, 0, none⟩) 16 co) ∧ (∃ y, X.cell? ⟨o, k, none⟩ = some (.int .u64 y)) ∧ X.frozen? ⟨o, k, none⟩ = false ∧ RS w g b tb r ab B q pw (rw_.set k n) qk pk rk hp hr pg rt (X.setCell ⟨o, k, none⟩ (.int .u64 n)) := by
  obtain ⟨R, F, Fk, m, H, ps, va, vr, vak, vrk, h⟩ := h
  have h7 := h.rf
  obtain ⟨o, co, e, _, ho, _⟩ := Own.form h7.on (by rw [h.lr.1]; decide)
  rw [h.lr.1] at e
  subst e
  have hb : But (fun x => x = o) X (X.setCell ⟨o, k, none⟩ (.int .u64 n)) := (But.refl (fun x => x = o) X).setCell ⟨o, k, none⟩ _ (fun _ => rfl)
  have hqo : q ≠ o := fun e => Own.ne_blk h7.on h7.blk (by decide) (by rw [e]; rfl)
  have hpo : ∀ k, va.ownBlock = some k → k ≠ o := fun k hk e => Own.ne_own h7.on h7.op (by decide) (k := o) rfl (by rw [hk, e])
  refine ⟨o, co, ho, hqo, h7.c1, ⟨_, OwnW.at h7.on k (by rw [h.lr.1]; exact hk)⟩, Own.frozen h7.on k, h.ref (rw' := rw_.set k n) ⟨⟨h7.blk.but hb hqo, Own.but h7.op hb hpo, Own.store (f := fun n : Nat => Value.int .u64 n) h7.on k n, h7.fq, h7.fp, h7.fn, fun k hk => Nat.lt_of_lt_of_le (h7.lt k hk) hb.size, h7.pos, h7.few⟩, hb.mono fun k _ e => e ▸ h7.fn o rfl⟩ (by rw [List.length_set]; exact h.lr.1)⟩
theorem rising_len : ∀ {l : List (Nat × Wl.Text)} {a n : Nat}, Wl.Rising l → (∀ x ∈ l, a ≤ x.1 ∧ x.1 < n) → l.length ≤ n - a
  | [], _, _, _, _ => Nat.zero_le _
  | x :: l, a, n, hr, h => by
    obtain ⟨h1, h2⟩ := List.pairwise_cons.1 hr
    have hx := h x List.mem_cons_self
    have := rising_len (l := l) (a := x.1 + 1) (n := n) h2 (fun y hy => ⟨h1 y hy, (h y (List.mem_cons_of_mem _ hy)).2⟩)
    rw [List.length_cons]
    omega
theorem RmI.comm (h : RmI R 200 g n b tb r H ps pg rt X) (hl : H.length ≤ 40) : Wl.comm 200 H (Tx.psI ps) = (0, Wl.along H (Tx.psI ps)) := by
  have hs : ∀ p ∈ ps, p.2.length ≤ 512 := by
    obtain ⟨A, T, _, ⟨_, _, _, hx⟩, _, _⟩ := h.c
    exact fun p hp => (hx.small p hp).2
  have hf : Wl.Fit H.length (Tx.psI ps) := by
    intro p hp
    unfold Tx.psI at hp
    obtain ⟨x, hx, rfl⟩ := List.mem_map.1 hp
    have := h.ins x hx
    exact ⟨by show (0 : Int) ≤ (x.1 : Int); omega, by show (x.1 : Int) < _; omega, hs x hx⟩
  rw [Wl.comm_fit hf, if_neg]
  have hlen : (Wl.grp [] (Tx.psI ps)).length ≤ H.length - 0 := rising_len (Wl.grp_rising _ Wl.rising_nil) (fun x hx => by
    rcases Wl.grp_mem hx with hx | ⟨p, hp, e⟩
    · cases hx
    · have := hf p hp
      omega)
  have := Wl.sizeOf_mono (show (Wl.grp [] (Tx.psI ps)).length ≤ 40 by omega)
  have h40 : Wl.sizeOf 40 = 42 := by decide
  omega
theorem rs_commit (h : RS w g b tb r ab B q pw rw_ qk pk rk hp hr pg rt X) (hB : B ≤ 1000) :
    Calls Tryz.prog 20 #[ptr tb] X fun e X' => e = .returned (.int .i64 0) ∧ RS w g b tb r ab (B + 1) q pw rw_ qk pk rk pg rt pg rt X' := by
  obtain ⟨R, F, Fk, n, H, ps, va, vr, vak, vrk, h⟩ := h
  have hc := h.rm.comm h.hl
  have := c1_commit h.rm.c (by have := h.l2; omega)
  rw [hc] at this
  refine this.mono ?_
  rintro e X' ⟨rfl, h1, hb⟩
  simp only [if_true] at h1
  exact ⟨rfl, R, F, Fk, n + 1, _, [], va, vr, vak, vrk, ⟨h1, h.rm.blk.but hb (fun hn => hn h.rm.rr), h.rm.rr, h.rm.rep, fun p hp => (by cases hp), h.rm.pos⟩, h.rf.but hb (fun k hk hn => hn (h.sf k hk).1), h.kp.but hb (fun k hk hn => hn (h.sk k hk).1), h.sf, h.sk, h.so, h.bl.trans (hb.below h.bl.size fun k hk hn => hn (h.so k hk)), h.rm.rep, by rw [Wl.along_length]; exact h.hl, by simp, by have := h.l2; omega, h.lr, fun z hz => ⟨(h.ac z hz).1.but hb (fun hn => hn (h.ac z hz).2.1), (h.ac z hz).2⟩⟩
theorem rs_drop (h : RS w g b tb r ab B q pw rw_ qk pk rk hp hr pg rt X) :
    Calls Tryz.prog 21 #[ptr tb] X fun e X' => e = .returned (.tuple #[]) ∧ RS w g b tb r ab B q pw rw_ qk pk rk hp hr hp hr X' := by
  obtain ⟨R, F, Fk, n, H, ps, va, vr, vak, vrk, h⟩ := h
  have hlen : hp.length = pg.length := by have := h.rp.len; have := h.rm.len; omega
  refine (c1_drop h.rm.c).mono ?_
  rintro e X' ⟨rfl, h1, hb⟩
  exact ⟨rfl, R, F, Fk, n, H, [], va, vr, vak, vrk, ⟨h1, h.rm.blk.but hb (fun hn => hn h.rm.rr), h.rm.rr, h.rp, fun p hp => (by cases hp), by have := h.rm.pos; omega⟩, h.rf.but hb (fun k hk hn => hn (h.sf k hk).1), h.kp.but hb (fun k hk hn => hn (h.sk k hk).1), h.sf, h.sk, h.so, h.bl.trans (hb.below h.bl.size fun k hk hn => hn (h.so k hk)), h.rp, h.hl, by simp, h.l2, h.lr, fun z hz => ⟨(h.ac z hz).1.but hb (fun hn => hn (h.ac z hz).2.1), (h.ac z hz).2⟩⟩
theorem rs_copyW (h : RS w g b tb r ab B q pw rw_ qk pk rk hp hr pg rt X) :
    Calls Tryz.prog 30 #[ptr q] X fun e X' => ∃ q', e = .returned (ptr q') ∧ RS w g b tb r ab B q pw rw_ q' pw rw_ hp hr pg rt X' := by
  obtain ⟨R, F, Fk, n, H, ps, va, vr, vak, vrk, h⟩ := h
  refine (ref7_copy h.rf h.lr.1).mono ?_
  rintro e X' ⟨q', va', vr', F', rfl, h7, hF', hb⟩
  have hr := h.rm.blk.lt
  have hs := h.bl.size
  exact ⟨q', rfl, fun k => R k ∨ F' k, F, F', n, H, ps, va, vr, va', vr', h.rm.turn (But.of_below hb (fun _ => False)) (fun _ _ h => h.elim) (fun h => h) (fun k hk => hk.imp_right fun e => ⟨hF' k e, h7.lt k e⟩) (.inl h.rm.rr), h.rf.still hb, h7, fun x hx => ⟨.inl (h.sf x hx).1, fun hf => by have := hF' x hf; have := h.rf.lt x hx; omega, (h.sf x hx).2.2⟩, fun x hx => ⟨.inr hx, fun e => by have := hF' x hx; omega, by have := hF' x hx; omega⟩, fun x hx => .inl (h.so x hx), h.bl.trans (hb.mono h.bl.size), h.rp, h.hl, h.l1, h.l2, ⟨h.lr.1, h.lr.1⟩, fun z hz => ⟨(h.ac z hz).1.below hb (h.ac z hz).1.lt, .inl (h.ac z hz).2.1, (h.ac z hz).2.2.1, fun hf => by have := hF' _ hf; have := (h.ac z hz).1.lt; omega⟩⟩
theorem rs_copyK (h : RS w g b tb r ab B q pw rw_ qk pk rk hp hr pg rt X) :
    Calls Tryz.prog 30 #[ptr qk] X fun e X' => ∃ q', e = .returned (ptr q') ∧ RS w g b tb r ab B q' pk rk qk pk rk hp hr pg rt X' := by
  obtain ⟨R, F, Fk, n, H, ps, va, vr, vak, vrk, h⟩ := h
  refine (ref7_copy h.kp h.lr.2).mono ?_
  rintro e X' ⟨q', va', vr', F', rfl, h7, hF', hb⟩
  have hr := h.rm.blk.lt
  have hs := h.bl.size
  exact ⟨q', rfl, fun k => R k ∨ F' k, F', Fk, n, H, ps, va', vr', vak, vrk, h.rm.turn (But.of_below hb (fun _ => False)) (fun _ _ h => h.elim) (fun h => h) (fun k hk => hk.imp_right fun e => ⟨hF' k e, h7.lt k e⟩) (.inl h.rm.rr), h7, h.kp.still hb, fun x hx => ⟨.inr hx, fun hf => by have := hF' x hx; have := h.kp.lt x hf; omega, fun e => by have := hF' x hx; omega, by have := hF' x hx; omega⟩, fun x hx => ⟨.inl (h.sk x hx).1, (h.sk x hx).2⟩, fun x hx => .inl (h.so x hx), h.bl.trans (hb.mono h.bl.size), h.rp, h.hl, h.l1, h.l2, ⟨h.lr.2, h.lr.2⟩, fun z hz => ⟨(h.ac z hz).1.below hb (h.ac z hz).1.lt, .inl (h.ac z hz).2.1, fun hf => by have := hF' _ hf; have := (h.ac z hz).1.lt; omega, (h.ac z hz).2.2.2⟩⟩
theorem rs_same (h : RS w g b tb r ab B q pg rt qk pk rk hp hr pg rt X) :
    Calls Tryz.prog 43 #[ptr r, ptr q] X fun e X' => e = .returned (.bool true) ∧ Below w.heap.size w X' := by
  obtain ⟨R, F, Fk, n, H, ps, va, vr, vak, vrk, h⟩ := h
  refine (same_any h.rm h.rf).mono ?_
  rintro e X' ⟨rfl, hb⟩
  exact ⟨rfl, h.bl.trans (hb.mono h.bl.size)⟩
end
end Go.Proofs.YtobmjcfemjpgcaaGreatDoor
