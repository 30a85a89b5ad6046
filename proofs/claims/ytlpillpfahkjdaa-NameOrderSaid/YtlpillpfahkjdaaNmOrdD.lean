/- NameOrder: right names, case D. -/
import Derived.Test.YtlpillpfahkjdaaNmOrdBase
namespace Go.Proofs.Ytlpillpfahkjdaa
open Go.RowKit Lib

set_option maxRecDepth 100000 in
set_option maxHeartbeats 8000000 in
theorem nmOrdD (B1 I1 X U V : ByteArray) (n1 : Nat) (w : World) (_ : B1.size + I1.size + B1.size + I1.size ≤ 9223372036854775807) (hG : ¬ (B1.size : Int) + I1.size + B1.size + I1.size > 300)
    (hxe : X.toList.isEmpty = false) (hXY : Op.bytesLess X.toList X.toList = false)
    (HVX : Hid (∀ W, Calls Try.prog 12 #[.string B1, .string I1, .int .u64 n1] W fun e w' => e = .returned (.string X) ∧ Below W.heap.size W w'))
    (HVY : Hid (∀ W, Calls Try.prog 12 #[.string B1, .string I1, .int .u64 n1] W fun e w' => e = .returned (.string X) ∧ Below W.heap.size W w'))
    (HUU : Hid (∀ W v, Reads W v [B1.data.toList] → Calls Try.prog 22 #[.int .u8 118, v] W fun e w' => e = .returned (.string U) ∧ Below W.heap.size W w'))
    (HUV : Hid (∀ W v, Reads W v [B1.data.toList, I1.data.toList] → Calls Try.prog 22 #[.int .u8 118, v] W fun e w' => e = .returned (.string V) ∧ Below W.heap.size W w'))
    (HW1 : Hid (∀ W, Calls Try.prog 23 #[.string X, .string U] W fun e w' => e = .returned (.bool true) ∧ Below W.heap.size W w'))
    (HW2 : Hid (∀ W, Calls Try.prog 23 #[.string X, .string V] W fun e w' => e = .returned (.bool true) ∧ Below W.heap.size W w'))
    (HW3 : Hid (∀ W, Calls Try.prog 23 #[.string X, .string U] W fun e w' => e = .returned (.bool true) ∧ Below W.heap.size W w'))
    (HW4 : Hid (∀ W, Calls Try.prog 23 #[.string X, .string V] W fun e w' => e = .returned (.bool true) ∧ Below W.heap.size W w')) :
    Calls Try.prog 5 #[.agg #[.string B1, .string I1, .int .u64 n1], .agg #[.string B1, .string I1, .int .u64 n1]] w fun e w' => e = .returned (.bool true) ∧ Below w.heap.size w w' := by
  have HAW := Lib.hid (fun W => nmawake_any W)
  obtain ⟨W0, hW0⟩ : ∃ W0, W0 = (w.alloc (.cells #[.string B1, .string I1, .int .u64 n1] 31)).alloc (.cells #[.string B1, .string I1, .int .u64 n1] 31) := ⟨_, rfl⟩
  have HB0 := Lib.hid (show Below w.heap.size w W0 by rw [hW0]; exact ((Below.refl _ _).alloc (Nat.le_refl _) _).alloc (by simp) _)
  have HS0 := Lib.hid (show Nm.Six w.heap.size B1 I1 B1 I1 n1 n1 W0 by rw [hW0]; exact Nm.Six.new w B1 I1 B1 I1 n1 n1 _)
  go_enter Try.func5, Try.ntmps5
  go_wp2_with fail
  rw [← hW0]
  refine (HAW.out _).mono ?_
  rintro e w1 ⟨rfl, hb1⟩
  have HB1 := Lib.hid (HB0.out.trans (hb1.mono HB0.out.size))
  have HS1 := Lib.hid (HS0.out.below hb1)
  clear hb1 hW0
  go_wp2_with (refine wp_region_held_drew (S := (fun X => Nm.Six w.heap.size B1 I1 B1 I1 n1 n1 X)) (by kernel_rfl) ?_ (fun hS => ?_); focus skip; rotate_left; refine Hid.out ?_)
  refine Lib.hid ?_
  · first | trivial | exact HS1.out
  refine wpAnyH_take (i := 0) (v := ?_) (by simp only [List.getElem?_toArray, List.getElem?_cons_zero]; exact rfl) (by kernel_rfl) (by kernel_rfl) (by kernel_rfl) (by exact fun _ _ _ h => h) (Or.inl ⟨by rfl, ?_⟩) hS ?_
  rotate_left
  · intro w hSw; obtain ⟨c0, c1, c2, c3, c4, c5⟩ := hSw; go_simp; try with_reducible rfl
  refine wpAnyH_take (i := 1) (v := ?_) (by simp only [List.getElem?_toArray, List.getElem?_cons_succ, List.getElem?_cons_zero]; exact rfl) (by kernel_rfl) (by kernel_rfl) (by kernel_rfl) (by exact fun _ _ _ h => h) (Or.inl ⟨by rfl, ?_⟩) hS ?_
  rotate_left
  · intro w hSw; obtain ⟨c0, c1, c2, c3, c4, c5⟩ := hSw; go_simp; try with_reducible rfl
  refine wpAnyH_take (i := 2) (v := ?_) (by simp only [List.getElem?_toArray, List.getElem?_cons_succ, List.getElem?_cons_zero]; exact rfl) (by kernel_rfl) (by kernel_rfl) (by kernel_rfl) (by exact fun _ _ _ h => h) (Or.inl ⟨by rfl, ?_⟩) hS ?_
  rotate_left
  · intro w hSw; obtain ⟨c0, c1, c2, c3, c4, c5⟩ := hSw; go_simp; try with_reducible rfl
  refine wpAnyH_take (i := 3) (v := ?_) (by simp only [List.getElem?_toArray, List.getElem?_cons_succ, List.getElem?_cons_zero]; exact rfl) (by kernel_rfl) (by kernel_rfl) (by kernel_rfl) (by exact fun _ _ _ h => h) (Or.inl ⟨by rfl, ?_⟩) hS ?_
  rotate_left
  · intro w hSw; obtain ⟨c0, c1, c2, c3, c4, c5⟩ := hSw; go_simp; try with_reducible rfl
  refine wpAnyH_take (i := 4) (v := ?_) (by simp only [List.getElem?_toArray, List.getElem?_cons_succ, List.getElem?_cons_zero]; exact rfl) (by kernel_rfl) (by kernel_rfl) (by kernel_rfl) (by exact fun _ _ _ h => h) (Or.inl ⟨by rfl, ?_⟩) hS ?_
  rotate_left
  · intro w hSw; obtain ⟨c0, c1, c2, c3, c4, c5⟩ := hSw; go_simp; try with_reducible rfl
  refine wpAnyH_take (i := 5) (v := ?_) (by simp only [List.getElem?_toArray, List.getElem?_cons_succ, List.getElem?_cons_zero]; exact rfl) (by kernel_rfl) (by kernel_rfl) (by kernel_rfl) (by exact fun _ _ _ h => h) (Or.inl ⟨by rfl, ?_⟩) hS ?_
  rotate_left
  · intro w hSw; obtain ⟨c0, c1, c2, c3, c4, c5⟩ := hSw; go_simp; try with_reducible rfl
  try simp only [Act.put, List.setIfInBounds_toArray, List.set_cons_succ, List.set_cons_zero]
  refine wpAnyH_take (i := 7) (v := ?_) (by simp only [List.getElem?_toArray, List.getElem?_cons_succ, List.getElem?_cons_zero]; exact rfl) (by kernel_rfl) (by kernel_rfl) (by kernel_rfl) (by exact fun _ _ _ h => h) (Or.inl ⟨by rfl, ?_⟩) hS ?_
  rotate_left
  · intro w hSw; obtain ⟨c0, c1, c2, c3, c4, c5⟩ := hSw; go_simp; try with_reducible rfl
  refine wpAnyH_take (i := 8) (v := ?_) (by simp only [List.getElem?_toArray, List.getElem?_cons_succ, List.getElem?_cons_zero]; exact rfl) (by kernel_rfl) (by kernel_rfl) (by kernel_rfl) (by exact fun _ _ _ h => h) (Or.inl ⟨by rfl, ?_⟩) hS ?_
  rotate_left
  · intro w hSw; obtain ⟨c0, c1, c2, c3, c4, c5⟩ := hSw; go_simp; try with_reducible rfl
  refine wpAnyH_take (i := 9) (v := ?_) (by simp only [List.getElem?_toArray, List.getElem?_cons_succ, List.getElem?_cons_zero]; exact rfl) (by kernel_rfl) (by kernel_rfl) (by kernel_rfl) (by exact fun _ _ _ h => h) (Or.inl ⟨by rfl, ?_⟩) hS ?_
  rotate_left
  · intro w hSw; obtain ⟨c0, c1, c2, c3, c4, c5⟩ := hSw; go_simp; try with_reducible rfl
  refine wpAnyH_take (i := 10) (v := ?_) (by simp only [List.getElem?_toArray, List.getElem?_cons_succ, List.getElem?_cons_zero]; exact rfl) (by kernel_rfl) (by kernel_rfl) (by kernel_rfl) (by exact fun _ _ _ h => h) (Or.inl ⟨by rfl, ?_⟩) hS ?_
  rotate_left
  · intro w hSw; obtain ⟨c0, c1, c2, c3, c4, c5⟩ := hSw; go_simp; try with_reducible rfl
  refine wpAnyH_take (i := 11) (v := ?_) (by simp only [List.getElem?_toArray, List.getElem?_cons_succ, List.getElem?_cons_zero]; exact rfl) (by kernel_rfl) (by kernel_rfl) (by kernel_rfl) (by exact fun _ _ _ h => h) (Or.inl ⟨by rfl, ?_⟩) hS ?_
  rotate_left
  · intro w hSw; obtain ⟨c0, c1, c2, c3, c4, c5⟩ := hSw; go_simp; try with_reducible rfl
  refine wpAnyH_take (i := 12) (v := ?_) (by simp only [List.getElem?_toArray, List.getElem?_cons_succ, List.getElem?_cons_zero]; exact rfl) (by kernel_rfl) (by kernel_rfl) (by kernel_rfl) (by exact fun _ _ _ h => h) (Or.inl ⟨by rfl, ?_⟩) hS ?_
  rotate_left
  · intro w hSw; obtain ⟨c0, c1, c2, c3, c4, c5⟩ := hSw; go_simp; try with_reducible rfl
  try simp only [Act.put, List.setIfInBounds_toArray, List.set_cons_succ, List.set_cons_zero]
  refine wpAnyH_ready (rs := [6]) (by kernel_rfl) (by simp) ?_
  refine AllReadyH.cons rfl (fun K hK => ?_) AllReadyH.nil
  go_simp
  refine (HVX.out _).mono ?_
  rintro e w2 ⟨rfl, hb2⟩
  have HB2 := Lib.hid (HB1.out.drew.trans (hb2.mono HB1.out.size))
  have HS2 := Lib.hid ((show Nm.Six w.heap.size B1 I1 B1 I1 n1 n1 w1.drew from HS1.out).below hb2)
  clear hb2
  refine hK.out _ _ (by first | trivial | exact HS2.out) (fun hS => ?_); clear hK K
  refine wpAnyH_ready (rs := [13]) (by kernel_rfl) (by simp) ?_
  refine AllReadyH.cons rfl (fun K hK => ?_) AllReadyH.nil
  go_simp
  refine (HVY.out _).mono ?_
  rintro e w3 ⟨rfl, hb3⟩
  have HB3 := Lib.hid (HB2.out.trans (hb3.mono HB2.out.size))
  have HS3 := Lib.hid (HS2.out.below hb3)
  clear hb3
  refine hK.out _ _ (by first | trivial | exact HS3.out) (fun hS => ?_); clear hK K
  refine wpAnyH_take (i := 14) (v := ?_) (by simp only [List.getElem?_toArray, List.getElem?_cons_succ, List.getElem?_cons_zero]; exact rfl) (by kernel_rfl) (by kernel_rfl) (by kernel_rfl) (by exact fun _ _ _ h => h) (Or.inl ⟨by rfl, ?_⟩) hS ?_
  rotate_left
  · intro w hSw; obtain ⟨c0, c1, c2, c3, c4, c5⟩ := hSw; go_simp; try with_reducible rfl
  refine wpAnyH_take (i := 15) (v := ?_) (by simp only [List.getElem?_toArray, List.getElem?_cons_succ, List.getElem?_cons_zero]; exact rfl) (by kernel_rfl) (by kernel_rfl) (by kernel_rfl) (by exact fun _ _ _ h => h) (Or.inl ⟨by rfl, ?_⟩) hS ?_
  rotate_left
  · intro w hSw; obtain ⟨c0, c1, c2, c3, c4, c5⟩ := hSw; go_simp; try with_reducible rfl
  refine wpAnyH_done (by kernel_rfl) ?_ _
  try simp only [Act.put, List.setIfInBounds_toArray, List.set_cons_succ, List.set_cons_zero]
  have ⟨c0, c1, c2, c3, c4, c5⟩ := HS3.out
  go_upto_region 13 with fail
  have HC := Lib.hid (And.intro HB3.out HS3.out)
  clear HB3 c0 c1 c2 c3 c4 c5
  go_cut [8, 9] (fun v8 v9 wx => v8 = .string U ∧ v9 = .string V ∧ Hid (Below w.heap.size w wx ∧ Nm.Six w.heap.size B1 I1 B1 I1 n1 n1 wx))
  case first =>
    go_wp2_with (refine wp_region_held_drew (S := (fun X => Nm.Six w.heap.size B1 I1 B1 I1 n1 n1 X)) (by kernel_rfl) ?_ (fun hS => ?_); focus skip; rotate_left; refine Hid.out ?_)
    refine Lib.hid ?_
    · first | trivial | exact HS3.out
    clear HS3
    refine wpAnyH_take (i := 0) (v := ?_) (by simp only [List.getElem?_toArray, List.getElem?_cons_zero]; exact rfl) (by kernel_rfl) (by kernel_rfl) (by kernel_rfl) (by exact fun _ _ _ h => h) (Or.inl ⟨by rfl, ?_⟩) hS ?_
    rotate_left
    · intro w hSw; obtain ⟨c0, c1, c2, c3, c4, c5⟩ := hSw; go_simp; try with_reducible rfl
    refine wpAnyH_take (i := 1) (v := ?_) (by simp only [List.getElem?_toArray, List.getElem?_cons_succ, List.getElem?_cons_zero]; exact rfl) (by kernel_rfl) (by kernel_rfl) (by kernel_rfl) (by exact fun _ _ _ h => h) (Or.inl ⟨by rfl, ?_⟩) hS ?_
    rotate_left
    · intro w hSw; obtain ⟨c0, c1, c2, c3, c4, c5⟩ := hSw; go_simp; try with_reducible rfl
    refine wpAnyH_take (i := 4) (v := ?_) (by simp only [List.getElem?_toArray, List.getElem?_cons_succ, List.getElem?_cons_zero]; exact rfl) (by kernel_rfl) (by kernel_rfl) (by kernel_rfl) (by exact fun _ _ _ h => h) (Or.inl ⟨by rfl, ?_⟩) hS ?_
    rotate_left
    · intro w hSw; obtain ⟨c0, c1, c2, c3, c4, c5⟩ := hSw; go_simp; try with_reducible rfl
    refine wpAnyH_take (i := 5) (v := ?_) (by simp only [List.getElem?_toArray, List.getElem?_cons_succ, List.getElem?_cons_zero]; exact rfl) (by kernel_rfl) (by kernel_rfl) (by kernel_rfl) (by exact fun _ _ _ h => h) (Or.inl ⟨by rfl, ?_⟩) hS ?_
    rotate_left
    · intro w hSw; obtain ⟨c0, c1, c2, c3, c4, c5⟩ := hSw; go_simp; try with_reducible rfl
    refine wpAnyH_take (i := 6) (v := ?_) (by simp only [List.getElem?_toArray, List.getElem?_cons_succ, List.getElem?_cons_zero]; exact rfl) (by kernel_rfl) (by kernel_rfl) (by kernel_rfl) (by exact fun _ _ _ h => h) (Or.inl ⟨by rfl, ?_⟩) hS ?_
    rotate_left
    · intro w hSw; obtain ⟨c0, c1, c2, c3, c4, c5⟩ := hSw; go_simp; try with_reducible rfl
    refine wpAnyH_take (i := 7) (v := ?_) (by simp only [List.getElem?_toArray, List.getElem?_cons_succ, List.getElem?_cons_zero]; exact rfl) (by kernel_rfl) (by kernel_rfl) (by kernel_rfl) (by exact fun _ _ _ h => h) (Or.inl ⟨by rfl, ?_⟩) hS ?_
    rotate_left
    · intro w hSw; obtain ⟨c0, c1, c2, c3, c4, c5⟩ := hSw; go_simp; try with_reducible rfl
    try simp only [Act.put, List.setIfInBounds_toArray, List.set_cons_succ, List.set_cons_zero]
    refine wpAnyH_ready (rs := [2, 8]) (by kernel_rfl) (by simp) ?_
    refine AllReadyH.cons rfl (fun K hK => ?_) (AllReadyH.cons rfl (fun K hK => ?_) AllReadyH.nil)
    · go_simp
      have HT := Nm.row_one HC.out B1
      have HC := Lib.hid HT.1
      have HR1 := Lib.hid HT.2.1
      try have HR2 := Lib.hid (HR2.out.below HT.2.2)
      clear HT
      refine hK.out _ _ (by first | trivial | exact HC.out.2.drew | exact HC.out.2) (fun hS => ?_); clear hK K
      refine wpAnyH_ready (rs := [3, 8]) (by kernel_rfl) (by simp) ?_
      refine AllReadyH.cons rfl (fun K hK => ?_) (AllReadyH.cons rfl (fun K hK => ?_) AllReadyH.nil)
      · go_simp
        refine (HUU.out (World.drew _) _ (reads_at (reads_drew HR1.out) (by first | with_reducible rfl | simp))).mono ?_
        rintro e w4 ⟨rfl, hb4⟩
        have HC := Lib.hid (And.intro (HC.out.1.drew.trans (hb4.mono HC.out.1.size)) (HC.out.2.drew.below hb4))
        try have HR2 := Lib.hid ((reads_drew HR2.out).below hb4)
        clear hb4 HR1
        refine hK.out _ _ (by first | trivial | exact HC.out.2) (fun hS => ?_); clear hK K
        refine wpAnyH_ready (rs := [8]) (by kernel_rfl) (by simp) ?_
        refine AllReadyH.cons rfl (fun K hK => ?_) AllReadyH.nil
        go_simp
        have HT := Nm.row_two HC.out B1 I1
        have HC := Lib.hid HT.1
        have HR2 := Lib.hid HT.2.1
        try have HR1 := Lib.hid (HR1.out.below HT.2.2)
        clear HT
        refine hK.out _ _ (by first | trivial | exact HC.out.2.drew | exact HC.out.2) (fun hS => ?_); clear hK K
        refine wpAnyH_ready (rs := [9]) (by kernel_rfl) (by simp) ?_
        refine AllReadyH.cons rfl (fun K hK => ?_) AllReadyH.nil
        go_simp
        refine (HUV.out _ _ (reads_at HR2.out (by first | with_reducible rfl | simp))).mono ?_
        rintro e w5 ⟨rfl, hb5⟩
        have HC := Lib.hid (And.intro (HC.out.1.trans (hb5.mono HC.out.1.size)) (HC.out.2.below hb5))
        clear hb5 HR2
        refine hK.out _ _ (by first | trivial | exact HC.out.2) (fun hS => ?_); clear hK K
        refine wpAnyH_take (i := 10) (v := ?_) (by simp only [List.getElem?_toArray, List.getElem?_cons_succ, List.getElem?_cons_zero]; exact rfl) (by kernel_rfl) (by kernel_rfl) (by kernel_rfl) (by exact fun _ _ _ h => h) (Or.inl ⟨by rfl, ?_⟩) hS ?_
        rotate_left
        · intro w hSw; obtain ⟨c0, c1, c2, c3, c4, c5⟩ := hSw; go_simp; try with_reducible rfl
        refine wpAnyH_take (i := 11) (v := ?_) (by simp only [List.getElem?_toArray, List.getElem?_cons_succ, List.getElem?_cons_zero]; exact rfl) (by kernel_rfl) (by kernel_rfl) (by kernel_rfl) (by exact fun _ _ _ h => h) (Or.inl ⟨by rfl, ?_⟩) hS ?_
        rotate_left
        · intro w hSw; obtain ⟨c0, c1, c2, c3, c4, c5⟩ := hSw; go_simp; try with_reducible rfl
        refine wpAnyH_done (by kernel_rfl) ?_ _
        try simp only [Act.put, List.setIfInBounds_toArray, List.set_cons_succ, List.set_cons_zero]
        go_wp2_with fail
        go_meet
        exact ⟨rfl, rfl, HC⟩
      · go_simp
        have HT := Nm.row_two HC.out B1 I1
        have HC := Lib.hid HT.1
        have HR2 := Lib.hid HT.2.1
        try have HR1 := Lib.hid (HR1.out.below HT.2.2)
        clear HT
        refine hK.out _ _ (by first | trivial | exact HC.out.2.drew | exact HC.out.2) (fun hS => ?_); clear hK K
        refine wpAnyH_ready (rs := [3]) (by kernel_rfl) (by simp) ?_
        refine AllReadyH.cons rfl (fun K hK => ?_) AllReadyH.nil
        go_simp
        refine (HUU.out (World.drew _) _ (reads_at (reads_drew HR1.out) (by first | with_reducible rfl | simp))).mono ?_
        rintro e w4 ⟨rfl, hb4⟩
        have HC := Lib.hid (And.intro (HC.out.1.drew.trans (hb4.mono HC.out.1.size)) (HC.out.2.drew.below hb4))
        try have HR2 := Lib.hid ((reads_drew HR2.out).below hb4)
        clear hb4 HR1
        refine hK.out _ _ (by first | trivial | exact HC.out.2) (fun hS => ?_); clear hK K
        refine wpAnyH_ready (rs := [9]) (by kernel_rfl) (by simp) ?_
        refine AllReadyH.cons rfl (fun K hK => ?_) AllReadyH.nil
        go_simp
        refine (HUV.out _ _ (reads_at HR2.out (by first | with_reducible rfl | simp))).mono ?_
        rintro e w5 ⟨rfl, hb5⟩
        have HC := Lib.hid (And.intro (HC.out.1.trans (hb5.mono HC.out.1.size)) (HC.out.2.below hb5))
        clear hb5 HR2
        refine hK.out _ _ (by first | trivial | exact HC.out.2) (fun hS => ?_); clear hK K
        refine wpAnyH_take (i := 10) (v := ?_) (by simp only [List.getElem?_toArray, List.getElem?_cons_succ, List.getElem?_cons_zero]; exact rfl) (by kernel_rfl) (by kernel_rfl) (by kernel_rfl) (by exact fun _ _ _ h => h) (Or.inl ⟨by rfl, ?_⟩) hS ?_
        rotate_left
        · intro w hSw; obtain ⟨c0, c1, c2, c3, c4, c5⟩ := hSw; go_simp; try with_reducible rfl
        refine wpAnyH_take (i := 11) (v := ?_) (by simp only [List.getElem?_toArray, List.getElem?_cons_succ, List.getElem?_cons_zero]; exact rfl) (by kernel_rfl) (by kernel_rfl) (by kernel_rfl) (by exact fun _ _ _ h => h) (Or.inl ⟨by rfl, ?_⟩) hS ?_
        rotate_left
        · intro w hSw; obtain ⟨c0, c1, c2, c3, c4, c5⟩ := hSw; go_simp; try with_reducible rfl
        refine wpAnyH_done (by kernel_rfl) ?_ _
        try simp only [Act.put, List.setIfInBounds_toArray, List.set_cons_succ, List.set_cons_zero]
        go_wp2_with fail
        go_meet
        exact ⟨rfl, rfl, HC⟩
    · go_simp
      have HT := Nm.row_two HC.out B1 I1
      have HC := Lib.hid HT.1
      have HR2 := Lib.hid HT.2.1
      try have HR1 := Lib.hid (HR1.out.below HT.2.2)
      clear HT
      refine hK.out _ _ (by first | trivial | exact HC.out.2.drew | exact HC.out.2) (fun hS => ?_); clear hK K
      refine wpAnyH_ready (rs := [2]) (by kernel_rfl) (by simp) ?_
      refine AllReadyH.cons rfl (fun K hK => ?_) AllReadyH.nil
      go_simp
      have HT := Nm.row_one HC.out B1
      have HC := Lib.hid HT.1
      have HR1 := Lib.hid HT.2.1
      try have HR2 := Lib.hid (HR2.out.below HT.2.2)
      clear HT
      refine hK.out _ _ (by first | trivial | exact HC.out.2.drew | exact HC.out.2) (fun hS => ?_); clear hK K
      refine wpAnyH_ready (rs := [3]) (by kernel_rfl) (by simp) ?_
      refine AllReadyH.cons rfl (fun K hK => ?_) AllReadyH.nil
      go_simp
      refine (HUU.out (World.drew _) _ (reads_at (reads_drew HR1.out) (by first | with_reducible rfl | simp))).mono ?_
      rintro e w4 ⟨rfl, hb4⟩
      have HC := Lib.hid (And.intro (HC.out.1.drew.trans (hb4.mono HC.out.1.size)) (HC.out.2.drew.below hb4))
      try have HR2 := Lib.hid ((reads_drew HR2.out).below hb4)
      clear hb4 HR1
      refine hK.out _ _ (by first | trivial | exact HC.out.2) (fun hS => ?_); clear hK K
      refine wpAnyH_ready (rs := [9]) (by kernel_rfl) (by simp) ?_
      refine AllReadyH.cons rfl (fun K hK => ?_) AllReadyH.nil
      go_simp
      refine (HUV.out _ _ (reads_at HR2.out (by first | with_reducible rfl | simp))).mono ?_
      rintro e w5 ⟨rfl, hb5⟩
      have HC := Lib.hid (And.intro (HC.out.1.trans (hb5.mono HC.out.1.size)) (HC.out.2.below hb5))
      clear hb5 HR2
      refine hK.out _ _ (by first | trivial | exact HC.out.2) (fun hS => ?_); clear hK K
      refine wpAnyH_take (i := 10) (v := ?_) (by simp only [List.getElem?_toArray, List.getElem?_cons_succ, List.getElem?_cons_zero]; exact rfl) (by kernel_rfl) (by kernel_rfl) (by kernel_rfl) (by exact fun _ _ _ h => h) (Or.inl ⟨by rfl, ?_⟩) hS ?_
      rotate_left
      · intro w hSw; obtain ⟨c0, c1, c2, c3, c4, c5⟩ := hSw; go_simp; try with_reducible rfl
      refine wpAnyH_take (i := 11) (v := ?_) (by simp only [List.getElem?_toArray, List.getElem?_cons_succ, List.getElem?_cons_zero]; exact rfl) (by kernel_rfl) (by kernel_rfl) (by kernel_rfl) (by exact fun _ _ _ h => h) (Or.inl ⟨by rfl, ?_⟩) hS ?_
      rotate_left
      · intro w hSw; obtain ⟨c0, c1, c2, c3, c4, c5⟩ := hSw; go_simp; try with_reducible rfl
      refine wpAnyH_done (by kernel_rfl) ?_ _
      try simp only [Act.put, List.setIfInBounds_toArray, List.set_cons_succ, List.set_cons_zero]
      go_wp2_with fail
      go_meet
      exact ⟨rfl, rfl, HC⟩
  case rest =>
    obtain ⟨rfl, rfl, HC⟩ := hcut
    clear HS3
    have HD := Lib.hid HC.out.2
    have ⟨c0, c1, c2, c3, c4, c5⟩ := HD.out
    go_wp2_with (refine wp_region_held_drew (S := (fun X => Nm.Six w.heap.size B1 I1 B1 I1 n1 n1 X)) (by kernel_rfl) ?_ (fun hS => ?_); focus skip; rotate_left; refine Hid.out ?_)
    refine Lib.hid ?_
    · first | trivial | exact HD.out
    clear c0 c1 c2 c3 c4 c5 HD
    refine wpAnyH_take (i := 0) (v := ?_) (by simp only [List.getElem?_toArray, List.getElem?_cons_zero]; exact rfl) (by kernel_rfl) (by kernel_rfl) (by kernel_rfl) (by exact fun _ _ _ h => h) (Or.inl ⟨by rfl, ?_⟩) hS ?_
    rotate_left
    · intro w hSw; obtain ⟨c0, c1, c2, c3, c4, c5⟩ := hSw; go_simp; try with_reducible rfl
    refine wpAnyH_take (i := 1) (v := ?_) (by simp only [List.getElem?_toArray, List.getElem?_cons_succ, List.getElem?_cons_zero]; exact rfl) (by kernel_rfl) (by kernel_rfl) (by kernel_rfl) (by exact fun _ _ _ h => h) (Or.inl ⟨by rfl, ?_⟩) hS ?_
    rotate_left
    · intro w hSw; obtain ⟨c0, c1, c2, c3, c4, c5⟩ := hSw; go_simp; try with_reducible rfl
    refine wpAnyH_take (i := 2) (v := ?_) (by simp only [List.getElem?_toArray, List.getElem?_cons_succ, List.getElem?_cons_zero]; exact rfl) (by kernel_rfl) (by kernel_rfl) (by kernel_rfl) (by exact fun _ _ _ h => h) (Or.inl ⟨by rfl, ?_⟩) hS ?_
    rotate_left
    · intro w hSw; obtain ⟨c0, c1, c2, c3, c4, c5⟩ := hSw; go_simp; try with_reducible rfl
    try simp only [Act.put, List.setIfInBounds_toArray, List.set_cons_succ, List.set_cons_zero]
    refine wpAnyH_ready (rs := [3]) (by kernel_rfl) (by simp) ?_
    refine AllReadyH.cons rfl (fun K hK => ?_) AllReadyH.nil
    go_simp
    refine (HW1.out _).mono ?_
    rintro e w6 ⟨rfl, hb⟩
    have HC := Lib.hid (And.intro (HC.out.1.drew.trans (hb.mono HC.out.1.size)) (HC.out.2.drew.below hb))
    clear hb
    refine hK.out _ _ (by first | trivial | exact HC.out.2) (fun hS => ?_); clear hK K
    refine wpAnyH_take (i := 4) (v := ?_) (by simp only [List.getElem?_toArray, List.getElem?_cons_succ, List.getElem?_cons_zero]; exact rfl) (by kernel_rfl) (by kernel_rfl) (by kernel_rfl) (by exact fun _ _ _ h => h) (Or.inl ⟨by rfl, ?_⟩) hS ?_
    rotate_left
    · intro w hSw; obtain ⟨c0, c1, c2, c3, c4, c5⟩ := hSw; go_simp; try with_reducible rfl
    refine wpAnyH_take (i := 5) (v := ?_) (by simp only [List.getElem?_toArray, List.getElem?_cons_succ, List.getElem?_cons_zero]; exact rfl) (by kernel_rfl) (by kernel_rfl) (by kernel_rfl) (by exact fun _ _ _ h => h) (Or.inl ⟨by rfl, ?_⟩) hS ?_
    rotate_left
    · intro w hSw; obtain ⟨c0, c1, c2, c3, c4, c5⟩ := hSw; go_simp; try with_reducible rfl
    refine wpAnyH_take (i := 6) (v := ?_) (by simp only [List.getElem?_toArray, List.getElem?_cons_succ, List.getElem?_cons_zero]; exact rfl) (by kernel_rfl) (by kernel_rfl) (by kernel_rfl) (by exact fun _ _ _ h => h) (Or.inl ⟨by rfl, ?_⟩) hS ?_
    rotate_left
    · intro w hSw; obtain ⟨c0, c1, c2, c3, c4, c5⟩ := hSw; go_simp; try with_reducible rfl
    refine wpAnyH_take (i := 7) (v := ?_) (by simp only [List.getElem?_toArray, List.getElem?_cons_succ, List.getElem?_cons_zero]; exact rfl) (by kernel_rfl) (by kernel_rfl) (by kernel_rfl) (by exact fun _ _ _ h => h) (Or.inl ⟨by rfl, ?_⟩) hS ?_
    rotate_left
    · intro w hSw; obtain ⟨c0, c1, c2, c3, c4, c5⟩ := hSw; go_simp; try with_reducible rfl
    try simp only [Act.put, List.setIfInBounds_toArray, List.set_cons_succ, List.set_cons_zero]
    refine wpAnyH_ready (rs := [8]) (by kernel_rfl) (by simp) ?_
    refine AllReadyH.cons rfl (fun K hK => ?_) AllReadyH.nil
    go_simp
    refine (HW2.out _).mono ?_
    rintro e w7 ⟨rfl, hb⟩
    have HC := Lib.hid (And.intro (HC.out.1.trans (hb.mono HC.out.1.size)) (HC.out.2.below hb))
    clear hb
    refine hK.out _ _ (by first | trivial | exact HC.out.2) (fun hS => ?_); clear hK K
    refine wpAnyH_take (i := 9) (v := ?_) (by simp only [List.getElem?_toArray, List.getElem?_cons_succ, List.getElem?_cons_zero]; exact rfl) (by kernel_rfl) (by kernel_rfl) (by kernel_rfl) (by exact fun _ _ _ h => h) (Or.inl ⟨by rfl, ?_⟩) hS ?_
    rotate_left
    · intro w hSw; obtain ⟨c0, c1, c2, c3, c4, c5⟩ := hSw; go_simp; try with_reducible rfl
    refine wpAnyH_take (i := 10) (v := ?_) (by simp only [List.getElem?_toArray, List.getElem?_cons_succ, List.getElem?_cons_zero]; exact rfl) (by kernel_rfl) (by kernel_rfl) (by kernel_rfl) (by exact fun _ _ _ h => h) (Or.inl ⟨by rfl, ?_⟩) hS ?_
    rotate_left
    · intro w hSw; obtain ⟨c0, c1, c2, c3, c4, c5⟩ := hSw; go_simp; try with_reducible rfl
    refine wpAnyH_take (i := 11) (v := ?_) (by simp only [List.getElem?_toArray, List.getElem?_cons_succ, List.getElem?_cons_zero]; exact rfl) (by kernel_rfl) (by kernel_rfl) (by kernel_rfl) (by exact fun _ _ _ h => h) (Or.inl ⟨by rfl, ?_⟩) hS ?_
    rotate_left
    · intro w hSw; obtain ⟨c0, c1, c2, c3, c4, c5⟩ := hSw; go_simp; try with_reducible rfl
    refine wpAnyH_take (i := 12) (v := ?_) (by simp only [List.getElem?_toArray, List.getElem?_cons_succ, List.getElem?_cons_zero]; exact rfl) (by kernel_rfl) (by kernel_rfl) (by kernel_rfl) (by exact fun _ _ _ h => h) (Or.inl ⟨by rfl, ?_⟩) hS ?_
    rotate_left
    · intro w hSw; obtain ⟨c0, c1, c2, c3, c4, c5⟩ := hSw; go_simp; try with_reducible rfl
    refine wpAnyH_take (i := 13) (v := ?_) (by simp only [List.getElem?_toArray, List.getElem?_cons_succ, List.getElem?_cons_zero]; exact rfl) (by kernel_rfl) (by kernel_rfl) (by kernel_rfl) (by exact fun _ _ _ h => h) (Or.inl ⟨by rfl, ?_⟩) hS ?_
    rotate_left
    · intro w hSw; obtain ⟨c0, c1, c2, c3, c4, c5⟩ := hSw; go_simp; try with_reducible rfl
    try simp only [Act.put, List.setIfInBounds_toArray, List.set_cons_succ, List.set_cons_zero]
    refine wpAnyH_take (i := 15) (v := ?_) (by simp only [List.getElem?_toArray, List.getElem?_cons_succ, List.getElem?_cons_zero]; exact rfl) (by kernel_rfl) (by kernel_rfl) (by kernel_rfl) (by exact fun _ _ _ h => h) (Or.inl ⟨by rfl, ?_⟩) hS ?_
    rotate_left
    · intro w hSw; obtain ⟨c0, c1, c2, c3, c4, c5⟩ := hSw; go_simp; try with_reducible rfl
    refine wpAnyH_take (i := 16) (v := ?_) (by simp only [List.getElem?_toArray, List.getElem?_cons_succ, List.getElem?_cons_zero]; exact rfl) (by kernel_rfl) (by kernel_rfl) (by kernel_rfl) (by exact fun _ _ _ h => h) (Or.inl ⟨by rfl, ?_⟩) hS ?_
    rotate_left
    · intro w hSw; obtain ⟨c0, c1, c2, c3, c4, c5⟩ := hSw; go_simp; try with_reducible rfl
    refine wpAnyH_take (i := 17) (v := ?_) (by simp only [List.getElem?_toArray, List.getElem?_cons_succ, List.getElem?_cons_zero]; exact rfl) (by kernel_rfl) (by kernel_rfl) (by kernel_rfl) (by exact fun _ _ _ h => h) (Or.inl ⟨by rfl, ?_⟩) hS ?_
    rotate_left
    · intro w hSw; obtain ⟨c0, c1, c2, c3, c4, c5⟩ := hSw; go_simp; try with_reducible rfl
    refine wpAnyH_take (i := 18) (v := ?_) (by simp only [List.getElem?_toArray, List.getElem?_cons_succ, List.getElem?_cons_zero]; exact rfl) (by kernel_rfl) (by kernel_rfl) (by kernel_rfl) (by exact fun _ _ _ h => h) (Or.inl ⟨by rfl, ?_⟩) hS ?_
    rotate_left
    · intro w hSw; obtain ⟨c0, c1, c2, c3, c4, c5⟩ := hSw; go_simp; try with_reducible rfl
    refine wpAnyH_take (i := 19) (v := ?_) (by simp only [List.getElem?_toArray, List.getElem?_cons_succ, List.getElem?_cons_zero]; exact rfl) (by kernel_rfl) (by kernel_rfl) (by kernel_rfl) (by exact fun _ _ _ h => h) (Or.inl ⟨by rfl, ?_⟩) hS ?_
    rotate_left
    · intro w hSw; obtain ⟨c0, c1, c2, c3, c4, c5⟩ := hSw; go_simp; try with_reducible rfl
    try simp only [Act.put, List.setIfInBounds_toArray, List.set_cons_succ, List.set_cons_zero]
    refine wpAnyH_ready (rs := [14]) (by kernel_rfl) (by simp) ?_
    refine AllReadyH.cons rfl (fun K hK => ?_) AllReadyH.nil
    go_simp
    refine (HW3.out _).mono ?_
    rintro e w8 ⟨rfl, hb⟩
    have HC := Lib.hid (And.intro (HC.out.1.trans (hb.mono HC.out.1.size)) (HC.out.2.below hb))
    clear hb
    refine hK.out _ _ (by first | trivial | exact HC.out.2) (fun hS => ?_); clear hK K
    refine wpAnyH_take (i := 20) (v := ?_) (by simp only [List.getElem?_toArray, List.getElem?_cons_succ, List.getElem?_cons_zero]; exact rfl) (by kernel_rfl) (by kernel_rfl) (by kernel_rfl) (by exact fun _ _ _ h => h) (Or.inl ⟨by rfl, ?_⟩) hS ?_
    rotate_left
    · intro w hSw; obtain ⟨c0, c1, c2, c3, c4, c5⟩ := hSw; go_simp; try with_reducible rfl
    refine wpAnyH_take (i := 21) (v := ?_) (by simp only [List.getElem?_toArray, List.getElem?_cons_succ, List.getElem?_cons_zero]; exact rfl) (by kernel_rfl) (by kernel_rfl) (by kernel_rfl) (by exact fun _ _ _ h => h) (Or.inl ⟨by rfl, ?_⟩) hS ?_
    rotate_left
    · intro w hSw; obtain ⟨c0, c1, c2, c3, c4, c5⟩ := hSw; go_simp; try with_reducible rfl
    refine wpAnyH_take (i := 22) (v := ?_) (by simp only [List.getElem?_toArray, List.getElem?_cons_succ, List.getElem?_cons_zero]; exact rfl) (by kernel_rfl) (by kernel_rfl) (by kernel_rfl) (by exact fun _ _ _ h => h) (Or.inl ⟨by rfl, ?_⟩) hS ?_
    rotate_left
    · intro w hSw; obtain ⟨c0, c1, c2, c3, c4, c5⟩ := hSw; go_simp; try with_reducible rfl
    refine wpAnyH_take (i := 23) (v := ?_) (by simp only [List.getElem?_toArray, List.getElem?_cons_succ, List.getElem?_cons_zero]; exact rfl) (by kernel_rfl) (by kernel_rfl) (by kernel_rfl) (by exact fun _ _ _ h => h) (Or.inl ⟨by rfl, ?_⟩) hS ?_
    rotate_left
    · intro w hSw; obtain ⟨c0, c1, c2, c3, c4, c5⟩ := hSw; go_simp; try with_reducible rfl
    refine wpAnyH_take (i := 24) (v := ?_) (by simp only [List.getElem?_toArray, List.getElem?_cons_succ, List.getElem?_cons_zero]; exact rfl) (by kernel_rfl) (by kernel_rfl) (by kernel_rfl) (by exact fun _ _ _ h => h) (Or.inl ⟨by rfl, ?_⟩) hS ?_
    rotate_left
    · intro w hSw; obtain ⟨c0, c1, c2, c3, c4, c5⟩ := hSw; go_simp; try with_reducible rfl
    refine wpAnyH_take (i := 25) (v := ?_) (by simp only [List.getElem?_toArray, List.getElem?_cons_succ, List.getElem?_cons_zero]; exact rfl) (by kernel_rfl) (by kernel_rfl) (by kernel_rfl) (by exact fun _ _ _ h => h) (Or.inl ⟨by rfl, ?_⟩) hS ?_
    rotate_left
    · intro w hSw; obtain ⟨c0, c1, c2, c3, c4, c5⟩ := hSw; go_simp; try with_reducible rfl
    try simp only [Act.put, List.setIfInBounds_toArray, List.set_cons_succ, List.set_cons_zero]
    refine wpAnyH_take (i := 27) (v := ?_) (by simp only [List.getElem?_toArray, List.getElem?_cons_succ, List.getElem?_cons_zero]; exact rfl) (by kernel_rfl) (by kernel_rfl) (by kernel_rfl) (by exact fun _ _ _ h => h) (Or.inl ⟨by rfl, ?_⟩) hS ?_
    rotate_left
    · intro w hSw; obtain ⟨c0, c1, c2, c3, c4, c5⟩ := hSw; go_simp; try with_reducible rfl
    refine wpAnyH_take (i := 28) (v := ?_) (by simp only [List.getElem?_toArray, List.getElem?_cons_succ, List.getElem?_cons_zero]; exact rfl) (by kernel_rfl) (by kernel_rfl) (by kernel_rfl) (by exact fun _ _ _ h => h) (Or.inl ⟨by rfl, ?_⟩) hS ?_
    rotate_left
    · intro w hSw; obtain ⟨c0, c1, c2, c3, c4, c5⟩ := hSw; go_simp; try with_reducible rfl
    refine wpAnyH_take (i := 29) (v := ?_) (by simp only [List.getElem?_toArray, List.getElem?_cons_succ, List.getElem?_cons_zero]; exact rfl) (by kernel_rfl) (by kernel_rfl) (by kernel_rfl) (by exact fun _ _ _ h => h) (Or.inl ⟨by rfl, ?_⟩) hS ?_
    rotate_left
    · intro w hSw; obtain ⟨c0, c1, c2, c3, c4, c5⟩ := hSw; go_simp; try with_reducible rfl
    refine wpAnyH_take (i := 30) (v := ?_) (by simp only [List.getElem?_toArray, List.getElem?_cons_succ, List.getElem?_cons_zero]; exact rfl) (by kernel_rfl) (by kernel_rfl) (by kernel_rfl) (by exact fun _ _ _ h => h) (Or.inl ⟨by rfl, ?_⟩) hS ?_
    rotate_left
    · intro w hSw; obtain ⟨c0, c1, c2, c3, c4, c5⟩ := hSw; go_simp; try with_reducible rfl
    refine wpAnyH_take (i := 31) (v := ?_) (by simp only [List.getElem?_toArray, List.getElem?_cons_succ, List.getElem?_cons_zero]; exact rfl) (by kernel_rfl) (by kernel_rfl) (by kernel_rfl) (by exact fun _ _ _ h => h) (Or.inl ⟨by rfl, ?_⟩) hS ?_
    rotate_left
    · intro w hSw; obtain ⟨c0, c1, c2, c3, c4, c5⟩ := hSw; go_simp; try with_reducible rfl
    try simp only [Act.put, List.setIfInBounds_toArray, List.set_cons_succ, List.set_cons_zero]
    refine wpAnyH_ready (rs := [26]) (by kernel_rfl) (by simp) ?_
    refine AllReadyH.cons rfl (fun K hK => ?_) AllReadyH.nil
    go_simp
    refine (HW4.out _).mono ?_
    rintro e w9 ⟨rfl, hb⟩
    have HC := Lib.hid (And.intro (HC.out.1.trans (hb.mono HC.out.1.size)) (HC.out.2.below hb))
    clear hb
    refine hK.out _ _ (by first | trivial | exact HC.out.2) (fun hS => ?_); clear hK K
    refine wpAnyH_take (i := 32) (v := ?_) (by simp only [List.getElem?_toArray, List.getElem?_cons_succ, List.getElem?_cons_zero]; exact rfl) (by kernel_rfl) (by kernel_rfl) (by kernel_rfl) (by exact fun _ _ _ h => h) (Or.inl ⟨by rfl, ?_⟩) hS ?_
    rotate_left
    · intro w hSw; obtain ⟨c0, c1, c2, c3, c4, c5⟩ := hSw; go_simp; try with_reducible rfl
    try simp only [Act.put, List.setIfInBounds_toArray, List.set_cons_succ, List.set_cons_zero]
    refine wpAnyH_take (i := 33) (v := ?_) (by simp only [List.getElem?_toArray, List.getElem?_cons_succ, List.getElem?_cons_zero]; exact rfl) (by kernel_rfl) (by kernel_rfl) (by kernel_rfl) (by exact fun _ _ _ h => h) (Or.inl ⟨by rfl, ?_⟩) hS ?_
    rotate_left
    · intro w hSw; obtain ⟨c0, c1, c2, c3, c4, c5⟩ := hSw; go_simp; try with_reducible rfl
    refine wpAnyH_take (i := 34) (v := ?_) (by simp only [List.getElem?_toArray, List.getElem?_cons_succ, List.getElem?_cons_zero]; exact rfl) (by kernel_rfl) (by kernel_rfl) (by kernel_rfl) (by exact fun _ _ _ h => h) (Or.inl ⟨by rfl, ?_⟩) hS ?_
    rotate_left
    · intro w hSw; obtain ⟨c0, c1, c2, c3, c4, c5⟩ := hSw; go_simp; try with_reducible rfl
    refine wpAnyH_take (i := 35) (v := ?_) (by simp only [List.getElem?_toArray, List.getElem?_cons_succ, List.getElem?_cons_zero]; exact rfl) (by kernel_rfl) (by kernel_rfl) (by kernel_rfl) (by exact fun _ _ _ h => h) (Or.inl ⟨by rfl, ?_⟩) hS ?_
    rotate_left
    · intro w hSw; obtain ⟨c0, c1, c2, c3, c4, c5⟩ := hSw; go_simp; try with_reducible rfl
    refine wpAnyH_take (i := 36) (v := ?_) (by simp only [List.getElem?_toArray, List.getElem?_cons_succ, List.getElem?_cons_zero]; exact rfl) (by kernel_rfl) (by kernel_rfl) (by kernel_rfl) (by exact fun _ _ _ h => h) (Or.inl ⟨by rfl, ?_⟩) hS ?_
    rotate_left
    · intro w hSw; obtain ⟨c0, c1, c2, c3, c4, c5⟩ := hSw; go_simp; try with_reducible rfl
    refine wpAnyH_take (i := 37) (v := ?_) (by simp only [List.getElem?_toArray, List.getElem?_cons_succ, List.getElem?_cons_zero]; exact rfl) (by kernel_rfl) (by kernel_rfl) (by kernel_rfl) (by exact fun _ _ _ h => h) (Or.inl ⟨by rfl, ?_⟩) hS ?_
    rotate_left
    · intro w hSw; obtain ⟨c0, c1, c2, c3, c4, c5⟩ := hSw; go_simp; try with_reducible rfl
    try simp only [Act.put, List.setIfInBounds_toArray, List.set_cons_succ, List.set_cons_zero]
    refine wpAnyH_take (i := 38) (v := ?_) (by simp only [List.getElem?_toArray, List.getElem?_cons_succ, List.getElem?_cons_zero]; exact rfl) (by kernel_rfl) (by kernel_rfl) (by kernel_rfl) (by exact fun _ _ _ h => h) (Or.inl ⟨by rfl, ?_⟩) hS ?_
    rotate_left
    · intro w hSw; obtain ⟨c0, c1, c2, c3, c4, c5⟩ := hSw; go_simp; try with_reducible rfl
    refine wpAnyH_take (i := 39) (v := ?_) (by simp only [List.getElem?_toArray, List.getElem?_cons_succ, List.getElem?_cons_zero]; exact rfl) (by kernel_rfl) (by kernel_rfl) (by kernel_rfl) (by exact fun _ _ _ h => h) (Or.inl ⟨by rfl, ?_⟩) hS ?_
    rotate_left
    · intro w hSw; obtain ⟨c0, c1, c2, c3, c4, c5⟩ := hSw; go_simp; try with_reducible rfl
    refine wpAnyH_take (i := 40) (v := ?_) (by simp only [List.getElem?_toArray, List.getElem?_cons_succ, List.getElem?_cons_zero]; exact rfl) (by kernel_rfl) (by kernel_rfl) (by kernel_rfl) (by exact fun _ _ _ h => h) (Or.inl ⟨by rfl, ?_⟩) hS ?_
    rotate_left
    · intro w hSw; obtain ⟨c0, c1, c2, c3, c4, c5⟩ := hSw; go_simp; try with_reducible rfl
    refine wpAnyH_take (i := 41) (v := ?_) (by simp only [List.getElem?_toArray, List.getElem?_cons_succ, List.getElem?_cons_zero]; exact rfl) (by kernel_rfl) (by kernel_rfl) (by kernel_rfl) (by exact fun _ _ _ h => h) (Or.inl ⟨by rfl, ?_⟩) hS ?_
    rotate_left
    · intro w hSw; obtain ⟨c0, c1, c2, c3, c4, c5⟩ := hSw; go_simp; try with_reducible rfl
    refine wpAnyH_done (by kernel_rfl) ?_ _
    try simp only [Act.put, List.setIfInBounds_toArray, List.set_cons_succ, List.set_cons_zero]
    go_wp2
    go_ret
    exact ⟨rfl, HC.out.1⟩
end Go.Proofs.Ytlpillpfahkjdaa
