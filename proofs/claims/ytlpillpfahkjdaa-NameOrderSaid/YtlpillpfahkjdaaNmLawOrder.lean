/- Walk of the statement NameOrder. -/
import Derived.Test.YtlpillpfahkjdaaNmOrdA
import Derived.Test.YtlpillpfahkjdaaNmOrdB
import Derived.Test.YtlpillpfahkjdaaNmOrdC
import Derived.Test.YtlpillpfahkjdaaNmOrdD
namespace Go.Proofs.Ytlpillpfahkjdaa
open Go.RowKit Lib

namespace Nm
theorem less_text (x y : Pk.Text) : Op.bytesLess (bs x).toList (bs y).toList = Pk.lt x y := by rw [bs_toList, bs_toList, Pk.lt_eq']
theorem less_eq (x y : ByteArray) : Op.bytesLess x.toList y.toList = Pk.lt x.data.toList y.data.toList := by rw [ByteArray.toList_eq, ByteArray.toList_eq, Pk.lt_eq']
theorem same_text (x y : Pk.Text) (h : x ≠ y) : ((bs x).toList == (bs y).toList) = false := by
  rw [bs_toList, bs_toList, beq_eq_false_iff_ne]; exact h
theorem data_ne {x y : ByteArray} (h : x ≠ y) : x.data.toList ≠ y.data.toList := fun e => h (ByteArray.ext (Array.ext' e))
theorem same_no (x y : ByteArray) (h : x ≠ y) : (x.toList == y.toList) = false := by
  rw [ByteArray.toList_eq, ByteArray.toList_eq, beq_eq_false_iff_ne]; exact data_ne h
end Nm
set_option maxRecDepth 100000 in
set_option maxHeartbeats 8000000 in
theorem nameOrder_any (B1 I1 B2 I2 : ByteArray) (n1 n2 : Nat) (w : World) (hn1 : n1 < 2 ^ 64) (hn2 : n2 < 2 ^ 64) (hsz : B1.size + I1.size + B2.size + I2.size ≤ 9223372036854775807) :
    Calls Try.prog 5 #[.agg #[.string B1, .string I1, .int .u64 n1], .agg #[.string B2, .string I2, .int .u64 n2]] w fun e w' => e = .returned (.bool true) ∧ Below w.heap.size w w' := by
  have HAW := Lib.hid (fun W => nmawake_any W)
  have HVX := Lib.hid (fun W => versionKey_any B1 I1 n1 W hn1)
  have HVY := Lib.hid (fun W => versionKey_any B2 I2 n2 W hn2)
  have tx : (Wl.enc 8 (Pk.neg n1)).length = 8 := Wl.enc_length _ _
  have ty : (Wl.enc 8 (Pk.neg n2)).length = 8 := Wl.enc_length _ _
  have hfl := Nm.falls_lt hn1 hn2
  change Pk.lt (Wl.enc 8 (Pk.neg n1)) (Wl.enc 8 (Pk.neg n2)) = _ at hfl
  by_cases h300 : B1.size + I1.size + B2.size + I2.size ≤ 300
  · have hG : ¬ (B1.size : Int) + I1.size + B2.size + I2.size > 300 := by omega
    by_cases hgx : Nm.bucket B1.data.toList = true ∧ Nm.item I1.data.toList = true
    · by_cases hgy : Nm.bucket B2.data.toList = true ∧ Nm.item I2.data.toList = true
      · have hxe : (bs (Nm.key 118 B1.data.toList I1.data.toList (Wl.enc 8 (Pk.neg n1)))).toList.isEmpty = false := by rw [bs_toList, Nm.key_some hgx.1 hgx.2]; rfl
        have hye : (bs (Nm.key 118 B2.data.toList I2.data.toList (Wl.enc 8 (Pk.neg n2)))).toList.isEmpty = false := by rw [bs_toList, Nm.key_some hgy.1 hgy.2]; rfl
        have hb1 : B1.data.toList.length = B1.size := Array.length_toList
        have hi1 : I1.data.toList.length = I1.size := Array.length_toList
        have HUU := Lib.hid (fun W v (h : Reads W v [B1.data.toList]) => under_any 118 v [B1.data.toList] W h (by
          intro k hk
          have h0 : k = 0 := by simp at hk; omega
          subst h0
          show B1.data.toList.length ≤ _; omega) (show 1 ≤ 100 by decide))
        have HUV := Lib.hid (fun W v (h : Reads W v [B1.data.toList, I1.data.toList]) => under_any 118 v [B1.data.toList, I1.data.toList] W h (by
          intro k hk
          have h0 : k = 0 ∨ k = 1 := by simp at hk; omega
          rcases h0 with rfl | rfl
          · show B1.data.toList.length ≤ _; omega
          · show I1.data.toList.length ≤ _; omega) (show 2 ≤ 100 by decide))
        rw [show ((118 : UInt8).toNat : Int) = 118 from rfl] at HUU HUV
        have su : (bs (Nm.under 118 [B1.data.toList])).size ≤ 1000000 := by
          rw [bs_size, Nm.under_ok (by intro p hp; rw [List.mem_singleton.1 hp]; exact Nm.bucket_zero hgx.1)]
          simp only [List.flatMap_singleton, List.length_cons, List.length_append, List.length_nil]
          omega
        have sv : (bs (Nm.under 118 [B1.data.toList, I1.data.toList])).size ≤ 1000000 := by
          rw [bs_size]; have := Nm.under_len (kind := 118) hgx.1 hgx.2; omega
        have HW1 := Lib.hid (fun W => within_any (bs (Nm.key 118 B1.data.toList I1.data.toList (Wl.enc 8 (Pk.neg n1)))) _ W su)
        have HW2 := Lib.hid (fun W => within_any (bs (Nm.key 118 B1.data.toList I1.data.toList (Wl.enc 8 (Pk.neg n1)))) _ W sv)
        have HW3 := Lib.hid (fun W => within_any (bs (Nm.key 118 B2.data.toList I2.data.toList (Wl.enc 8 (Pk.neg n2)))) _ W su)
        have HW4 := Lib.hid (fun W => within_any (bs (Nm.key 118 B2.data.toList I2.data.toList (Wl.enc 8 (Pk.neg n2)))) _ W sv)
        rw [bs_list, bs_list, Nm.within_bucket hgx.1 hgx.1 hgx.2, decide_eq_true rfl] at HW1
        rw [bs_list, bs_list, Nm.within_item hgx.1 hgx.2 hgx.1 hgx.2, decide_eq_true rfl, decide_eq_true rfl] at HW2
        rw [bs_list, bs_list, Nm.within_bucket hgx.1 hgy.1 hgy.2] at HW3
        rw [bs_list, bs_list, Nm.within_item hgx.1 hgx.2 hgy.1 hgy.2] at HW4
        have hlt := Nm.key_lt (kind := 118) (t := Wl.enc 8 (Pk.neg n1)) (t' := Wl.enc 8 (Pk.neg n2)) hgx.1 hgx.2 hgy.1 hgy.2
        by_cases hB : B1 = B2
        · subst hB
          rw [decide_eq_true rfl] at HW3 HW4
          rw [if_pos rfl] at hlt
          by_cases hI : I1 = I2
          · subst hI
            rw [decide_eq_true rfl] at HW4
            rw [if_pos rfl, hfl] at hlt
            by_cases hN : n1 = n2
            · subst hN
              exact nmOrdD B1 I1 _ _ _ n1 w hsz hG hxe (by rw [Nm.less_text, Nm.lt_irrefl]) HVX HVY HUU HUV HW1 HW2 HW3 HW4
            · refine nmOrdC B1 I1 _ _ _ _ n1 n2 w hsz hG hxe hye (by rw [beq_eq_false_iff_ne]; omega) (by rw [Nm.less_text, hlt, Bool.eq_iff_iff, decide_eq_true_eq, decide_eq_true_eq]; omega) (Nm.same_text _ _ fun e => ?_) HVX HVY HUU HUV HW1 HW2 HW3 HW4
              have h := (Nm.key_inj hgx.1 hgx.2 hgy.1 hgy.2 tx ty e).2.2
              have h1 := Pk.enc_inj 8 _ _ (show Pk.neg n1 < 256 ^ 8 by unfold Pk.neg; omega) (show Pk.neg n2 < 256 ^ 8 by unfold Pk.neg; omega) h
              unfold Pk.neg at h1
              omega
          · rw [decide_eq_false (fun e => Nm.data_ne hI e.symm)] at HW4
            rw [if_neg (Nm.data_ne hI)] at hlt
            exact nmOrdB B1 I1 I2 _ _ _ _ n1 n2 w hsz hG hxe hye _ (Nm.same_no _ _ hI) rfl (by rw [Nm.less_text, hlt, Nm.less_eq]) (Nm.same_text _ _ fun e => Nm.data_ne hI (Nm.key_inj hgx.1 hgx.2 hgy.1 hgy.2 tx ty e).2.1) HVX HVY HUU HUV HW1 HW2 HW3 HW4
        · rw [decide_eq_false (fun e => Nm.data_ne hB e.symm)] at HW3 HW4
          rw [if_neg (Nm.data_ne hB)] at hlt
          exact nmOrdA B1 I1 B2 I2 _ _ _ _ n1 n2 w hsz hG hxe hye _ (Nm.same_no _ _ hB) rfl (by rw [Nm.less_text, hlt, Nm.less_eq]) (Nm.same_text _ _ fun e => Nm.data_ne hB (Nm.key_inj hgx.1 hgx.2 hgy.1 hgy.2 tx ty e).1) HVX HVY HUU HUV HW1 HW2 HW3 HW4
      · have hye : (bs (Nm.key 118 B2.data.toList I2.data.toList (Wl.enc 8 (Pk.neg n2)))).toList.isEmpty = true := by rw [bs_toList, Nm.key_none hgy]; rfl
        generalize bs (Nm.key 118 B1.data.toList I1.data.toList (Wl.enc 8 (Pk.neg n1))) = X at *
        generalize bs (Nm.key 118 B2.data.toList I2.data.toList (Wl.enc 8 (Pk.neg n2))) = Y at *
        obtain ⟨W0, hW0⟩ : ∃ W0, W0 = (w.alloc (.cells #[.string B1, .string I1, .int .u64 n1] 31)).alloc (.cells #[.string B2, .string I2, .int .u64 n2] 31) := ⟨_, rfl⟩
        have HB0 := Lib.hid (show Below w.heap.size w W0 by rw [hW0]; exact ((Below.refl _ _).alloc (Nat.le_refl _) _).alloc (by simp) _)
        have HS0 := Lib.hid (show Nm.Six w.heap.size B1 I1 B2 I2 n1 n2 W0 by rw [hW0]; exact Nm.Six.new w B1 I1 B2 I2 n1 n2 _)
        clear hgx hgy h300 tx ty hfl
        cases hxe : X.toList.isEmpty with
        | true =>
          go_enter Try.func5, Try.ntmps5
          go_wp2_with fail
          rw [← hW0]
          refine (HAW.out _).mono ?_
          rintro e w1 ⟨rfl, hb1⟩
          have HB1 := Lib.hid (HB0.out.trans (hb1.mono HB0.out.size))
          have HS1 := Lib.hid (HS0.out.below hb1)
          clear hb1 hW0
          go_wp2_with (refine wp_region_held_drew (S := (fun X => Nm.Six w.heap.size B1 I1 B2 I2 n1 n2 X)) (by kernel_rfl) ?_ (fun hS => ?_); focus skip; rotate_left; refine Hid.out ?_)
          refine Lib.hid ?_
          · first | trivial | exact HS1.out
          refine wpAnyH_take (i := 0) (v := ?_) (by simp only [List.getElem?_toArray, List.getElem?_cons_zero]; exact rfl) (by kernel_rfl) (by kernel_rfl) (by kernel_rfl) (by exact fun _ _ _ h => h) (Or.inl ⟨by rfl, ?_⟩) hS ?_
          rotate_left
          · intro w hSw; obtain ⟨c0, c1, c2, c3, c4, c5⟩ := hSw; go_simp; try with_reducible rfl
          refine wpAnyH_take (i := 1) (v := ?_) (by simp only [List.getElem?_toArray, List.getElem?_cons_succ, List.getElem?_cons_zero]; exact rfl) (by kernel_rfl) (by kernel_rfl) (by kernel_rfl) (by exact fun _ _ _ h => h) (Or.inl ⟨by rfl, ?_⟩) hS ?_
          rotate_left
          · intro w hSw; obtain ⟨c0, c1, c2, c3, c4, c5⟩ := hSw; go_simp; try with_reducible rfl
          refine wpAnyH_take (i := 2) (v := ?_) (by simp only [List.getElem?_toArray, List.getElem?_cons_succ, List.getElem?_cons_zero]; exact rfl) (by kernel_rfl) (by kernel_rfl) (by kernel_rfl) (by exact fun _ _ _ h => h) (Or.inl ⟨by rfl, ?_⟩) hS ?_
          rotate_left
          · intro w hSw; obtain ⟨c0, c1, c2, c3, c4, c5⟩ := hSw; go_simp; try with_reducible rfl
          refine wpAnyH_take (i := 3) (v := ?_) (by simp only [List.getElem?_toArray, List.getElem?_cons_succ, List.getElem?_cons_zero]; exact rfl) (by kernel_rfl) (by kernel_rfl) (by kernel_rfl) (by exact fun _ _ _ h => h) (Or.inl ⟨by rfl, ?_⟩) hS ?_
          rotate_left
          · intro w hSw; obtain ⟨c0, c1, c2, c3, c4, c5⟩ := hSw; go_simp; try with_reducible rfl
          refine wpAnyH_take (i := 4) (v := ?_) (by simp only [List.getElem?_toArray, List.getElem?_cons_succ, List.getElem?_cons_zero]; exact rfl) (by kernel_rfl) (by kernel_rfl) (by kernel_rfl) (by exact fun _ _ _ h => h) (Or.inl ⟨by rfl, ?_⟩) hS ?_
          rotate_left
          · intro w hSw; obtain ⟨c0, c1, c2, c3, c4, c5⟩ := hSw; go_simp; try with_reducible rfl
          refine wpAnyH_take (i := 5) (v := ?_) (by simp only [List.getElem?_toArray, List.getElem?_cons_succ, List.getElem?_cons_zero]; exact rfl) (by kernel_rfl) (by kernel_rfl) (by kernel_rfl) (by exact fun _ _ _ h => h) (Or.inl ⟨by rfl, ?_⟩) hS ?_
          rotate_left
          · intro w hSw; obtain ⟨c0, c1, c2, c3, c4, c5⟩ := hSw; go_simp; try with_reducible rfl
          try simp only [Act.put, List.setIfInBounds_toArray, List.set_cons_succ, List.set_cons_zero]
          refine wpAnyH_take (i := 7) (v := ?_) (by simp only [List.getElem?_toArray, List.getElem?_cons_succ, List.getElem?_cons_zero]; exact rfl) (by kernel_rfl) (by kernel_rfl) (by kernel_rfl) (by exact fun _ _ _ h => h) (Or.inl ⟨by rfl, ?_⟩) hS ?_
          rotate_left
          · intro w hSw; obtain ⟨c0, c1, c2, c3, c4, c5⟩ := hSw; go_simp; try with_reducible rfl
          refine wpAnyH_take (i := 8) (v := ?_) (by simp only [List.getElem?_toArray, List.getElem?_cons_succ, List.getElem?_cons_zero]; exact rfl) (by kernel_rfl) (by kernel_rfl) (by kernel_rfl) (by exact fun _ _ _ h => h) (Or.inl ⟨by rfl, ?_⟩) hS ?_
          rotate_left
          · intro w hSw; obtain ⟨c0, c1, c2, c3, c4, c5⟩ := hSw; go_simp; try with_reducible rfl
          refine wpAnyH_take (i := 9) (v := ?_) (by simp only [List.getElem?_toArray, List.getElem?_cons_succ, List.getElem?_cons_zero]; exact rfl) (by kernel_rfl) (by kernel_rfl) (by kernel_rfl) (by exact fun _ _ _ h => h) (Or.inl ⟨by rfl, ?_⟩) hS ?_
          rotate_left
          · intro w hSw; obtain ⟨c0, c1, c2, c3, c4, c5⟩ := hSw; go_simp; try with_reducible rfl
          refine wpAnyH_take (i := 10) (v := ?_) (by simp only [List.getElem?_toArray, List.getElem?_cons_succ, List.getElem?_cons_zero]; exact rfl) (by kernel_rfl) (by kernel_rfl) (by kernel_rfl) (by exact fun _ _ _ h => h) (Or.inl ⟨by rfl, ?_⟩) hS ?_
          rotate_left
          · intro w hSw; obtain ⟨c0, c1, c2, c3, c4, c5⟩ := hSw; go_simp; try with_reducible rfl
          refine wpAnyH_take (i := 11) (v := ?_) (by simp only [List.getElem?_toArray, List.getElem?_cons_succ, List.getElem?_cons_zero]; exact rfl) (by kernel_rfl) (by kernel_rfl) (by kernel_rfl) (by exact fun _ _ _ h => h) (Or.inl ⟨by rfl, ?_⟩) hS ?_
          rotate_left
          · intro w hSw; obtain ⟨c0, c1, c2, c3, c4, c5⟩ := hSw; go_simp; try with_reducible rfl
          refine wpAnyH_take (i := 12) (v := ?_) (by simp only [List.getElem?_toArray, List.getElem?_cons_succ, List.getElem?_cons_zero]; exact rfl) (by kernel_rfl) (by kernel_rfl) (by kernel_rfl) (by exact fun _ _ _ h => h) (Or.inl ⟨by rfl, ?_⟩) hS ?_
          rotate_left
          · intro w hSw; obtain ⟨c0, c1, c2, c3, c4, c5⟩ := hSw; go_simp; try with_reducible rfl
          try simp only [Act.put, List.setIfInBounds_toArray, List.set_cons_succ, List.set_cons_zero]
          refine wpAnyH_ready (rs := [6]) (by kernel_rfl) (by simp) ?_
          refine AllReadyH.cons rfl (fun K hK => ?_) AllReadyH.nil
          go_simp
          refine (HVX.out _).mono ?_
          rintro e w2 ⟨rfl, hb2⟩
          have HB2 := Lib.hid (HB1.out.drew.trans (hb2.mono HB1.out.size))
          have HS2 := Lib.hid ((show Nm.Six w.heap.size B1 I1 B2 I2 n1 n2 w1.drew from HS1.out).below hb2)
          clear hb2
          refine hK.out _ _ (by first | trivial | exact HS2.out) (fun hS => ?_); clear hK K
          refine wpAnyH_ready (rs := [13]) (by kernel_rfl) (by simp) ?_
          refine AllReadyH.cons rfl (fun K hK => ?_) AllReadyH.nil
          go_simp
          refine (HVY.out _).mono ?_
          rintro e w3 ⟨rfl, hb3⟩
          have HB3 := Lib.hid (HB2.out.trans (hb3.mono HB2.out.size))
          have HS3 := Lib.hid (HS2.out.below hb3)
          clear hb3
          refine hK.out _ _ (by first | trivial | exact HS3.out) (fun hS => ?_); clear hK K
          refine wpAnyH_take (i := 14) (v := ?_) (by simp only [List.getElem?_toArray, List.getElem?_cons_succ, List.getElem?_cons_zero]; exact rfl) (by kernel_rfl) (by kernel_rfl) (by kernel_rfl) (by exact fun _ _ _ h => h) (Or.inl ⟨by rfl, ?_⟩) hS ?_
          rotate_left
          · intro w hSw; obtain ⟨c0, c1, c2, c3, c4, c5⟩ := hSw; go_simp; try with_reducible rfl
          refine wpAnyH_take (i := 15) (v := ?_) (by simp only [List.getElem?_toArray, List.getElem?_cons_succ, List.getElem?_cons_zero]; exact rfl) (by kernel_rfl) (by kernel_rfl) (by kernel_rfl) (by exact fun _ _ _ h => h) (Or.inl ⟨by rfl, ?_⟩) hS ?_
          rotate_left
          · intro w hSw; obtain ⟨c0, c1, c2, c3, c4, c5⟩ := hSw; go_simp; try with_reducible rfl
          refine wpAnyH_done (by kernel_rfl) ?_ _
          try simp only [Act.put, List.setIfInBounds_toArray, List.set_cons_succ, List.set_cons_zero]
          have ⟨c0, c1, c2, c3, c4, c5⟩ := HS3.out
          go_wp2
          go_ret
          exact ⟨rfl, HB3.out⟩
        | false =>
          go_enter Try.func5, Try.ntmps5
          go_wp2_with fail
          rw [← hW0]
          refine (HAW.out _).mono ?_
          rintro e w1 ⟨rfl, hb1⟩
          have HB1 := Lib.hid (HB0.out.trans (hb1.mono HB0.out.size))
          have HS1 := Lib.hid (HS0.out.below hb1)
          clear hb1 hW0
          go_wp2_with (refine wp_region_held_drew (S := (fun X => Nm.Six w.heap.size B1 I1 B2 I2 n1 n2 X)) (by kernel_rfl) ?_ (fun hS => ?_); focus skip; rotate_left; refine Hid.out ?_)
          refine Lib.hid ?_
          · first | trivial | exact HS1.out
          refine wpAnyH_take (i := 0) (v := ?_) (by simp only [List.getElem?_toArray, List.getElem?_cons_zero]; exact rfl) (by kernel_rfl) (by kernel_rfl) (by kernel_rfl) (by exact fun _ _ _ h => h) (Or.inl ⟨by rfl, ?_⟩) hS ?_
          rotate_left
          · intro w hSw; obtain ⟨c0, c1, c2, c3, c4, c5⟩ := hSw; go_simp; try with_reducible rfl
          refine wpAnyH_take (i := 1) (v := ?_) (by simp only [List.getElem?_toArray, List.getElem?_cons_succ, List.getElem?_cons_zero]; exact rfl) (by kernel_rfl) (by kernel_rfl) (by kernel_rfl) (by exact fun _ _ _ h => h) (Or.inl ⟨by rfl, ?_⟩) hS ?_
          rotate_left
          · intro w hSw; obtain ⟨c0, c1, c2, c3, c4, c5⟩ := hSw; go_simp; try with_reducible rfl
          refine wpAnyH_take (i := 2) (v := ?_) (by simp only [List.getElem?_toArray, List.getElem?_cons_succ, List.getElem?_cons_zero]; exact rfl) (by kernel_rfl) (by kernel_rfl) (by kernel_rfl) (by exact fun _ _ _ h => h) (Or.inl ⟨by rfl, ?_⟩) hS ?_
          rotate_left
          · intro w hSw; obtain ⟨c0, c1, c2, c3, c4, c5⟩ := hSw; go_simp; try with_reducible rfl
          refine wpAnyH_take (i := 3) (v := ?_) (by simp only [List.getElem?_toArray, List.getElem?_cons_succ, List.getElem?_cons_zero]; exact rfl) (by kernel_rfl) (by kernel_rfl) (by kernel_rfl) (by exact fun _ _ _ h => h) (Or.inl ⟨by rfl, ?_⟩) hS ?_
          rotate_left
          · intro w hSw; obtain ⟨c0, c1, c2, c3, c4, c5⟩ := hSw; go_simp; try with_reducible rfl
          refine wpAnyH_take (i := 4) (v := ?_) (by simp only [List.getElem?_toArray, List.getElem?_cons_succ, List.getElem?_cons_zero]; exact rfl) (by kernel_rfl) (by kernel_rfl) (by kernel_rfl) (by exact fun _ _ _ h => h) (Or.inl ⟨by rfl, ?_⟩) hS ?_
          rotate_left
          · intro w hSw; obtain ⟨c0, c1, c2, c3, c4, c5⟩ := hSw; go_simp; try with_reducible rfl
          refine wpAnyH_take (i := 5) (v := ?_) (by simp only [List.getElem?_toArray, List.getElem?_cons_succ, List.getElem?_cons_zero]; exact rfl) (by kernel_rfl) (by kernel_rfl) (by kernel_rfl) (by exact fun _ _ _ h => h) (Or.inl ⟨by rfl, ?_⟩) hS ?_
          rotate_left
          · intro w hSw; obtain ⟨c0, c1, c2, c3, c4, c5⟩ := hSw; go_simp; try with_reducible rfl
          try simp only [Act.put, List.setIfInBounds_toArray, List.set_cons_succ, List.set_cons_zero]
          refine wpAnyH_take (i := 7) (v := ?_) (by simp only [List.getElem?_toArray, List.getElem?_cons_succ, List.getElem?_cons_zero]; exact rfl) (by kernel_rfl) (by kernel_rfl) (by kernel_rfl) (by exact fun _ _ _ h => h) (Or.inl ⟨by rfl, ?_⟩) hS ?_
          rotate_left
          · intro w hSw; obtain ⟨c0, c1, c2, c3, c4, c5⟩ := hSw; go_simp; try with_reducible rfl
          refine wpAnyH_take (i := 8) (v := ?_) (by simp only [List.getElem?_toArray, List.getElem?_cons_succ, List.getElem?_cons_zero]; exact rfl) (by kernel_rfl) (by kernel_rfl) (by kernel_rfl) (by exact fun _ _ _ h => h) (Or.inl ⟨by rfl, ?_⟩) hS ?_
          rotate_left
          · intro w hSw; obtain ⟨c0, c1, c2, c3, c4, c5⟩ := hSw; go_simp; try with_reducible rfl
          refine wpAnyH_take (i := 9) (v := ?_) (by simp only [List.getElem?_toArray, List.getElem?_cons_succ, List.getElem?_cons_zero]; exact rfl) (by kernel_rfl) (by kernel_rfl) (by kernel_rfl) (by exact fun _ _ _ h => h) (Or.inl ⟨by rfl, ?_⟩) hS ?_
          rotate_left
          · intro w hSw; obtain ⟨c0, c1, c2, c3, c4, c5⟩ := hSw; go_simp; try with_reducible rfl
          refine wpAnyH_take (i := 10) (v := ?_) (by simp only [List.getElem?_toArray, List.getElem?_cons_succ, List.getElem?_cons_zero]; exact rfl) (by kernel_rfl) (by kernel_rfl) (by kernel_rfl) (by exact fun _ _ _ h => h) (Or.inl ⟨by rfl, ?_⟩) hS ?_
          rotate_left
          · intro w hSw; obtain ⟨c0, c1, c2, c3, c4, c5⟩ := hSw; go_simp; try with_reducible rfl
          refine wpAnyH_take (i := 11) (v := ?_) (by simp only [List.getElem?_toArray, List.getElem?_cons_succ, List.getElem?_cons_zero]; exact rfl) (by kernel_rfl) (by kernel_rfl) (by kernel_rfl) (by exact fun _ _ _ h => h) (Or.inl ⟨by rfl, ?_⟩) hS ?_
          rotate_left
          · intro w hSw; obtain ⟨c0, c1, c2, c3, c4, c5⟩ := hSw; go_simp; try with_reducible rfl
          refine wpAnyH_take (i := 12) (v := ?_) (by simp only [List.getElem?_toArray, List.getElem?_cons_succ, List.getElem?_cons_zero]; exact rfl) (by kernel_rfl) (by kernel_rfl) (by kernel_rfl) (by exact fun _ _ _ h => h) (Or.inl ⟨by rfl, ?_⟩) hS ?_
          rotate_left
          · intro w hSw; obtain ⟨c0, c1, c2, c3, c4, c5⟩ := hSw; go_simp; try with_reducible rfl
          try simp only [Act.put, List.setIfInBounds_toArray, List.set_cons_succ, List.set_cons_zero]
          refine wpAnyH_ready (rs := [6]) (by kernel_rfl) (by simp) ?_
          refine AllReadyH.cons rfl (fun K hK => ?_) AllReadyH.nil
          go_simp
          refine (HVX.out _).mono ?_
          rintro e w2 ⟨rfl, hb2⟩
          have HB2 := Lib.hid (HB1.out.drew.trans (hb2.mono HB1.out.size))
          have HS2 := Lib.hid ((show Nm.Six w.heap.size B1 I1 B2 I2 n1 n2 w1.drew from HS1.out).below hb2)
          clear hb2
          refine hK.out _ _ (by first | trivial | exact HS2.out) (fun hS => ?_); clear hK K
          refine wpAnyH_ready (rs := [13]) (by kernel_rfl) (by simp) ?_
          refine AllReadyH.cons rfl (fun K hK => ?_) AllReadyH.nil
          go_simp
          refine (HVY.out _).mono ?_
          rintro e w3 ⟨rfl, hb3⟩
          have HB3 := Lib.hid (HB2.out.trans (hb3.mono HB2.out.size))
          have HS3 := Lib.hid (HS2.out.below hb3)
          clear hb3
          refine hK.out _ _ (by first | trivial | exact HS3.out) (fun hS => ?_); clear hK K
          refine wpAnyH_take (i := 14) (v := ?_) (by simp only [List.getElem?_toArray, List.getElem?_cons_succ, List.getElem?_cons_zero]; exact rfl) (by kernel_rfl) (by kernel_rfl) (by kernel_rfl) (by exact fun _ _ _ h => h) (Or.inl ⟨by rfl, ?_⟩) hS ?_
          rotate_left
          · intro w hSw; obtain ⟨c0, c1, c2, c3, c4, c5⟩ := hSw; go_simp; try with_reducible rfl
          refine wpAnyH_take (i := 15) (v := ?_) (by simp only [List.getElem?_toArray, List.getElem?_cons_succ, List.getElem?_cons_zero]; exact rfl) (by kernel_rfl) (by kernel_rfl) (by kernel_rfl) (by exact fun _ _ _ h => h) (Or.inl ⟨by rfl, ?_⟩) hS ?_
          rotate_left
          · intro w hSw; obtain ⟨c0, c1, c2, c3, c4, c5⟩ := hSw; go_simp; try with_reducible rfl
          refine wpAnyH_done (by kernel_rfl) ?_ _
          try simp only [Act.put, List.setIfInBounds_toArray, List.set_cons_succ, List.set_cons_zero]
          have ⟨c0, c1, c2, c3, c4, c5⟩ := HS3.out
          go_wp2
          go_ret
          exact ⟨rfl, HB3.out⟩
    · have hxe : (bs (Nm.key 118 B1.data.toList I1.data.toList (Wl.enc 8 (Pk.neg n1)))).toList.isEmpty = true := by rw [bs_toList, Nm.key_none hgx]; rfl
      generalize bs (Nm.key 118 B1.data.toList I1.data.toList (Wl.enc 8 (Pk.neg n1))) = X at *
      generalize bs (Nm.key 118 B2.data.toList I2.data.toList (Wl.enc 8 (Pk.neg n2))) = Y at *
      obtain ⟨W0, hW0⟩ : ∃ W0, W0 = (w.alloc (.cells #[.string B1, .string I1, .int .u64 n1] 31)).alloc (.cells #[.string B2, .string I2, .int .u64 n2] 31) := ⟨_, rfl⟩
      have HB0 := Lib.hid (show Below w.heap.size w W0 by rw [hW0]; exact ((Below.refl _ _).alloc (Nat.le_refl _) _).alloc (by simp) _)
      have HS0 := Lib.hid (show Nm.Six w.heap.size B1 I1 B2 I2 n1 n2 W0 by rw [hW0]; exact Nm.Six.new w B1 I1 B2 I2 n1 n2 _)
      clear hgx h300 tx ty hfl
      go_enter Try.func5, Try.ntmps5
      go_wp2_with fail
      rw [← hW0]
      refine (HAW.out _).mono ?_
      rintro e w1 ⟨rfl, hb1⟩
      have HB1 := Lib.hid (HB0.out.trans (hb1.mono HB0.out.size))
      have HS1 := Lib.hid (HS0.out.below hb1)
      clear hb1 hW0
      go_wp2_with (refine wp_region_held_drew (S := (fun X => Nm.Six w.heap.size B1 I1 B2 I2 n1 n2 X)) (by kernel_rfl) ?_ (fun hS => ?_); focus skip; rotate_left; refine Hid.out ?_)
      refine Lib.hid ?_
      · first | trivial | exact HS1.out
      refine wpAnyH_take (i := 0) (v := ?_) (by simp only [List.getElem?_toArray, List.getElem?_cons_zero]; exact rfl) (by kernel_rfl) (by kernel_rfl) (by kernel_rfl) (by exact fun _ _ _ h => h) (Or.inl ⟨by rfl, ?_⟩) hS ?_
      rotate_left
      · intro w hSw; obtain ⟨c0, c1, c2, c3, c4, c5⟩ := hSw; go_simp; try with_reducible rfl
      refine wpAnyH_take (i := 1) (v := ?_) (by simp only [List.getElem?_toArray, List.getElem?_cons_succ, List.getElem?_cons_zero]; exact rfl) (by kernel_rfl) (by kernel_rfl) (by kernel_rfl) (by exact fun _ _ _ h => h) (Or.inl ⟨by rfl, ?_⟩) hS ?_
      rotate_left
      · intro w hSw; obtain ⟨c0, c1, c2, c3, c4, c5⟩ := hSw; go_simp; try with_reducible rfl
      refine wpAnyH_take (i := 2) (v := ?_) (by simp only [List.getElem?_toArray, List.getElem?_cons_succ, List.getElem?_cons_zero]; exact rfl) (by kernel_rfl) (by kernel_rfl) (by kernel_rfl) (by exact fun _ _ _ h => h) (Or.inl ⟨by rfl, ?_⟩) hS ?_
      rotate_left
      · intro w hSw; obtain ⟨c0, c1, c2, c3, c4, c5⟩ := hSw; go_simp; try with_reducible rfl
      refine wpAnyH_take (i := 3) (v := ?_) (by simp only [List.getElem?_toArray, List.getElem?_cons_succ, List.getElem?_cons_zero]; exact rfl) (by kernel_rfl) (by kernel_rfl) (by kernel_rfl) (by exact fun _ _ _ h => h) (Or.inl ⟨by rfl, ?_⟩) hS ?_
      rotate_left
      · intro w hSw; obtain ⟨c0, c1, c2, c3, c4, c5⟩ := hSw; go_simp; try with_reducible rfl
      refine wpAnyH_take (i := 4) (v := ?_) (by simp only [List.getElem?_toArray, List.getElem?_cons_succ, List.getElem?_cons_zero]; exact rfl) (by kernel_rfl) (by kernel_rfl) (by kernel_rfl) (by exact fun _ _ _ h => h) (Or.inl ⟨by rfl, ?_⟩) hS ?_
      rotate_left
      · intro w hSw; obtain ⟨c0, c1, c2, c3, c4, c5⟩ := hSw; go_simp; try with_reducible rfl
      refine wpAnyH_take (i := 5) (v := ?_) (by simp only [List.getElem?_toArray, List.getElem?_cons_succ, List.getElem?_cons_zero]; exact rfl) (by kernel_rfl) (by kernel_rfl) (by kernel_rfl) (by exact fun _ _ _ h => h) (Or.inl ⟨by rfl, ?_⟩) hS ?_
      rotate_left
      · intro w hSw; obtain ⟨c0, c1, c2, c3, c4, c5⟩ := hSw; go_simp; try with_reducible rfl
      try simp only [Act.put, List.setIfInBounds_toArray, List.set_cons_succ, List.set_cons_zero]
      refine wpAnyH_take (i := 7) (v := ?_) (by simp only [List.getElem?_toArray, List.getElem?_cons_succ, List.getElem?_cons_zero]; exact rfl) (by kernel_rfl) (by kernel_rfl) (by kernel_rfl) (by exact fun _ _ _ h => h) (Or.inl ⟨by rfl, ?_⟩) hS ?_
      rotate_left
      · intro w hSw; obtain ⟨c0, c1, c2, c3, c4, c5⟩ := hSw; go_simp; try with_reducible rfl
      refine wpAnyH_take (i := 8) (v := ?_) (by simp only [List.getElem?_toArray, List.getElem?_cons_succ, List.getElem?_cons_zero]; exact rfl) (by kernel_rfl) (by kernel_rfl) (by kernel_rfl) (by exact fun _ _ _ h => h) (Or.inl ⟨by rfl, ?_⟩) hS ?_
      rotate_left
      · intro w hSw; obtain ⟨c0, c1, c2, c3, c4, c5⟩ := hSw; go_simp; try with_reducible rfl
      refine wpAnyH_take (i := 9) (v := ?_) (by simp only [List.getElem?_toArray, List.getElem?_cons_succ, List.getElem?_cons_zero]; exact rfl) (by kernel_rfl) (by kernel_rfl) (by kernel_rfl) (by exact fun _ _ _ h => h) (Or.inl ⟨by rfl, ?_⟩) hS ?_
      rotate_left
      · intro w hSw; obtain ⟨c0, c1, c2, c3, c4, c5⟩ := hSw; go_simp; try with_reducible rfl
      refine wpAnyH_take (i := 10) (v := ?_) (by simp only [List.getElem?_toArray, List.getElem?_cons_succ, List.getElem?_cons_zero]; exact rfl) (by kernel_rfl) (by kernel_rfl) (by kernel_rfl) (by exact fun _ _ _ h => h) (Or.inl ⟨by rfl, ?_⟩) hS ?_
      rotate_left
      · intro w hSw; obtain ⟨c0, c1, c2, c3, c4, c5⟩ := hSw; go_simp; try with_reducible rfl
      refine wpAnyH_take (i := 11) (v := ?_) (by simp only [List.getElem?_toArray, List.getElem?_cons_succ, List.getElem?_cons_zero]; exact rfl) (by kernel_rfl) (by kernel_rfl) (by kernel_rfl) (by exact fun _ _ _ h => h) (Or.inl ⟨by rfl, ?_⟩) hS ?_
      rotate_left
      · intro w hSw; obtain ⟨c0, c1, c2, c3, c4, c5⟩ := hSw; go_simp; try with_reducible rfl
      refine wpAnyH_take (i := 12) (v := ?_) (by simp only [List.getElem?_toArray, List.getElem?_cons_succ, List.getElem?_cons_zero]; exact rfl) (by kernel_rfl) (by kernel_rfl) (by kernel_rfl) (by exact fun _ _ _ h => h) (Or.inl ⟨by rfl, ?_⟩) hS ?_
      rotate_left
      · intro w hSw; obtain ⟨c0, c1, c2, c3, c4, c5⟩ := hSw; go_simp; try with_reducible rfl
      try simp only [Act.put, List.setIfInBounds_toArray, List.set_cons_succ, List.set_cons_zero]
      refine wpAnyH_ready (rs := [6]) (by kernel_rfl) (by simp) ?_
      refine AllReadyH.cons rfl (fun K hK => ?_) AllReadyH.nil
      go_simp
      refine (HVX.out _).mono ?_
      rintro e w2 ⟨rfl, hb2⟩
      have HB2 := Lib.hid (HB1.out.drew.trans (hb2.mono HB1.out.size))
      have HS2 := Lib.hid ((show Nm.Six w.heap.size B1 I1 B2 I2 n1 n2 w1.drew from HS1.out).below hb2)
      clear hb2
      refine hK.out _ _ (by first | trivial | exact HS2.out) (fun hS => ?_); clear hK K
      refine wpAnyH_ready (rs := [13]) (by kernel_rfl) (by simp) ?_
      refine AllReadyH.cons rfl (fun K hK => ?_) AllReadyH.nil
      go_simp
      refine (HVY.out _).mono ?_
      rintro e w3 ⟨rfl, hb3⟩
      have HB3 := Lib.hid (HB2.out.trans (hb3.mono HB2.out.size))
      have HS3 := Lib.hid (HS2.out.below hb3)
      clear hb3
      refine hK.out _ _ (by first | trivial | exact HS3.out) (fun hS => ?_); clear hK K
      refine wpAnyH_take (i := 14) (v := ?_) (by simp only [List.getElem?_toArray, List.getElem?_cons_succ, List.getElem?_cons_zero]; exact rfl) (by kernel_rfl) (by kernel_rfl) (by kernel_rfl) (by exact fun _ _ _ h => h) (Or.inl ⟨by rfl, ?_⟩) hS ?_
      rotate_left
      · intro w hSw; obtain ⟨c0, c1, c2, c3, c4, c5⟩ := hSw; go_simp; try with_reducible rfl
      refine wpAnyH_take (i := 15) (v := ?_) (by simp only [List.getElem?_toArray, List.getElem?_cons_succ, List.getElem?_cons_zero]; exact rfl) (by kernel_rfl) (by kernel_rfl) (by kernel_rfl) (by exact fun _ _ _ h => h) (Or.inl ⟨by rfl, ?_⟩) hS ?_
      rotate_left
      · intro w hSw; obtain ⟨c0, c1, c2, c3, c4, c5⟩ := hSw; go_simp; try with_reducible rfl
      refine wpAnyH_done (by kernel_rfl) ?_ _
      try simp only [Act.put, List.setIfInBounds_toArray, List.set_cons_succ, List.set_cons_zero]
      have ⟨c0, c1, c2, c3, c4, c5⟩ := HS3.out
      go_wp2
      go_ret
      exact ⟨rfl, HB3.out⟩
  · have hG : (B1.size : Int) + I1.size + B2.size + I2.size > 300 := by omega
    generalize bs (Nm.key 118 B1.data.toList I1.data.toList (Wl.enc 8 (Pk.neg n1))) = X at *
    generalize bs (Nm.key 118 B2.data.toList I2.data.toList (Wl.enc 8 (Pk.neg n2))) = Y at *
    obtain ⟨W0, hW0⟩ : ∃ W0, W0 = (w.alloc (.cells #[.string B1, .string I1, .int .u64 n1] 31)).alloc (.cells #[.string B2, .string I2, .int .u64 n2] 31) := ⟨_, rfl⟩
    have HB0 := Lib.hid (show Below w.heap.size w W0 by rw [hW0]; exact ((Below.refl _ _).alloc (Nat.le_refl _) _).alloc (by simp) _)
    have HS0 := Lib.hid (show Nm.Six w.heap.size B1 I1 B2 I2 n1 n2 W0 by rw [hW0]; exact Nm.Six.new w B1 I1 B2 I2 n1 n2 _)
    clear h300 tx ty hfl
    go_enter Try.func5, Try.ntmps5
    go_wp2_with fail
    rw [← hW0]
    refine (HAW.out _).mono ?_
    rintro e w1 ⟨rfl, hb1⟩
    have HB1 := Lib.hid (HB0.out.trans (hb1.mono HB0.out.size))
    have HS1 := Lib.hid (HS0.out.below hb1)
    clear hb1 hW0
    go_wp2_with (refine wp_region_held_drew (S := (fun X => Nm.Six w.heap.size B1 I1 B2 I2 n1 n2 X)) (by kernel_rfl) ?_ (fun hS => ?_); focus skip; rotate_left; refine Hid.out ?_)
    refine Lib.hid ?_
    · first | trivial | exact HS1.out
    refine wpAnyH_take (i := 0) (v := ?_) (by simp only [List.getElem?_toArray, List.getElem?_cons_zero]; exact rfl) (by kernel_rfl) (by kernel_rfl) (by kernel_rfl) (by exact fun _ _ _ h => h) (Or.inl ⟨by rfl, ?_⟩) hS ?_
    rotate_left
    · intro w hSw; obtain ⟨c0, c1, c2, c3, c4, c5⟩ := hSw; go_simp; try with_reducible rfl
    refine wpAnyH_take (i := 1) (v := ?_) (by simp only [List.getElem?_toArray, List.getElem?_cons_succ, List.getElem?_cons_zero]; exact rfl) (by kernel_rfl) (by kernel_rfl) (by kernel_rfl) (by exact fun _ _ _ h => h) (Or.inl ⟨by rfl, ?_⟩) hS ?_
    rotate_left
    · intro w hSw; obtain ⟨c0, c1, c2, c3, c4, c5⟩ := hSw; go_simp; try with_reducible rfl
    refine wpAnyH_take (i := 2) (v := ?_) (by simp only [List.getElem?_toArray, List.getElem?_cons_succ, List.getElem?_cons_zero]; exact rfl) (by kernel_rfl) (by kernel_rfl) (by kernel_rfl) (by exact fun _ _ _ h => h) (Or.inl ⟨by rfl, ?_⟩) hS ?_
    rotate_left
    · intro w hSw; obtain ⟨c0, c1, c2, c3, c4, c5⟩ := hSw; go_simp; try with_reducible rfl
    refine wpAnyH_take (i := 3) (v := ?_) (by simp only [List.getElem?_toArray, List.getElem?_cons_succ, List.getElem?_cons_zero]; exact rfl) (by kernel_rfl) (by kernel_rfl) (by kernel_rfl) (by exact fun _ _ _ h => h) (Or.inl ⟨by rfl, ?_⟩) hS ?_
    rotate_left
    · intro w hSw; obtain ⟨c0, c1, c2, c3, c4, c5⟩ := hSw; go_simp; try with_reducible rfl
    refine wpAnyH_take (i := 4) (v := ?_) (by simp only [List.getElem?_toArray, List.getElem?_cons_succ, List.getElem?_cons_zero]; exact rfl) (by kernel_rfl) (by kernel_rfl) (by kernel_rfl) (by exact fun _ _ _ h => h) (Or.inl ⟨by rfl, ?_⟩) hS ?_
    rotate_left
    · intro w hSw; obtain ⟨c0, c1, c2, c3, c4, c5⟩ := hSw; go_simp; try with_reducible rfl
    refine wpAnyH_take (i := 5) (v := ?_) (by simp only [List.getElem?_toArray, List.getElem?_cons_succ, List.getElem?_cons_zero]; exact rfl) (by kernel_rfl) (by kernel_rfl) (by kernel_rfl) (by exact fun _ _ _ h => h) (Or.inl ⟨by rfl, ?_⟩) hS ?_
    rotate_left
    · intro w hSw; obtain ⟨c0, c1, c2, c3, c4, c5⟩ := hSw; go_simp; try with_reducible rfl
    try simp only [Act.put, List.setIfInBounds_toArray, List.set_cons_succ, List.set_cons_zero]
    refine wpAnyH_take (i := 7) (v := ?_) (by simp only [List.getElem?_toArray, List.getElem?_cons_succ, List.getElem?_cons_zero]; exact rfl) (by kernel_rfl) (by kernel_rfl) (by kernel_rfl) (by exact fun _ _ _ h => h) (Or.inl ⟨by rfl, ?_⟩) hS ?_
    rotate_left
    · intro w hSw; obtain ⟨c0, c1, c2, c3, c4, c5⟩ := hSw; go_simp; try with_reducible rfl
    refine wpAnyH_take (i := 8) (v := ?_) (by simp only [List.getElem?_toArray, List.getElem?_cons_succ, List.getElem?_cons_zero]; exact rfl) (by kernel_rfl) (by kernel_rfl) (by kernel_rfl) (by exact fun _ _ _ h => h) (Or.inl ⟨by rfl, ?_⟩) hS ?_
    rotate_left
    · intro w hSw; obtain ⟨c0, c1, c2, c3, c4, c5⟩ := hSw; go_simp; try with_reducible rfl
    refine wpAnyH_take (i := 9) (v := ?_) (by simp only [List.getElem?_toArray, List.getElem?_cons_succ, List.getElem?_cons_zero]; exact rfl) (by kernel_rfl) (by kernel_rfl) (by kernel_rfl) (by exact fun _ _ _ h => h) (Or.inl ⟨by rfl, ?_⟩) hS ?_
    rotate_left
    · intro w hSw; obtain ⟨c0, c1, c2, c3, c4, c5⟩ := hSw; go_simp; try with_reducible rfl
    refine wpAnyH_take (i := 10) (v := ?_) (by simp only [List.getElem?_toArray, List.getElem?_cons_succ, List.getElem?_cons_zero]; exact rfl) (by kernel_rfl) (by kernel_rfl) (by kernel_rfl) (by exact fun _ _ _ h => h) (Or.inl ⟨by rfl, ?_⟩) hS ?_
    rotate_left
    · intro w hSw; obtain ⟨c0, c1, c2, c3, c4, c5⟩ := hSw; go_simp; try with_reducible rfl
    refine wpAnyH_take (i := 11) (v := ?_) (by simp only [List.getElem?_toArray, List.getElem?_cons_succ, List.getElem?_cons_zero]; exact rfl) (by kernel_rfl) (by kernel_rfl) (by kernel_rfl) (by exact fun _ _ _ h => h) (Or.inl ⟨by rfl, ?_⟩) hS ?_
    rotate_left
    · intro w hSw; obtain ⟨c0, c1, c2, c3, c4, c5⟩ := hSw; go_simp; try with_reducible rfl
    refine wpAnyH_take (i := 12) (v := ?_) (by simp only [List.getElem?_toArray, List.getElem?_cons_succ, List.getElem?_cons_zero]; exact rfl) (by kernel_rfl) (by kernel_rfl) (by kernel_rfl) (by exact fun _ _ _ h => h) (Or.inl ⟨by rfl, ?_⟩) hS ?_
    rotate_left
    · intro w hSw; obtain ⟨c0, c1, c2, c3, c4, c5⟩ := hSw; go_simp; try with_reducible rfl
    try simp only [Act.put, List.setIfInBounds_toArray, List.set_cons_succ, List.set_cons_zero]
    refine wpAnyH_ready (rs := [6]) (by kernel_rfl) (by simp) ?_
    refine AllReadyH.cons rfl (fun K hK => ?_) AllReadyH.nil
    go_simp
    refine (HVX.out _).mono ?_
    rintro e w2 ⟨rfl, hb2⟩
    have HB2 := Lib.hid (HB1.out.drew.trans (hb2.mono HB1.out.size))
    have HS2 := Lib.hid ((show Nm.Six w.heap.size B1 I1 B2 I2 n1 n2 w1.drew from HS1.out).below hb2)
    clear hb2
    refine hK.out _ _ (by first | trivial | exact HS2.out) (fun hS => ?_); clear hK K
    refine wpAnyH_ready (rs := [13]) (by kernel_rfl) (by simp) ?_
    refine AllReadyH.cons rfl (fun K hK => ?_) AllReadyH.nil
    go_simp
    refine (HVY.out _).mono ?_
    rintro e w3 ⟨rfl, hb3⟩
    have HB3 := Lib.hid (HB2.out.trans (hb3.mono HB2.out.size))
    have HS3 := Lib.hid (HS2.out.below hb3)
    clear hb3
    refine hK.out _ _ (by first | trivial | exact HS3.out) (fun hS => ?_); clear hK K
    refine wpAnyH_take (i := 14) (v := ?_) (by simp only [List.getElem?_toArray, List.getElem?_cons_succ, List.getElem?_cons_zero]; exact rfl) (by kernel_rfl) (by kernel_rfl) (by kernel_rfl) (by exact fun _ _ _ h => h) (Or.inl ⟨by rfl, ?_⟩) hS ?_
    rotate_left
    · intro w hSw; obtain ⟨c0, c1, c2, c3, c4, c5⟩ := hSw; go_simp; try with_reducible rfl
    refine wpAnyH_take (i := 15) (v := ?_) (by simp only [List.getElem?_toArray, List.getElem?_cons_succ, List.getElem?_cons_zero]; exact rfl) (by kernel_rfl) (by kernel_rfl) (by kernel_rfl) (by exact fun _ _ _ h => h) (Or.inl ⟨by rfl, ?_⟩) hS ?_
    rotate_left
    · intro w hSw; obtain ⟨c0, c1, c2, c3, c4, c5⟩ := hSw; go_simp; try with_reducible rfl
    refine wpAnyH_done (by kernel_rfl) ?_ _
    try simp only [Act.put, List.setIfInBounds_toArray, List.set_cons_succ, List.set_cons_zero]
    have ⟨c0, c1, c2, c3, c4, c5⟩ := HS3.out
    go_wp2
    go_ret
    exact ⟨rfl, HB3.out⟩
end Go.Proofs.Ytlpillpfahkjdaa
