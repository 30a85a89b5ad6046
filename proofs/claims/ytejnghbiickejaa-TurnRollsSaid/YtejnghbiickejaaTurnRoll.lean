/- Walk of the statement on rolled sums. -/
import Derived.Test.YtejnghbiickejaaTurnLaw
namespace Go.Proofs.Ytejnghbiickejaa
open Go.RowKit Fx

/-- The window of m bytes that ends ahead of k. -/
def win (s : ByteArray) (m k : Nat) : Int × Int := T (s.extract (k - m) k)

theorem win_list (s : ByteArray) (i j : Nat) : (s.extract i j).data.toList = (s.data.toList.drop i).take (j - i) := by
  rw [ByteArray.data_extract, Array.toList_extract, List.extract_eq_take_drop]

theorem win_next (s : ByteArray) (m k : Nat) (h1 : 1 ≤ m) (h2 : m ≤ k) (h3 : k < s.size) :
    win s m (k + 1) = ((s[k].toNat : Int) - ((win s m k).2 - (Tn.cmul ((s[k - m]'(by omega)).toNat, 0) (Tn.ipow ((m : Int) - 1))).2),
      (win s m k).1 - (Tn.cmul ((s[k - m]'(by omega)).toNat, 0) (Tn.ipow ((m : Int) - 1))).1) := by
  have hl : s.data.toList.length = s.size := Array.length_toList
  unfold win T
  rw [win_list, win_list]
  have e0 : k - (k - m) = m := by omega
  have e1 : k + 1 - (k + 1 - m) = m := by omega
  rw [e0, e1, show k + 1 - m = k - m + 1 by omega]
  obtain ⟨j, rfl⟩ : ∃ j, m = j + 1 := ⟨m - 1, by omega⟩
  have hd : s.data.toList.drop (k - (j + 1)) = s[k - (j + 1)]'(by omega) :: s.data.toList.drop (k - (j + 1) + 1) := by
    rw [List.drop_eq_getElem_cons (by rw [hl]; omega)]; rfl
  rw [hd, List.take_succ_cons, Tn.sum_cons]
  generalize hr : s.data.toList.drop (k - (j + 1) + 1) = r
  have hj : j < r.length := by rw [← hr, List.length_drop, hl]; omega
  have hk : r[j] = s[k] := by
    subst hr
    rw [List.getElem_drop]
    have : k - (j + 1) + 1 + j = k := by omega
    show s.data.toList[k - (j + 1) + 1 + j]'_ = s.data.toList[k]'(by rw [hl]; exact h3)
    congr 1
  rw [List.take_succ_eq_append_getElem hj, hk, Tn.sum_snoc, List.length_take, show min j r.length = j by omega, show ((j + 1 : Nat) : Int) - 1 = j by omega]
  simp only [Tn.step]
  congr 1 <;> omega

theorem win_bound (s : ByteArray) (m k : Nat) (h3 : k ≤ s.size) : (win s m k).1.natAbs ≤ 255 * s.size ∧ (win s m k).2.natAbs ≤ 255 * s.size := by
  have := T_bound (s.extract (k - m) k)
  have h : (s.extract (k - m) k).size ≤ s.size := by rw [ByteArray.size_extract]; omega
  unfold win
  omega

set_option maxHeartbeats 1000000 in
theorem turnRolls_any (s : ByteArray) (n : Int) (w : World) :
    Calls Try.prog 4 #[.string s, .int .i64 n] w fun e w' => e = .returned (.bool true) ∧ Below w.heap.size w w' := by
  by_cases hs : s.size ≤ 3000 ∧ 1 ≤ n ∧ n ≤ 100 ∧ n ≤ s.size
  · obtain ⟨hs, hn1, hn2, hn3⟩ := hs
    obtain ⟨m, rfl⟩ : ∃ m : Nat, n = m := ⟨n.toNat, by omega⟩
    have hs1 : ¬ ((s.size : Int) > 3000) := by omega
    have hs2 : ¬ ((m : Int) < 1) := by omega
    have hs3 : ¬ ((m : Int) > 100) := by omega
    have hs4 : ¬ ((m : Int) > s.size) := by omega
    go_enter Try.func4, Try.ntmps4
    go_wp2_with fail
    refine (awake_any _).mono ?_
    rintro e w1 ⟨rfl, rfl⟩
    go_wp2_with fail
    refine (sum_any (s.extract 0 m) _ (by rw [ByteArray.size_extract]; omega)).mono ?_
    rintro e w2 ⟨⟨x0, y0, rfl, r0⟩, rfl⟩
    have hm1 : 1 ≤ m := by omega
    have hm2 : m ≤ s.size := by omega
    rw [show T (s.extract 0 m) = win s m m by unfold win; rw [Nat.sub_self]] at r0
    go_wp2
    go_loopw [5, 6] (fun z i wr => ∃ k x y, m ≤ k ∧ k ≤ s.size ∧ i = .int .i64 (k : Nat) ∧ z = .complex .f64 x y ∧ CRep x y (win s m k).1 (win s m k).2 ∧ Below w2.heap.size w2 wr) (fun _ i _ => s.size - (intOf i).toNat)
    case atStart => exact ⟨m, x0, y0, Nat.le_refl _, hm2, rfl, rfl, r0, Below.refl _ _⟩
    case round =>
      obtain ⟨k, x, y, hk1, hk, rfl, rfl, hr, hb⟩ := hrel
      by_cases hlt : k < s.size
      · have hB := win_bound s m k hk
        have HN := Lib.hid (win_next s m k hm1 hk1 hlt)
        have hc := s[k].toNat_lt
        have ho := (s[k - m]'(by omega)).toNat_lt
        have hw : IntKind.i64.wrap ((k : Int) - m) = ((k - m : Nat) : Int) := by rw [IntKind.wrap_i64]; omega
        have hkm : k - m < s.size := by omega
        go_wp2
        refine wp_region_any (by kernel_rfl) ?_
        try (change wpAny _ _ _ _ _ _ _ (World.drew _))
        refine wpAny_take (i := 0) (v := ?_) rfl (by kernel_rfl) (by kernel_rfl) (by kernel_rfl) (fun _ _ _ h => h) (Or.inl ⟨by rfl, ?_⟩) ?_
        rotate_left
        · intro w; go_simp; try with_reducible rfl
        refine wpAny_take (i := 1) (v := ?_) rfl (by kernel_rfl) (by kernel_rfl) (by kernel_rfl) (fun _ _ _ h => h) (Or.inl ⟨by rfl, ?_⟩) ?_
        rotate_left
        · intro w; go_simp; try with_reducible rfl
        refine wpAny_take (i := 2) (v := ?_) rfl (by kernel_rfl) (by kernel_rfl) (by kernel_rfl) (fun _ _ _ h => h) (Or.inl ⟨by rfl, ?_⟩) ?_
        rotate_left
        · intro w; go_simp; try with_reducible rfl
        refine wpAny_take (i := 3) (v := ?_) rfl (by kernel_rfl) (by kernel_rfl) (by kernel_rfl) (fun _ _ _ h => h) (Or.inl ⟨by rfl, ?_⟩) ?_
        rotate_left
        · intro w; go_simp; try with_reducible rfl
        refine wpAny_take (i := 4) (v := ?_) rfl (by kernel_rfl) (by kernel_rfl) (by kernel_rfl) (fun _ _ _ h => h) (Or.inl ⟨by rfl, ?_⟩) ?_
        rotate_left
        · intro w; go_simp; try with_reducible rfl
        refine wpAny_take (i := 5) (v := ?_) rfl (by kernel_rfl) (by kernel_rfl) (by kernel_rfl) (fun _ _ _ h => h) (Or.inl ⟨by rfl, ?_⟩) ?_
        rotate_left
        · intro w; go_simp; try with_reducible rfl
        refine wpAny_take (i := 6) (v := ?_) rfl (by kernel_rfl) (by kernel_rfl) (by kernel_rfl) (fun _ _ _ h => h) (Or.inl ⟨by rfl, ?_⟩) ?_
        rotate_left
        · intro w; go_simp; try with_reducible rfl
        refine wpAny_take (i := 7) (v := ?_) rfl (by kernel_rfl) (by kernel_rfl) (by kernel_rfl) (fun _ _ _ h => h) (Or.inl ⟨by rfl, ?_⟩) ?_
        rotate_left
        · intro w; go_simp; try with_reducible rfl
        refine wpAny_take (i := 8) (v := ?_) rfl (by kernel_rfl) (by kernel_rfl) (by kernel_rfl) (fun _ _ _ h => h) (Or.inl ⟨by rfl, ?_⟩) ?_
        rotate_left
        · intro w; go_simp; try with_reducible rfl
        refine wpAny_take (i := 9) (v := ?_) rfl (by kernel_rfl) (by kernel_rfl) (by kernel_rfl) (fun _ _ _ h => h) (Or.inl ⟨by rfl, ?_⟩) ?_
        rotate_left
        · intro w; go_simp; try with_reducible rfl
        refine wpAny_ready (rs := [10]) (by kernel_rfl) (by simp) ?_
        refine AllReady.cons rfl (fun K hK => ?_) AllReady.nil
        go_simp
        refine (roll_any x y _ _ m _ _ hr ho hc (by omega) (by omega) (by omega) (by omega) _).mono ?_; rintro e w3 ⟨⟨x', y', rfl, r'⟩, rfl⟩
        refine hK _ _ ?_; clear hK K
        refine wpAny_take (i := 11) (v := ?_) rfl (by kernel_rfl) (by kernel_rfl) (by kernel_rfl) (fun _ _ _ h => h) (Or.inl ⟨by rfl, ?_⟩) ?_
        rotate_left
        · intro w; go_simp; try with_reducible rfl
        refine wpAny_done (by kernel_rfl) ?_ _
        clear hw
        have hB' := win_bound s m (k + 1) (by omega)
        go_wp2_with fail
        refine (sum_any _ _ (by rw [ByteArray.size_extract]; omega)).mono ?_
        rintro e w4 ⟨⟨x5, y5, rfl, r5⟩, rfl⟩
        rw [show T (s.extract (k - m + 1) (k + 1)) = win s m (k + 1) by unfold win; rw [show k + 1 - m = k - m + 1 by omega]] at r5
        have r6 : CRep x' y' (win s m (k + 1)).1 (win s m (k + 1)).2 := by rw [HN.out]; exact r'
        have q := (ceq_rep r6 r5).trans (decide_eq_true ⟨rfl, rfl⟩)
        clear r' hB hB'
        go_wp2
        go_roundw
        case rel => exact ⟨k + 1, x', y', by omega, by omega, by go_num, rfl, r6, hb.drew⟩
        case measure => simp [intOf]; omega
      · go_wp2
        go_ret
        exact ⟨rfl, hb⟩
  · go_enter Try.func4, Try.ntmps4
    go_wp2_with fail
    refine (awake_any _).mono ?_
    rintro e w1 ⟨rfl, rfl⟩
    go_wp2
    all_goals first
      | exfalso; omega
      | (go_ret; exact ⟨rfl, Below.refl _ _⟩)
end Go.Proofs.Ytejnghbiickejaa
