/- Walks of the statements on turned sums. -/
import Derived.Test.YtejnghbiickejaaTurnRef
import Derived.Lib.AppendStr
namespace Go.Proofs.Ytejnghbiickejaa
open Go.RowKit Fx

theorem rep98 : Rep 4636596553866280960 98 := rep_of 98 _ (by decide) (by decide)
theorem rep97 : Rep 4636526185122103296 97 := rep_of 97 _ (by decide) (by decide)
theorem rep2 : Rep 4611686018427387904 2 := rep_of 2 _ (by decide) (by decide)

theorem awake_any (w : World) :
    Calls Try.prog 8 #[] w fun e w' => e = .returned (.bool true) ∧ w' = w := by
  go_enter Try.func8, Try.ntmps8
  go_wp2_with fail
  refine (sum_any _ _ (by decide)).mono ?_
  rintro e w1 ⟨⟨x1, y1, rfl, r1⟩, rfl⟩
  rw [show T ⟨#[97, 98]⟩ = (98, 97) by decide] at r1
  have q1 := (ceq_rep r1 ⟨rep98, rep97⟩).trans (decide_eq_true ⟨rfl, rfl⟩)
  go_wp2_with fail
  refine (sum_any _ _ (by decide)).mono ?_
  rintro e w1 ⟨⟨x2, y2, rfl, r2⟩, rfl⟩
  rw [show T ⟨#[97, 98, 99]⟩ = (2, 98) by decide] at r2
  have q2 := (ceq_rep r2 ⟨rep2, rep98⟩).trans (decide_eq_true ⟨rfl, rfl⟩)
  go_wp2_with fail
  refine (power_any _ _).mono ?_
  rintro e w1 ⟨⟨x3, y3, rfl, r3⟩, rfl⟩
  rw [show Tn.ipow 2 = (-1, 0) by decide] at r3
  have q3 := (ceq_rep r3 ⟨rep_neg, rep_zero⟩).trans (decide_eq_true ⟨rfl, rfl⟩)
  go_wp2_with fail
  refine (cell_any _ _ 98 97 1000 ⟨rep98, rep97⟩ (by decide) (by decide) (by decide) (by decide) _).mono ?_
  rintro e w1 ⟨rfl, rfl⟩
  go_wp2
  go_ret
  exact ⟨rfl, rfl⟩

theorem turnSums_any (s : ByteArray) (n : Int) (w : World) :
    Calls Try.prog 3 #[.string s, .int .i64 n] w fun e w' => e = .returned (.bool true) ∧ Below w.heap.size w w' := by
  by_cases hs : s.size ≤ 5000
  · have hs1 : ¬ ((s.size : Int) > 5000) := by omega
    go_enter Try.func3, Try.ntmps3
    go_wp2_with fail
    refine (awake_any _).mono ?_
    rintro e w1 ⟨rfl, rfl⟩
    have hb := T_bound s
    have hp := pow_bound n
    go_wp2_with fail
    refine (sum_any s _ (by omega)).mono ?_
    rintro e w2 ⟨⟨x1, y1, rfl, r1⟩, rfl⟩
    go_wp2_with fail
    refine (refSum_any s _ (by omega)).mono ?_
    rintro e w3 ⟨rfl, hb3⟩
    go_wp2_with fail
    refine (is_any x1 y1 _ _ _ _ r1 (by omega) (by omega) _).mono ?_
    rintro e w4 ⟨rfl, hb4⟩
    rw [decide_eq_true ⟨rfl, rfl⟩]
    go_wp2_with fail
    refine (power_any n _).mono ?_
    rintro e w5 ⟨⟨x2, y2, rfl, r2⟩, rfl⟩
    go_wp2_with fail
    refine (refPower_any n _).mono ?_
    rintro e w6 ⟨rfl, hb6⟩
    go_wp2_with fail
    refine (is_any x2 y2 _ _ _ _ r2 (by omega) (by omega) _).mono ?_
    rintro e w7 ⟨rfl, hb7⟩
    rw [decide_eq_true ⟨rfl, rfl⟩]
    go_wp2
    go_ret
    exact ⟨rfl, hb3.trans ((hb4.trans ((hb6.trans (hb7.mono hb6.size)).mono hb4.size)).mono hb3.size)⟩
  · have hs1 : (5000 : Int) < s.size := by omega
    go_enter Try.func3, Try.ntmps3
    go_wp2_with fail
    refine (awake_any _).mono ?_
    rintro e w1 ⟨rfl, rfl⟩
    go_wp2
    go_ret
    exact ⟨rfl, Below.refl _ _⟩

theorem turnCells_any (s : ByteArray) (n : Int) (w : World) :
    Calls Try.prog 6 #[.string s, .int .i64 n] w fun e w' => e = .returned (.bool true) ∧ Below w.heap.size w w' := by
  by_cases hs : s.size ≤ 5000 ∧ 1 ≤ n ∧ n ≤ 1048576
  · obtain ⟨hs, hn1, hn2⟩ := hs
    have hs1 : ¬ ((s.size : Int) > 5000) := by omega
    have hs2 : ¬ (n < 1) := by omega
    have hs3 : ¬ (n > 1048576) := by omega
    go_enter Try.func6, Try.ntmps6
    go_wp2_with fail
    refine (awake_any _).mono ?_
    rintro e w1 ⟨rfl, rfl⟩
    have hb := T_bound s
    go_wp2_with fail
    refine (sum_any s _ (by omega)).mono ?_
    rintro e w2 ⟨⟨x1, y1, rfl, r1⟩, rfl⟩
    go_wp2_with fail
    refine (cell_any x1 y1 _ _ n r1 (by omega) (by omega) hn1 hn2 _).mono ?_
    rintro e w2 ⟨rfl, rfl⟩
    go_wp2_with fail
    refine (refSum_any s _ (by omega)).mono ?_
    rintro e w3 ⟨rfl, hb3⟩
    go_wp2_with fail
    refine (refCell_any _ _ n (by omega) (by omega) hn1 hn2 _).mono ?_
    rintro e w4 ⟨rfl, hb4⟩
    have c1 := Int.emod_nonneg ((T s).1 + 3 * (T s).2) (show n ≠ 0 by omega)
    have c2 := Int.emod_lt_of_pos ((T s).1 + 3 * (T s).2) (show (0:Int) < n by omega)
    generalize ((T s).1 + 3 * (T s).2) % n = c at *
    go_wp2
    go_ret
    exact ⟨rfl, hb3.trans (hb4.mono hb3.size)⟩
  · go_enter Try.func6, Try.ntmps6
    go_wp2_with fail
    refine (awake_any _).mono ?_
    rintro e w1 ⟨rfl, rfl⟩
    go_wp2
    all_goals first
      | exfalso; omega
      | (go_ret; exact ⟨rfl, Below.refl _ _⟩)

theorem four_cell (W : World) (g : Nat) (v : Value) (e : TypeId) (hn : W.heap[g]? = some (.cells #[v, v, v, v] e (0, 0))) (j : Nat) (hj : j < 4) : W.cell? ((⟨g, 0, none⟩ : Addr).add j) = some v := by
  have h : j = 0 ∨ j = 1 ∨ j = 2 ∨ j = 3 := by omega
  rcases h with rfl | rfl | rfl | rfl <;> simp [World.cell?, Addr.add, hn]
theorem run_four (w : World) (c : UInt8) :
    (convert 38 9 (.slice (some ⟨w.heap.size, 0, none⟩) 4 4)).run Try.prog (w.alloc (.cells #[.int .u8 c.toNat, .int .u8 c.toNat, .int .u8 c.toNat, .int .u8 c.toNat] 5)) = .ok (.string ⟨#[c, c, c, c]⟩) (w.alloc (.cells #[.int .u8 c.toNat, .int .u8 c.toNat, .int .u8 c.toNat, .int .u8 c.toNat] 5)) :=
  run_convert_bytes_back _ _ _ 5 _ 4 [c, c, c, c] Try.underlying38 Try.underlying5 Try.underlying9 fun j hj => by
    have hj4 : j < 4 := hj
    rw [four_cell _ w.heap.size (.int .u8 c.toNat) 5 (heap_alloc_new _ _) j hj4]
    have h : j = 0 ∨ j = 1 ∨ j = 2 ∨ j = 3 := by omega
    rcases h with rfl | rfl | rfl | rfl <;> rfl

theorem cmul_pow' {x y u v : Nat} {z : Int × Int} (n : Int) (h : CRep x y z.1 z.2) (hp : CRep u v (Tn.ipow n).1 (Tn.ipow n).2) (ha : z.1.natAbs ≤ 1) (hb : z.2.natAbs ≤ 1) :
    ∃ p q, (∀ t w, (binOp .mul t (.complex .f64 x y) (.complex .f64 u v)).run Try.prog w = .ok (.complex .f64 p q) w) ∧ CRep p q (Tn.cmul z (Tn.ipow n)).1 (Tn.cmul z (Tn.ipow n)).2 ∧ (Tn.cmul z (Tn.ipow n)).1.natAbs ≤ 1 ∧ (Tn.cmul z (Tn.ipow n)).2.natAbs ≤ 1 := by
  obtain ⟨p, q, h1, h2, h3, h4⟩ := cmul_pow n h hp (by omega) (by omega)
  exact ⟨p, q, fun t w => run_complex_mul (P := Try.prog) w t _ _ _ _ _ _ h1, h2, by show (Tn.cmul (z.1, z.2) _).1.natAbs ≤ 1; omega, by show (Tn.cmul (z.1, z.2) _).2.natAbs ≤ 1; omega⟩

theorem turnFour_any (c : UInt8) (n : Int) (h1 : -32768 ≤ n) (h2 : n ≤ 32767) (w : World) :
    Calls Try.prog 7 #[.int .u8 c.toNat, .int .i16 n] w fun e w' => e = .returned (.bool true) ∧ Below w.heap.size w w' := by
  go_enter Try.func7, Try.ntmps7
  go_wp2_with fail
  refine (awake_any _).mono ?_
  rintro e w1 ⟨rfl, rfl⟩
  have hc := c.toNat_lt
  have hF := run_four w1 c
  have hp := pow_bound n
  go_wp2_with fail
  refine (power_any n _).mono ?_
  rintro e w2 ⟨⟨x1, y1, rfl, r1⟩, rfl⟩
  obtain ⟨x2, y2, m2, r2, b2, b2'⟩ := cmul_pow' n r1 r1 hp.1 hp.2
  obtain ⟨x3, y3, m3, r3, b3, b3'⟩ := cmul_pow' n r2 r1 b2 b2'
  obtain ⟨x4, y4, m4, r4, b4, b4'⟩ := cmul_pow' n r3 r1 b3 b3'
  rw [Tn.four] at r4
  have q4 := (ceq_rep r4 ⟨rep_one, rep_zero⟩).trans (decide_eq_true ⟨rfl, rfl⟩)
  clear hF b2 b2' b3 b3' b4 b4'
  go_wp2_with fail
  refine (sum_any _ _ (by show 4 ≤ _; decide)).mono ?_
  rintro e w2 ⟨⟨x5, y5, rfl, r5⟩, rfl⟩
  rw [show T ⟨#[c, c, c, c]⟩ = (0, 0) by
    show ((c.toNat : Int) - ((c.toNat : Int) - 0), (c.toNat : Int) - ((c.toNat : Int) - 0)) = (0, 0)
    rw [Int.sub_zero, Int.sub_self]] at r5
  have q5 := (ceq_rep r5 ⟨rep_zero, rep_zero⟩).trans (decide_eq_true ⟨rfl, rfl⟩)
  go_wp2_with fail
  refine (power_any (n + 4) _).mono ?_
  rintro e w2 ⟨⟨x6, y6, rfl, r6⟩, rfl⟩
  rw [Tn.ipow_four] at r6
  have q6 := (ceq_rep r6 r1).trans (decide_eq_true ⟨rfl, rfl⟩)
  go_wp2_with fail
  refine (power_any (-n) _).mono ?_
  rintro e w2 ⟨⟨x7, y7, rfl, r7⟩, rfl⟩
  obtain ⟨x8, y8, m8, r8, b8, b8'⟩ := cmul_pow' (-n) r1 r7 hp.1 hp.2
  rw [show Tn.cmul (Tn.ipow n) (Tn.ipow (-n)) = (1, 0) by have := Tn.ipow_neg n (1, 0); rwa [show Tn.cmul (1, 0) (Tn.ipow n) = Tn.ipow n by simp [Tn.cmul]] at this] at r8
  have q8 := (ceq_rep r8 ⟨rep_one, rep_zero⟩).trans (decide_eq_true ⟨rfl, rfl⟩)
  go_wp2
  go_ret
  exact ⟨rfl, (Below.refl _ _).alloc (Nat.le_refl _) _⟩

theorem T_append (a b : ByteArray) : T (a ++ b) = ((Tn.cmul (T a) (Tn.ipow b.size)).1 + (T b).1, (Tn.cmul (T a) (Tn.ipow b.size)).2 + (T b).2) := by
  unfold T
  rw [show (a ++ b).data.toList = a.data.toList ++ b.data.toList by simp, Tn.sum_append, Array.length_toList]
  rfl

theorem turnJoins_any (a b : ByteArray) (w : World) :
    Calls Try.prog 5 #[.string a, .string b] w fun e w' => e = .returned (.bool true) ∧ Below w.heap.size w w' := by
  by_cases hs : a.size ≤ 3000 ∧ b.size ≤ 3000
  · obtain ⟨hs, hs'⟩ := hs
    have hs1 : ¬ ((a.size : Int) > 3000) := by omega
    have hs2 : ¬ ((b.size : Int) > 3000) := by omega
    go_enter Try.func5, Try.ntmps5
    go_wp2_with fail
    refine (awake_any _).mono ?_
    rintro e w1 ⟨rfl, rfl⟩
    have ha := T_bound a
    have hb := T_bound b
    go_wp2_with fail
    refine (sum_any a _ (by omega)).mono ?_
    rintro e w2 ⟨⟨x1, y1, rfl, r1⟩, rfl⟩
    go_wp2_with fail
    refine (sum_any b _ (by omega)).mono ?_
    rintro e w2 ⟨⟨x2, y2, rfl, r2⟩, rfl⟩
    go_wp2_with fail
    refine (join_any _ _ _ _ _ _ _ _ _ r1 r2 (by omega) (by omega) (by omega) (by omega) _).mono ?_
    rintro e w2 ⟨⟨x3, y3, rfl, r3⟩, rfl⟩
    go_wp2_with fail
    refine (sum_any (a ++ b) _ (by rw [ByteArray.size_append]; omega)).mono ?_
    rintro e w2 ⟨⟨x4, y4, rfl, r4⟩, rfl⟩
    have hab := T_bound (a ++ b)
    rw [ByteArray.size_append] at hab
    have e3 := T_append a b
    have e31 := congrArg Prod.fst e3
    have e32 := congrArg Prod.snd e3
    simp only [] at e31 e32
    have q4 := (ceq_rep r3 r4).trans (decide_eq_true ⟨e31.symm, e32.symm⟩)
    have E1 := Lib.hid e31
    have E2 := Lib.hid e32
    clear e3 e31 e32
    have e31 := E1.out
    have e32 := E2.out
    rw [show (Tn.cmul ((T a).1, (T a).2) (Tn.ipow b.size)).1 + (T b).1 = (T (a ++ b)).1 from e31.symm, show (Tn.cmul ((T a).1, (T a).2) (Tn.ipow b.size)).2 + (T b).2 = (T (a ++ b)).2 from e32.symm] at r3
    clear e31 e32
    go_wp2_with fail
    refine (less_any _ _ _ _ _ _ _ _ _ r3 r2 (by omega) (by omega) (by omega) (by omega) (by omega) (by omega) _).mono ?_
    rintro e w2 ⟨⟨x5, y5, rfl, r5⟩, rfl⟩
    have e5 : Tn.cmul ((T (a ++ b)).1 - (T b).1, (T (a ++ b)).2 - (T b).2) (Tn.ipow (-(b.size : Int))) = T a := by
      rw [E1.out, E2.out, Int.add_sub_cancel, Int.add_sub_cancel]
      exact Tn.ipow_neg b.size (T a)
    rw [e5] at r5
    have q5 := (ceq_rep r5 r1).trans (decide_eq_true ⟨rfl, rfl⟩)
    go_wp2_with fail
    refine (join_any _ _ _ _ 0 0 _ _ _ ⟨rep_zero, rep_zero⟩ r2 (by decide) (by decide) (by omega) (by omega) _).mono ?_
    rintro e w2 ⟨⟨x6, y6, rfl, r6⟩, rfl⟩
    rw [show Tn.cmul (0, 0) (Tn.ipow (b.size : Int)) = (0, 0) by simp [Tn.cmul], Int.zero_add, Int.zero_add] at r6
    have q6 := (ceq_rep r6 r2).trans (decide_eq_true ⟨rfl, rfl⟩)
    go_wp2_with fail
    refine (join_any _ _ _ _ _ _ 0 0 _ r1 ⟨rep_zero, rep_zero⟩ (by omega) (by omega) (by decide) (by decide) _).mono ?_
    rintro e w2 ⟨⟨x7, y7, rfl, r7⟩, rfl⟩
    rw [show Tn.cmul ((T a).1, (T a).2) (Tn.ipow 0) = T a from Tn.cmul_one _, Int.add_zero, Int.add_zero] at r7
    have q7 := (ceq_rep r7 r1).trans (decide_eq_true ⟨rfl, rfl⟩)
    go_wp2
    all_goals go_ret
    all_goals exact ⟨rfl, Below.refl _ _⟩
  · go_enter Try.func5, Try.ntmps5
    go_wp2_with fail
    refine (awake_any _).mono ?_
    rintro e w1 ⟨rfl, rfl⟩
    go_wp2
    all_goals first
      | exfalso; omega
      | (go_ret; exact ⟨rfl, Below.refl _ _⟩)
end Go.Proofs.Ytejnghbiickejaa
