/- Walks of turn's functions that a cutter calls too. -/
import Derived.Test.YtaahbankiidgkaaTurnMath
import Derived.Test.YtaahbankiidgkaaChecked
import Derived.Laws.Bits128
import Derived.WalkKit
import Derived.WalkSpells
import Derived.WalkLawsBesides
import Derived.Deep.QuietTactic
import Derived.BigQuiet
import Derived.Deep.RegionLaw
import Derived.BigRegion
import Derived.Lib.Hide
import Derived.Deep.DeepFit
namespace Go.Proofs.Ytaahbankiidgkaa
open Go.RowKit Fx

theorem i64_and3 (n : Int) : bits .and .i64 n 3 = n % 4 := by
  have h3 : (BitVec.ofInt 64 3).toNat = 2 ^ 2 - 1 := by decide
  have key : (BitVec.ofInt 64 n &&& BitVec.ofInt 64 3).toNat = (n % ((2 ^ 64 : Nat) : Int)).toNat % 2 ^ 2 := by
    rw [BitVec.toNat_and, BitVec.toNat_ofInt, h3, Nat.and_two_pow_sub_one_eq_mod]
  show IntKind.i64.wrap ((BitVec.ofInt 64 n &&& BitVec.ofInt 64 3).toNat : Nat) = n % 4
  rw [key, IntKind.wrap_i64]
  omega

theorem ret_int {a b : Int} (h : a = b) : Ending.returned (Value.int .i64 a) = .returned (.int .i64 b) := by rw [h]
theorem ret_bool {a b : Bool} (h : a = b) : Ending.returned (Value.bool a) = .returned (.bool b) := by rw [h]

theorem rep_of (n : Int) (x : Nat) (h : n.natAbs < 9007199254740992) (hx : floatOfInt .f64 n = x) : Rep x n := hx ▸ of_int n h
theorem rep_zero : Rep 0 0 := rep_of 0 _ (by decide) (by decide)
theorem rep_one : Rep 4607182418800017408 1 := rep_of 1 _ (by decide) (by decide)
theorem rep_neg : Rep 13830554455654793216 (-1) := rep_of (-1) _ (by decide) (by decide)

theorem power_any (n : Int) (w : World) :
    Calls Try.prog 23 #[.int .i64 n] w fun e w' => (∃ x y, e = .returned (.complex .f64 x y) ∧ CRep x y (Tn.ipow n).1 (Tn.ipow n).2) ∧ w' = w := by
  go_enter Try.func23, Try.ntmps23
  go_wp2
  all_goals rename_i h
  all_goals rw [i64_and3] at *
  all_goals go_ret
  all_goals refine ⟨⟨_, _, rfl, ?_⟩, rfl⟩
  all_goals simp only [beq_iff_eq, beq_eq_false_iff_ne, ne_eq] at *
  · rw [show Tn.ipow n = (0, 1) by simp [Tn.ipow, *]]; exact ⟨rep_zero, rep_one⟩
  · rw [show Tn.ipow n = (-1, 0) by simp [Tn.ipow, *]]; exact ⟨rep_neg, rep_zero⟩
  · rw [show Tn.ipow n = (0, -1) by simp [Tn.ipow, *]]; exact ⟨rep_zero, rep_neg⟩
  · have h4 : n % 4 = 0 := by omega
    rw [show Tn.ipow n = (1, 0) by simp [Tn.ipow, h4]]; exact ⟨rep_one, rep_zero⟩

theorem mod_four (n : Int) : (wrap64 (n.tmod 4 + 4)).tmod 4 = n % 4 := by
  have h := Int.emod_emod_of_dvd n (show (4:Int) ∣ 4 from ⟨1, rfl⟩)
  have h1 := Int.lt_tmod_of_pos n (show (0:Int) < 4 by decide)
  have h2 := Int.tmod_lt_of_pos n (show (0:Int) < 4 by decide)
  have hw : wrap64 (n.tmod 4 + 4) = n.tmod 4 + 4 := by unfold wrap64; omega
  rw [hw, Int.tmod_eq_emod_of_nonneg (by omega)]
  have := Int.tmod_eq_emod (a := n) (b := 4)
  rw [this]
  split <;> omega

theorem ret_z {fn : Func} {p : Tmp} (h : fn.results = #[.cell p 35]) (tmps : Array Value) (w : World) (g : Nat) (x y : Value) (fr : Nat × Nat)
    (hp : tmps.getD p undef = .pointer (some ⟨g, 0, none⟩)) (hg : w.heap[g]? = some (.cells #[x, y] 35 fr)) :
    (results fn tmps).run Try.prog w = .ok (.agg #[x, y]) w :=
  results_cell_row h tmps w g _ _ fr _ hp hg Try.underlying35 rfl (by kernel_rfl)

theorem refPower_any (n : Int) (w : World) :
    Calls Try.prog 18 #[.int .i64 n] w fun e w' => e = .returned (.agg #[.int .i64 (Tn.ipow n).1, .int .i64 (Tn.ipow n).2]) ∧ Below w.heap.size w w' := by
  go_enter Try.func18, Try.ntmps18
  go_wp2
  all_goals rename_i h
  all_goals rw [mod_four] at *
  all_goals (try simp only [Exit.inBlock, Exit.then])
  all_goals refine bodyPost_ret (ret_z rfl _ _ w.heap.size _ _ _ rfl (heap_alloc_new _ _)) rfl ?_
  all_goals refine ⟨?_, (Below.refl _ _).alloc (Nat.le_refl _) _⟩
  all_goals simp only [beq_iff_eq, beq_eq_false_iff_ne, ne_eq] at *
  · rw [show Tn.ipow n = (1, 0) by simp [Tn.ipow, *]]
  · rw [show Tn.ipow n = (0, 1) by simp [Tn.ipow, *]]
  · rw [show Tn.ipow n = (-1, 0) by simp [Tn.ipow, *]]
  · have h4 : n % 4 = 3 := by omega
    rw [show Tn.ipow n = (0, -1) by simp [Tn.ipow, h4]]

theorem number_any (b : Nat) (hb : b < 256) (w : World) :
    Calls Try.prog 22 #[.int .u8 b] w fun e w' => (∃ x y, e = .returned (.complex .f64 x y) ∧ CRep x y b 0) ∧ w' = w := by
  go_enter Try.func22, Try.ntmps22
  go_wp2
  go_ret
  exact ⟨⟨_, _, rfl, of_int b (by omega), rep_zero⟩, rfl⟩

theorem followed_any (x y : Nat) (a b : Int) (c : Nat) (h : CRep x y a b) (hc : c < 256) (hb : b.natAbs < 9007199254740000) (w : World) :
    Calls Try.prog 21 #[.complex .f64 x y, .int .u8 c] w fun e w' => (∃ x y, e = .returned (.complex .f64 x y) ∧ CRep x y (c - b) a) ∧ w' = w := by
  obtain ⟨p, hp, rp⟩ := sub_rep (of_int c (by omega)) h.2 (show ((c : Int) - b).natAbs < _ by omega)
  have hp1 := fun t w => run_float_arith (P := Try.prog) w .sub t .f64 _ _ p hp
  clear hp
  go_enter Try.func21, Try.ntmps21
  go_wp2
  go_ret
  exact ⟨⟨_, _, rfl, rp, h.1⟩, rfl⟩

theorem take_snoc (s : ByteArray) (k : Nat) (h : k < s.size) : s.data.toList.take (k + 1) = s.data.toList.take k ++ [s[k]] := by
  have hl : k < s.data.toList.length := by rw [Array.length_toList]; exact h
  rw [← List.take_append_getElem hl]
  congr 1
theorem take_all (s : ByteArray) (k : Nat) (h : ¬ k < s.size) : s.data.toList.take k = s.data.toList :=
  List.take_of_length_le (by rw [Array.length_toList]; exact Nat.not_lt.1 h)

/-- The turned sum of a text, in the law's own words. -/
def T (s : ByteArray) : Int × Int := Tn.sum s.data.toList
theorem T_bound (s : ByteArray) : (T s).1.natAbs ≤ 255 * s.size ∧ (T s).2.natAbs ≤ 255 * s.size := by
  have := Tn.sum_bound s.data.toList
  rwa [Array.length_toList] at this

theorem pow_bound (n : Int) : (Tn.ipow n).1.natAbs ≤ 1 ∧ (Tn.ipow n).2.natAbs ≤ 1 := by
  rcases Tn.ipow_cases n with ⟨_, h⟩ | ⟨_, h⟩ | ⟨_, h⟩ | ⟨_, h⟩ <;> rw [h] <;> decide

theorem cmul_pow {x y u v : Nat} {a b : Int} (n : Int) (h : CRep x y a b) (hp : CRep u v (Tn.ipow n).1 (Tn.ipow n).2) (ha : a.natAbs < 1000000000000000) (hb : b.natAbs < 1000000000000000) :
    ∃ p q, cMulBits x y u v = some (p, q) ∧ CRep p q (Tn.cmul (a, b) (Tn.ipow n)).1 (Tn.cmul (a, b) (Tn.ipow n)).2 ∧ (Tn.cmul (a, b) (Tn.ipow n)).1.natAbs ≤ max a.natAbs b.natAbs ∧ (Tn.cmul (a, b) (Tn.ipow n)).2.natAbs ≤ max a.natAbs b.natAbs := by
  have hz : ∃ c d : Int, Tn.ipow n = (c, d) ∧ ((c = 1 ∧ d = 0) ∨ (c = 0 ∧ d = 1) ∨ (c = -1 ∧ d = 0) ∨ (c = 0 ∧ d = -1)) := by
    rcases Tn.ipow_cases n with ⟨_, h⟩ | ⟨_, h⟩ | ⟨_, h⟩ | ⟨_, h⟩ <;> exact ⟨_, _, h, by simp⟩
  obtain ⟨c, d, hcd, hv⟩ := hz
  rw [hcd] at hp ⊢
  simp only [Tn.cmul] at hp ⊢
  have hall : (a * c).natAbs < 9007199254740992 ∧ (b * d).natAbs < 9007199254740992 ∧ (a * d).natAbs < 9007199254740992 ∧ (b * c).natAbs < 9007199254740992 ∧ (a * c - b * d).natAbs ≤ max a.natAbs b.natAbs ∧ (a * d + b * c).natAbs ≤ max a.natAbs b.natAbs := by
    rcases hv with ⟨rfl, rfl⟩ | ⟨rfl, rfl⟩ | ⟨rfl, rfl⟩ | ⟨rfl, rfl⟩ <;> (refine ⟨?_, ?_, ?_, ?_, ?_, ?_⟩ <;> omega)
  obtain ⟨e1, e2, e3, e4, e5, e6⟩ := hall
  obtain ⟨p, q, hpq, r⟩ := cmul_rep h hp e1 e2 e3 e4 (by omega) (by omega)
  exact ⟨p, q, hpq, r, e5, e6⟩

theorem roll_any (x y : Nat) (a b n : Int) (o c : Nat) (h : CRep x y a b) (ho : o < 256) (hc : c < 256) (ha : a.natAbs < 1000000000000) (hb : b.natAbs < 1000000000000) (h1 : 1 ≤ n) (h2 : n < 1000000000) (w : World) :
    Calls Try.prog 19 #[.complex .f64 x y, .int .i64 n, .int .u8 o, .int .u8 c] w fun e w' =>
      (∃ x y, e = .returned (.complex .f64 x y) ∧ CRep x y (c - (b - (Tn.cmul (o, 0) (Tn.ipow (n - 1))).2)) (a - (Tn.cmul (o, 0) (Tn.ipow (n - 1))).1)) ∧ w' = w := by
  go_enter Try.func19, Try.ntmps19
  go_wp2_with fail
  refine (number_any o ho _).mono ?_
  rintro e w1 ⟨⟨x1, y1, rfl, r1⟩, rfl⟩
  go_wp2_with fail
  refine (power_any (n - 1) _).mono ?_
  rintro e w2 ⟨⟨x2, y2, rfl, r2⟩, rfl⟩
  obtain ⟨x3, y3, hm, r3, b3, b3'⟩ := cmul_pow (n - 1) r1 r2 (by omega) (by decide)
  obtain ⟨x4, y4, hs, r4⟩ := csub_rep h r3 (by omega) (by omega)
  have hm1 := fun t w => run_complex_mul (P := Try.prog) w t _ _ _ _ _ _ hm
  have hs1 := fun t w => run_complex_sum (P := Try.prog) w .sub (Or.inr rfl) t .f64 _ _ _ _ _ _ hs
  clear hm hs
  go_wp2_with fail
  refine (followed_any x4 y4 _ _ c r4 hc (by omega) _).mono ?_
  rintro e w3 ⟨⟨x5, y5, rfl, r5⟩, rfl⟩
  go_wp2
  go_ret
  exact ⟨⟨_, _, rfl, r5⟩, rfl⟩

theorem order_bound (s : Bool) (C x : Nat) (a : Int) (hC : Ieee.double.read C = .number s 4503599627370496 1) (h : Rep x a) :
    FloatKind.f64.format.order x C = some (compare a (if s then -9007199254740992 else 9007199254740992)) := by
  obtain ⟨t, k, h1, ht⟩ := h
  have e1 : ((-(k : Int)) - min (-(k : Int)) 1).toNat = 0 := by omega
  have e2 : ((1 : Int) - min (-(k : Int)) 1).toNat = k + 1 := by omega
  have hp : (0 : Int) < 2 ^ k := by exact_mod_cast Nat.two_pow_pos k
  have e3 : Ieee.signed s 4503599627370496 (k + 1) = (if s then -9007199254740992 else 9007199254740992) * 2 ^ k := by
    have e0 : ((2 ^ k : Nat) : Int) = (2 : Int) ^ k := Int.natCast_pow 2 k
    unfold Ieee.signed
    rw [Nat.shiftLeft_eq, Nat.pow_succ, ← e0]
    generalize (2 ^ k : Nat) = K
    cases s
    · simp only [Bool.false_eq_true, if_false]; omega
    · simp only [if_true]; omega
  show (Ieee.double.read x).order (Ieee.double.read C) = _
  rw [h1, hC]
  show some (compare (Ieee.signed t _ _) (Ieee.signed s _ _)) = _
  rw [e1, e2, signed_rep t a k _ ht, e3, Nat.add_zero]
  generalize (if s then -9007199254740992 else 9007199254740992 : Int) = b
  congr 1
  rcases Int.lt_trichotomy a b with h | h | h
  · have := Int.mul_lt_mul_of_pos_right h hp
    rw [Int.compare_eq_lt.2 this, Int.compare_eq_lt.2 h]
  · subst h; simp
  · have := Int.mul_lt_mul_of_pos_right h hp
    rw [Int.compare_eq_gt.2 this, Int.compare_eq_gt.2 h]

theorem exact_any (x : Nat) (a : Int) (h : Rep x a) (ha : a.natAbs < 1000000000000000) (w : World) :
    Calls Try.prog 20 #[.float .f64 x] w fun e w' => e = .returned (.bool true) ∧ w' = w := by
  have h1 := order_bound true 14069245235905429504 x a (by decide) h
  have h2 := order_bound false 4845873199050653696 x a (by decide) h
  rw [if_pos rfl, Int.compare_eq_gt.2 (by omega)] at h1
  rw [if_neg (by decide), Int.compare_eq_lt.2 (by omega)] at h2
  go_enter Try.func20, Try.ntmps20
  go_wp2
  go_ret
  exact ⟨rfl, rfl⟩

theorem mod_pos (m n : Int) (hm : m.natAbs < 1000000000000000) (h1 : 1 ≤ n) (h2 : n ≤ 1048576) :
    (m.tmod n < 0 → m.tmod n + n = m % n) ∧ (¬ m.tmod n < 0 → m.tmod n = m % n) ∧ (m.tmod n).natAbs < 1048576 := by
  have e1 := Int.lt_tmod_of_pos m (show (0:Int) < n by omega)
  have e2 := Int.tmod_lt_of_pos m (show (0:Int) < n by omega)
  have e3 := Int.emod_nonneg m (show n ≠ 0 by omega)
  have e4 := Int.emod_lt_of_pos m (show (0:Int) < n by omega)
  have := Int.tmod_eq_emod (a := m) (b := n)
  refine ⟨?_, ?_, by omega⟩ <;> intro h <;> split at this <;> omega

theorem cell_any (x y : Nat) (a b n : Int) (h : CRep x y a b) (ha : a.natAbs < 10000000000000) (hb : b.natAbs < 10000000000000) (h1 : 1 ≤ n) (h2 : n ≤ 1048576) (w : World) :
    Calls Try.prog 17 #[.complex .f64 x y, .int .i64 n] w fun e w' => e = .returned (.int .i64 ((a + 3 * b) % n)) ∧ w' = w := by
  obtain ⟨p, hp, rp⟩ := mul_rep (rep_of 3 4613937818241073152 (by decide) (by decide)) h.2 (by omega)
  obtain ⟨q, hq, rq⟩ := add_rep h.1 rp (by omega)
  have hp1 := fun t w => run_float_arith (P := Try.prog) w .mul t .f64 _ _ p hp
  have hq1 := fun t w => run_float_arith (P := Try.prog) w .add t .f64 _ _ q hq
  have hi := fun w => run_convert_float_int (P := Try.prog) w 45 2 .f64 .i64 q (a + 3 * b) (by rfl) (by rfl) (to_int rq (by omega) (by omega))
  clear hp hq
  obtain ⟨m1, m2, m3⟩ := mod_pos (a + 3 * b) n (by omega) h1 h2
  go_enter Try.func17, Try.ntmps17
  go_wp2_with fail
  refine (exact_any q _ rq (by omega) _).mono ?_
  rintro e w1 ⟨rfl, rfl⟩
  go_wp2
  all_goals go_ret
  · exact ⟨rfl, rfl⟩
  · exact ⟨ret_int (m2 (by assumption)), rfl⟩

theorem refCell_any (a b n : Int) (ha : a.natAbs < 10000000000000) (hb : b.natAbs < 10000000000000) (h1 : 1 ≤ n) (h2 : n ≤ 1048576) (w : World) :
    Calls Try.prog 14 #[.agg #[.int .i64 a, .int .i64 b], .int .i64 n] w fun e w' => e = .returned (.int .i64 ((a + 3 * b) % n)) ∧ Below w.heap.size w w' := by
  obtain ⟨m1, m2, m3⟩ := mod_pos (a + 3 * b) n (by omega) h1 h2
  obtain ⟨r1, r2, r3⟩ := mod_pos ((a + 3 * b).tmod n + n) n (by omega) h1 h2
  go_enter Try.func14, Try.ntmps14
  go_wp2
  go_ret
  have e1 : ((a + 3 * b).tmod n + n) % n = (a + 3 * b) % n := by
    rw [Int.add_emod_right]
    by_cases h : (a + 3 * b).tmod n < 0
    · have e4 := Int.emod_emod_of_dvd (a + 3 * b) (show n ∣ n from ⟨1, by omega⟩)
      rw [← m1 h, Int.add_emod_right] at e4
      rw [e4, m1 h]
    · rw [m2 (by omega)]; exact Int.emod_emod_of_dvd _ ⟨1, by omega⟩
  have e2 := Int.lt_tmod_of_pos (a + 3 * b) (show (0:Int) < n by omega)
  exact ⟨ret_int (by rw [Int.tmod_eq_emod_of_nonneg (by omega), e1]), (Below.refl _ _).alloc (Nat.le_refl _) _⟩

end Go.Proofs.Ytaahbankiidgkaa
