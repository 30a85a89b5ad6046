/- Whole numbers as float64: sums, differences, products, comparisons and the way back are exact below 2^53. -/
import Derived.WalkLawsBesides
namespace Go.Proofs.Ytaahbankiidgkaa
namespace Fx
open Ieee

theorem log2_shift (m k : Nat) (hm : 0 < m) : (m * 2 ^ k).log2 = m.log2 + k := by
  rw [Nat.log2_eq_iff (Nat.ne_of_gt (Nat.mul_pos hm (Nat.two_pow_pos k)))]
  have h1 : 2 ^ m.log2 ≤ m := Nat.log2_self_le (Nat.ne_of_gt hm)
  have h2 : m < 2 ^ (m.log2 + 1) := Nat.lt_log2_self
  constructor
  · rw [Nat.pow_add]; exact Nat.mul_le_mul_right _ h1
  · rw [show m.log2 + k + 1 = m.log2 + 1 + k by omega, Nat.pow_add]; exact Nat.mul_lt_mul_of_pos_right h2 (Nat.two_pow_pos k)

theorem cut_exact (s : Bool) (q d : Nat) (hq : 0 < q) : Toward.even.cut s (q * 2 ^ d) d = q := by
  unfold Toward.cut
  have hl : min d ((q * 2 ^ d).log2 + 2) = d := by rw [log2_shift q d hq]; omega
  have hp : 0 < 2 ^ d := Nat.two_pow_pos d
  simp only [hl, Nat.one_shiftLeft, Nat.mul_mod_left, Nat.mul_div_cancel _ hp]
  simp

theorem sw_eq : double.signWeight = 9223372036854775808 := by decide
theorem lp_eq : double.leastPlace = -1074 := by decide
theorem bin_eq : double.binade = 4503599627370496 := by decide
theorem inf_eq : double.infRung = 9218868437227405312 := by decide

theorem sig_bounds (m : Nat) (hm0 : 0 < m) (hm : m < 9007199254740992) :
    m.log2 < 53 ∧ 4503599627370496 ≤ m * 2 ^ (52 - m.log2) ∧ m * 2 ^ (52 - m.log2) < 9007199254740992 := by
  have hL : m.log2 < 53 := (Nat.log2_lt (Nat.ne_of_gt hm0)).2 (by simpa using hm)
  have h1 : 2 ^ m.log2 ≤ m := Nat.log2_self_le (Nat.ne_of_gt hm0)
  have h2 : m < 2 ^ (m.log2 + 1) := Nat.lt_log2_self
  refine ⟨hL, ?_, ?_⟩
  · have := Nat.mul_le_mul_right (2 ^ (52 - m.log2)) h1
    rwa [← Nat.pow_add, show m.log2 + (52 - m.log2) = 52 by omega] at this
  · have : m * 2 ^ (52 - m.log2) < 2 ^ (m.log2 + 1) * 2 ^ (52 - m.log2) := Nat.mul_lt_mul_of_pos_right h2 (Nat.two_pow_pos _)
    rwa [← Nat.pow_add, show m.log2 + 1 + (52 - m.log2) = 53 by omega] at this

theorem kept_eq (s : Bool) (m k L : Nat) (hm0 : 0 < m) (hL : L < 53) :
    Toward.even.cut s ((m * 2 ^ k) <<< (-(k : Int) - ((L : Int) - 52)).toNat) ((L : Int) - 52 - -(k : Int)).toNat = m * 2 ^ (52 - L) := by
  by_cases hc : L + k ≤ 52
  · rw [show ((L : Int) - 52 - -(k : Int)).toNat = 0 by omega, show (-(k : Int) - ((L : Int) - 52)).toNat = 52 - L - k by omega, Nat.shiftLeft_eq, Nat.mul_assoc, ← Nat.pow_add, show k + (52 - L - k) = 52 - L by omega]
    have := cut_exact s (m * 2 ^ (52 - L)) 0 (Nat.mul_pos hm0 (Nat.two_pow_pos _))
    rwa [Nat.pow_zero, Nat.mul_one] at this
  · rw [show ((L : Int) - 52 - -(k : Int)).toNat = L + k - 52 by omega, show (-(k : Int) - ((L : Int) - 52)).toNat = 0 by omega, Nat.shiftLeft_zero]
    have := cut_exact s (m * 2 ^ (52 - L)) (L + k - 52) (Nat.mul_pos hm0 (Nat.two_pow_pos _))
    rwa [Nat.mul_assoc, ← Nat.pow_add, show 52 - L + (L + k - 52) = k by omega] at this

theorem nearest_shift (s : Bool) (m k : Nat) (hm0 : 0 < m) (hm : m < 9007199254740992) :
    double.nearest s (m * 2 ^ k) (-(k : Int)) = double.word s ((m.log2 + 1022) * 4503599627370496 + m * 2 ^ (52 - m.log2)) := by
  have hne : m * 2 ^ k ≠ 0 := Nat.ne_of_gt (Nat.mul_pos hm0 (Nat.two_pow_pos k))
  obtain ⟨hL, _, hq⟩ := sig_bounds m hm0 hm
  have hkept := kept_eq s m k m.log2 hm0 hL
  unfold Format.nearest
  rw [if_neg hne, log2_shift m k hm0, lp_eq, bin_eq, inf_eq]
  have hlast : max (-(k : Int) + ((m.log2 + k : Nat) : Int) - ((double.fractionBits : Nat) : Int)) (-1074) = (m.log2 : Int) - 52 := by
    rw [show double.fractionBits = 52 from rfl]; omega
  simp only [hlast]
  rw [hkept, show ((m.log2 : Int) - 52 - -1074).toNat = m.log2 + 1022 by omega]
  congr 1
  generalize m * 2 ^ (52 - m.log2) = q at *
  omega

theorem read_word (s : Bool) (r q L : Nat) (hL : L < 53) (hr : r = (L + 1022) * 4503599627370496 + q) (h1 : 4503599627370496 ≤ q) (h2 : q < 9007199254740992) :
    double.read (double.word s r) = .number s q ((L : Int) - 52) := by
  have hrl : r < 9223372036854775808 := by omega
  have hneg : (double.word s r / 9223372036854775808 % 2 == 1) = s := by
    unfold Format.word; rw [sw_eq]
    cases s
    · simp only [Bool.false_eq_true, if_false]
      rw [Nat.div_eq_of_lt hrl]; rfl
    · simp only [if_true]
      rw [show (9223372036854775808 + r) / 9223372036854775808 = 1 by omega]; rfl
  have hrung : double.word s r % 9223372036854775808 = r := by
    unfold Format.word; rw [sw_eq]
    cases s
    · simp only [Bool.false_eq_true, if_false]; omega
    · simp only [if_true]; omega
  unfold Format.read
  rw [sw_eq, lp_eq, bin_eq, inf_eq]
  simp only [hneg, hrung]
  rw [if_neg (by omega), if_pos (by omega)]
  have e1 : 4503599627370496 + r % 4503599627370496 = q := by omega
  have e2 : (-1074 : Int) + ((r / 4503599627370496 - 1 : Nat) : Int) = (L : Int) - 52 := by omega
  rw [e1, e2]

/-- A datum stands for the whole number n (a zero with either sign). -/
def DRep (d : Datum) (n : Int) : Prop := ∃ (s : Bool) (k : Nat), d = .number s (n.natAbs * 2 ^ k) (-(k : Int)) ∧ (n ≠ 0 → s = decide (n < 0))
/-- A word of float64 stands for the whole number n. -/
def Rep (x : Nat) (n : Int) : Prop := DRep (double.read x) n

theorem rep_write (s : Bool) (k : Nat) (n : Int) (hn : n.natAbs < 9007199254740992) (hs : n ≠ 0 → s = decide (n < 0)) :
    Rep (double.nearest s (n.natAbs * 2 ^ k) (-(k : Int))) n := by
  by_cases h0 : n = 0
  · subst h0
    obtain ⟨K, hK⟩ : ∃ K : Nat, K = 1074 := ⟨_, rfl⟩
    refine ⟨s, K, ?_, fun h => absurd rfl h⟩
    rw [show Int.natAbs 0 = 0 from rfl, Nat.zero_mul, Nat.zero_mul]
    unfold Format.nearest
    rw [if_pos rfl, hK]
    cases s <;> rfl
  · have hp : 0 < n.natAbs := by omega
    obtain ⟨hL, h1, h2⟩ := sig_bounds n.natAbs hp hn
    rw [nearest_shift s n.natAbs k hp hn]
    refine ⟨s, 52 - n.natAbs.log2, ?_, hs⟩
    rw [read_word s _ (n.natAbs * 2 ^ (52 - n.natAbs.log2)) n.natAbs.log2 hL rfl h1 h2]
    congr 1; omega

theorem signed_rep (s : Bool) (n : Int) (k u : Nat) (hs : n ≠ 0 → s = decide (n < 0)) : signed s (n.natAbs * 2 ^ k) u = n * 2 ^ (k + u) := by
  unfold signed
  rw [Nat.shiftLeft_eq, Nat.mul_assoc, ← Nat.pow_add]
  by_cases h0 : n = 0
  · subst h0; simp
  · rw [hs h0]
    by_cases hn : n < 0
    · simp only [hn, decide_true, if_true]
      rw [Int.natCast_mul, Int.natCast_pow, ← Int.neg_mul, Int.ofNat_natAbs_of_nonpos (by omega)]
      simp
    · simp only [hn, decide_false, Bool.false_eq_true, if_false]
      rw [Int.natCast_mul, Int.natCast_pow, Int.natAbs_of_nonneg (by omega)]
      simp

theorem opposite_rep {d : Datum} {n : Int} (h : DRep d n) : DRep d.opposite (-n) := by
  obtain ⟨s, k, rfl, hs⟩ := h
  refine ⟨!s, k, by rw [Int.natAbs_neg]; rfl, fun h0 => ?_⟩
  rw [hs (by omega)]
  by_cases hn : n < 0
  · simp [hn]; omega
  · simp [hn]; omega

theorem sum_rep {d e : Datum} {a b : Int} (ha : DRep d a) (hb : DRep e b) : ∃ f, d.sum e = some f ∧ DRep f (a + b) := by
  obtain ⟨s, k, rfl, hs⟩ := ha
  obtain ⟨t, l, rfl, ht⟩ := hb
  have e1 : ((-(k : Int)) - min (-(k : Int)) (-(l : Int))).toNat = max k l - k := by omega
  have e2 : ((-(l : Int)) - min (-(k : Int)) (-(l : Int))).toNat = max k l - l := by omega
  have e3 : min (-(k : Int)) (-(l : Int)) = -((max k l : Nat) : Int) := by omega
  have hp : (0 : Int) < 2 ^ max k l := by exact_mod_cast Nat.two_pow_pos (max k l)
  have htot : signed s (a.natAbs * 2 ^ k) ((-(k : Int)) - min (-(k : Int)) (-(l : Int))).toNat + signed t (b.natAbs * 2 ^ l) ((-(l : Int)) - min (-(k : Int)) (-(l : Int))).toNat = (a + b) * 2 ^ max k l := by
    rw [e1, e2, signed_rep s a k _ hs, signed_rep t b l _ ht, show k + (max k l - k) = max k l by omega, show l + (max k l - l) = max k l by omega, Int.add_mul]
  refine ⟨_, rfl, ?_⟩
  simp only [htot]
  refine ⟨if (a + b) * 2 ^ max k l = 0 then s && t else decide ((a + b) * 2 ^ max k l < 0), max k l, ?_, ?_⟩
  · rw [e3, Int.natAbs_mul, Int.natAbs_pow]; rfl
  · intro h0
    have hne : (a + b) * 2 ^ max k l ≠ 0 := Int.mul_ne_zero h0 (by omega)
    rw [if_neg hne]
    congr 1
    apply propext
    constructor
    · intro h
      refine Int.lt_of_not_ge fun hge => ?_
      have := Int.mul_nonneg hge (Int.le_of_lt hp)
      omega
    · intro h; exact Int.mul_neg_of_neg_of_pos h hp

theorem product_rep {d e : Datum} {a b : Int} (ha : DRep d a) (hb : DRep e b) : ∃ f, d.product e = some f ∧ DRep f (a * b) := by
  obtain ⟨s, k, rfl, hs⟩ := ha
  obtain ⟨t, l, rfl, ht⟩ := hb
  refine ⟨_, rfl, s ^^ t, k + l, ?_, ?_⟩
  · rw [Int.natAbs_mul, Nat.pow_add]
    congr 1
    · rw [Nat.mul_mul_mul_comm]
    · omega
  · intro h0
    have ha0 : a ≠ 0 := fun h => h0 (by simp [h])
    have hb0 : b ≠ 0 := fun h => h0 (by simp [h])
    rw [hs ha0, ht hb0]
    rcases Int.lt_or_gt_of_ne ha0 with h1 | h1 <;> rcases Int.lt_or_gt_of_ne hb0 with h2 | h2
    · have := Int.mul_pos_of_neg_of_neg h1 h2
      rw [decide_eq_true h1, decide_eq_true h2, decide_eq_false (by omega)]; rfl
    · have := Int.mul_neg_of_neg_of_pos h1 h2
      rw [decide_eq_true h1, decide_eq_false (by omega), decide_eq_true this]; rfl
    · have := Int.mul_neg_of_pos_of_neg h1 h2
      rw [decide_eq_false (by omega), decide_eq_true h2, decide_eq_true this]; rfl
    · have := Int.mul_pos h1 h2
      rw [decide_eq_false (by omega), decide_eq_false (by omega), decide_eq_false (by omega)]; rfl

theorem write_rep {d : Datum} {n : Int} (hn : n.natAbs < 9007199254740992) (h : DRep d n) : Rep (double.write d) n := by
  obtain ⟨s, k, rfl, hs⟩ := h
  exact rep_write s k n hn hs

theorem add_rep {x y : Nat} {a b : Int} (hx : Rep x a) (hy : Rep y b) (h : (a + b).natAbs < 9007199254740992) : ∃ z, floatBits .add .f64 x y = some z ∧ Rep z (a + b) := by
  obtain ⟨f, h1, h2⟩ := sum_rep hx hy
  exact ⟨double.write f, by show (Option.map _ _) = _; rw [show (FloatKind.f64.format.read x).sum (FloatKind.f64.format.read y) = some f from h1]; rfl, write_rep h h2⟩
theorem sub_rep {x y : Nat} {a b : Int} (hx : Rep x a) (hy : Rep y b) (h : (a - b).natAbs < 9007199254740992) : ∃ z, floatBits .sub .f64 x y = some z ∧ Rep z (a - b) := by
  obtain ⟨f, h1, h2⟩ := sum_rep hx (opposite_rep hy)
  rw [← Int.sub_eq_add_neg] at h2
  exact ⟨double.write f, by show (Option.map _ _) = _; rw [show (FloatKind.f64.format.read x).sum (FloatKind.f64.format.read y).opposite = some f from h1]; rfl, write_rep h h2⟩
theorem mul_rep {x y : Nat} {a b : Int} (hx : Rep x a) (hy : Rep y b) (h : (a * b).natAbs < 9007199254740992) : ∃ z, floatBits .mul .f64 x y = some z ∧ Rep z (a * b) := by
  obtain ⟨f, h1, h2⟩ := product_rep hx hy
  exact ⟨double.write f, by show (Option.map _ _) = _; rw [show (FloatKind.f64.format.read x).product (FloatKind.f64.format.read y) = some f from h1]; rfl, write_rep h h2⟩

theorem order_rep {x y : Nat} {a b : Int} (hx : Rep x a) (hy : Rep y b) : FloatKind.f64.format.order x y = some (compare a b) := by
  obtain ⟨s, k, h1, hs⟩ := hx
  obtain ⟨t, l, h2, ht⟩ := hy
  have e1 : ((-(k : Int)) - min (-(k : Int)) (-(l : Int))).toNat = max k l - k := by omega
  have e2 : ((-(l : Int)) - min (-(k : Int)) (-(l : Int))).toNat = max k l - l := by omega
  have hp : (0 : Int) < 2 ^ max k l := by exact_mod_cast Nat.two_pow_pos (max k l)
  show (double.read x).order (double.read y) = _
  rw [h1, h2]
  show some (compare (signed s _ _) (signed t _ _)) = _
  rw [e1, e2, signed_rep s a k _ hs, signed_rep t b l _ ht, show k + (max k l - k) = max k l by omega, show l + (max k l - l) = max k l by omega]
  congr 1
  rcases Int.lt_trichotomy a b with h | h | h
  · have := Int.mul_lt_mul_of_pos_right h hp
    rw [Int.compare_eq_lt.2 this, Int.compare_eq_lt.2 h]
  · subst h; simp
  · have := Int.mul_lt_mul_of_pos_right h hp
    rw [Int.compare_eq_gt.2 this, Int.compare_eq_gt.2 h]

theorem of_int (n : Int) (h : n.natAbs < 9007199254740992) : Rep (floatOfInt .f64 n) n := by
  have := rep_write (decide (n < 0)) 0 n h (fun _ => rfl)
  rw [Nat.pow_zero, Nat.mul_one] at this
  exact this

theorem toInt_rep {x : Nat} {n : Int} (h : Rep x n) : (FloatKind.f64.decode x).toInt .zero = some n := by
  obtain ⟨s, k, h1, hs⟩ := h
  show (double.read x).toInt .zero = _
  rw [h1]
  unfold Datum.toInt Datum.integral
  simp only
  by_cases h0 : n = 0
  · subst h0
    simp [Toward.cut, signed]
  · have hz : (-(k : Int)).toNat = 0 := by omega
    have hk : (- -(k : Int)).toNat = k := by omega
    have hc : Toward.zero.cut s ((n.natAbs * 2 ^ k) <<< (-(k : Int)).toNat) (- -(k : Int)).toNat = n.natAbs := by
      rw [hz, hk, Nat.shiftLeft_zero]
      unfold Toward.cut
      have hl : min k ((n.natAbs * 2 ^ k).log2 + 2) = k := by rw [log2_shift n.natAbs k (by omega)]; omega
      simp [hl, Nat.one_shiftLeft, Nat.mul_div_cancel _ (Nat.two_pow_pos k)]
    rw [hc]
    have := signed_rep s n 0 0 hs
    simpa using this

theorem to_int {x : Nat} {n : Int} (h : Rep x n) (h1 : -(2 : Int) ^ 63 ≤ n) (h2 : n < 2 ^ 63) : floatToIntVal .f64 x .i64 = some n := by
  unfold floatToIntVal
  rw [toInt_rep h]
  have : IntKind.i64.min ≤ n ∧ n ≤ IntKind.i64.max := by
    constructor
    · show -9223372036854775808 ≤ n; omega
    · show n ≤ 9223372036854775807; omega
  simp only [if_pos this]

/-! A complex number of whole parts. -/
def CRep (re im : Nat) (a b : Int) : Prop := Rep re a ∧ Rep im b

theorem csum_rep {x y u v : Nat} {a b c d : Int} (h1 : CRep x y a b) (h2 : CRep u v c d) (hre : (a + c).natAbs < 9007199254740992) (him : (b + d).natAbs < 9007199254740992) :
    ∃ p q, cSumBits .add .f64 x y u v = some (p, q) ∧ CRep p q (a + c) (b + d) := by
  obtain ⟨p, hp, rp⟩ := add_rep h1.1 h2.1 hre
  obtain ⟨q, hq, rq⟩ := add_rep h1.2 h2.2 him
  exact ⟨p, q, by simp [cSumBits, hp, hq], rp, rq⟩
theorem csub_rep {x y u v : Nat} {a b c d : Int} (h1 : CRep x y a b) (h2 : CRep u v c d) (hre : (a - c).natAbs < 9007199254740992) (him : (b - d).natAbs < 9007199254740992) :
    ∃ p q, cSumBits .sub .f64 x y u v = some (p, q) ∧ CRep p q (a - c) (b - d) := by
  obtain ⟨p, hp, rp⟩ := sub_rep h1.1 h2.1 hre
  obtain ⟨q, hq, rq⟩ := sub_rep h1.2 h2.2 him
  exact ⟨p, q, by simp [cSumBits, hp, hq], rp, rq⟩
theorem cmul_rep {x y u v : Nat} {a b c d : Int} (h1 : CRep x y a b) (h2 : CRep u v c d)
    (hac : (a * c).natAbs < 9007199254740992) (hbd : (b * d).natAbs < 9007199254740992) (had : (a * d).natAbs < 9007199254740992) (hbc : (b * c).natAbs < 9007199254740992)
    (hre : (a * c - b * d).natAbs < 9007199254740992) (him : (a * d + b * c).natAbs < 9007199254740992) :
    ∃ p q, cMulBits x y u v = some (p, q) ∧ CRep p q (a * c - b * d) (a * d + b * c) := by
  obtain ⟨ac, e1, r1⟩ := mul_rep h1.1 h2.1 hac
  obtain ⟨bd, e2, r2⟩ := mul_rep h1.2 h2.2 hbd
  obtain ⟨p, e3, r3⟩ := sub_rep r1 r2 hre
  obtain ⟨ad, e4, r4⟩ := mul_rep h1.1 h2.2 had
  obtain ⟨bc, e5, r5⟩ := mul_rep h1.2 h2.1 hbc
  obtain ⟨q, e6, r6⟩ := add_rep r4 r5 him
  exact ⟨p, q, by simp [cMulBits, e1, e2, e3, e4, e5, e6], r3, r6⟩

theorem eq_rep {x y : Nat} {a b : Int} (hx : Rep x a) (hy : Rep y b) : (FloatKind.f64.format.order x y == some .eq) = decide (a = b) := by
  rw [order_rep hx hy]
  by_cases h : a = b
  · subst h; simp
  · have h2 : compare a b ≠ .eq := fun hc => h (Int.compare_eq_eq.1 hc)
    simp [h, h2]
theorem ceq_rep {x y u v : Nat} {a b c d : Int} (h1 : CRep x y a b) (h2 : CRep u v c d) :
    ((FloatKind.f64.format.order x u == some .eq) && (FloatKind.f64.format.order y v == some .eq)) = decide (a = c ∧ b = d) := by
  rw [eq_rep h1.1 h2.1, eq_rep h1.2 h2.2]
  by_cases h : a = c <;> by_cases h' : b = d <;> simp [h, h']
theorem gt_rep {x y : Nat} {a b : Int} (hx : Rep x a) (hy : Rep y b) : (FloatKind.f64.format.order x y == some .gt) = decide (b < a) := by
  rw [order_rep hx hy]
  rcases Int.lt_trichotomy a b with h | h | h
  · rw [Int.compare_eq_lt.2 h]; simp; omega
  · subst h; simp
  · rw [Int.compare_eq_gt.2 h]; simp [h]
theorem lt_rep {x y : Nat} {a b : Int} (hx : Rep x a) (hy : Rep y b) : (FloatKind.f64.format.order x y == some .lt) = decide (a < b) := by
  rw [order_rep hx hy]
  rcases Int.lt_trichotomy a b with h | h | h
  · rw [Int.compare_eq_lt.2 h]; simp [h]
  · subst h; simp
  · rw [Int.compare_eq_gt.2 h]; simp; omega
end Fx
end Go.Proofs.Ytaahbankiidgkaa
