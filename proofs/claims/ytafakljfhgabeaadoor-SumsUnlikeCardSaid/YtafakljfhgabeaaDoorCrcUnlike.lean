/- Two texts of one length that differ in up to four bytes side by side have unlike check sums: plain numbers. -/
import Derived.Test.YtafakljfhgabeaaDoorCrcMath
namespace Go.Proofs.YtafakljfhgabeaaDoor.Crc

theorem xor_cancel {a b c : Nat} (h : a ^^^ c = b ^^^ c) : a = b := by
  have := congrArg (· ^^^ c) h
  simpa [Nat.xor_assoc] using this
theorem step_top (c : Nat) (hc : c < 4294967296) : (step c).testBit 31 = decide (c % 2 = 1) := by
  have h2 : (c / 2).testBit 31 = false := Nat.testBit_lt_two_pow (by omega)
  unfold step
  split
  · rename_i h
    rw [Nat.testBit_xor, h2, decide_eq_true h]
    decide
  · rename_i h
    rw [h2, decide_eq_false h]
theorem step_inj {a b : Nat} (ha : a < 4294967296) (hb : b < 4294967296) (h : step a = step b) : a = b := by
  have hp : decide (a % 2 = 1) = decide (b % 2 = 1) := by rw [← step_top a ha, ← step_top b hb, h]
  have hp' : a % 2 = 1 ↔ b % 2 = 1 := by simpa using hp
  unfold step at h
  by_cases h1 : a % 2 = 1
  · rw [if_pos h1, if_pos (hp'.1 h1)] at h
    have := xor_cancel h
    have := hp'.1 h1
    omega
  · have h2 : ¬ b % 2 = 1 := fun h3 => h1 (hp'.2 h3)
    rw [if_neg h1, if_neg h2] at h
    omega
theorem steps_inj (n : Nat) : ∀ {a b : Nat}, a < 4294967296 → b < 4294967296 → steps n a = steps n b → a = b := by
  induction n with
  | zero => intro a b _ _ h; exact h
  | succ n ih => intro a b ha hb h; exact step_inj ha hb (ih (step_lt ha) (step_lt hb) h)
theorem steps8_high (q : Nat) : steps 8 (256 * q) = q := by
  rw [show (8 : Nat) = 4 + 4 from rfl, steps_add, show 256 * q = 16 * (16 * q) by omega, steps4_high, steps4_high]
/-- Bytes put together, the first one lowest. -/
def pack : List UInt8 → Nat
  | [] => 0
  | b :: r => b.toNat ^^^ 256 * pack r
theorem sum_pack (l : List UInt8) : ∀ c, sum c l = steps (8 * l.length) (c ^^^ pack l) := by
  induction l with
  | nil => intro c; simp [sum, pack, steps]
  | cons b r ih =>
    intro c
    show sum (byte c b) r = _
    rw [ih, byte]
    have e : steps 8 (c ^^^ b.toNat) ^^^ pack r = steps 8 (c ^^^ pack (b :: r)) := by
      rw [pack, ← Nat.xor_assoc, steps_lin 8 (c ^^^ b.toNat) (256 * pack r), steps8_high]
    rw [e, ← steps_add]
    congr 1
    simp
    omega
theorem pack_cons (b : UInt8) (r : List UInt8) : pack (b :: r) = 256 * pack r + b.toNat := by
  have h := b.toNat_lt
  have h1 := Nat.two_pow_add_eq_or_of_lt (i := 8) (b := b.toNat) h (pack r)
  rw [show (2 : Nat) ^ 8 = 256 from rfl] at h1
  rw [h1, pack]
  apply Nat.eq_of_testBit_eq
  intro i
  rw [Nat.testBit_xor, Nat.testBit_or]
  have h2 := Nat.testBit_two_pow_mul (i := 8) (a := pack r) (j := i)
  rw [show (2 : Nat) ^ 8 = 256 from rfl] at h2
  by_cases hi : 8 ≤ i
  · have h3 : b.toNat.testBit i = false := Nat.testBit_lt_two_pow (Nat.lt_of_lt_of_le h (Nat.pow_le_pow_right (by decide : (2 : Nat) > 0) hi))
    rw [h3]; simp
  · have h4 : (256 * pack r).testBit i = false := by rw [h2]; simp; omega
    rw [h4]; simp
theorem pack_inj : ∀ (a b : List UInt8), a.length = b.length → pack a = pack b → a = b
  | [], [], _, _ => rfl
  | x :: a, y :: b, hl, h => by
    rw [pack_cons, pack_cons] at h
    have hx := x.toNat_lt
    have hy := y.toNat_lt
    have e1 : x = y := UInt8.toNat_inj.1 (by omega)
    have e2 : a = b := pack_inj a b (by simpa using hl) (by omega)
    rw [e1, e2]
theorem pack_lt : ∀ (l : List UInt8), l.length ≤ 4 → pack l < 256 ^ l.length
  | [], _ => by decide
  | x :: a, h => by
    have ih := pack_lt a (by simp at h; omega)
    have hx := x.toNat_lt
    rw [pack_cons, List.length_cons, Nat.pow_succ]
    omega
theorem pack_lt32 (l : List UInt8) (h : l.length ≤ 4) : pack l < 4294967296 := by
  have h1 := pack_lt l h
  have h2 : 256 ^ l.length ≤ 256 ^ 4 := Nat.pow_le_pow_right (by decide) h
  rw [show (256 : Nat) ^ 4 = 4294967296 from rfl] at h2
  omega
theorem sum_append (c : Nat) (a b : List UInt8) : sum c (a ++ b) = sum (sum c a) b := by simp [sum, List.foldl_append]
theorem byte_inj {a b : Nat} (x : UInt8) (ha : a < 4294967296) (hb : b < 4294967296) (h : byte a x = byte b x) : a = b := by
  have hx : x.toNat < 4294967296 := by have := x.toNat_lt; omega
  exact xor_cancel (steps_inj 8 (xor_lt ha hx) (xor_lt hb hx) h)
theorem sum_inj (l : List UInt8) : ∀ {a b : Nat}, a < 4294967296 → b < 4294967296 → sum a l = sum b l → a = b := by
  induction l with
  | nil => intro a b _ _ h; exact h
  | cons x r ih => intro a b ha hb h; exact byte_inj x ha hb (ih (byte_lt x ha) (byte_lt x hb) h)
/-- Texts that are alike but for up to four bytes side by side. -/
theorem crc_unlike (p t u q : List UInt8) (hl : t.length = u.length) (h4 : t.length ≤ 4) (h : crc (p ++ t ++ q) = crc (p ++ u ++ q)) : t = u := by
  have hM : (4294967295 : Nat) < 4294967296 := by decide
  have hp := sum_lt p hM
  have h1 := sum_lt (p ++ t ++ q) hM
  have h2 := sum_lt (p ++ u ++ q) hM
  have h3 : sum 4294967295 (p ++ t ++ q) = sum 4294967295 (p ++ u ++ q) := by unfold crc at h; omega
  rw [sum_append, sum_append, sum_append, sum_append] at h3
  have h5 := sum_inj q (sum_lt t hp) (sum_lt u hp) h3
  rw [sum_pack t, sum_pack u, hl] at h5
  have h6 := steps_inj _ (xor_lt hp (pack_lt32 t h4)) (xor_lt hp (pack_lt32 u (by omega))) h5
  rw [Nat.xor_comm _ (pack t), Nat.xor_comm _ (pack u)] at h6
  exact pack_inj t u hl (xor_cancel h6)
end Go.Proofs.YtafakljfhgabeaaDoor.Crc
