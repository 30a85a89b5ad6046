/- The check sum: plain numbers. -/
import Derived.WalkKit
import Derived.Laws.BitsAllLaws
namespace Go.Proofs.YtlpillpfahkjdaaDoor.Crc

/-- One shift. -/
def step (c : Nat) : Nat := if c % 2 = 1 then (c / 2) ^^^ 3988292384 else c / 2
def steps : Nat → Nat → Nat
  | 0, c => c
  | n + 1, c => steps n (step c)
/-- A byte more. -/
def byte (c : Nat) (b : UInt8) : Nat := steps 8 (c ^^^ b.toNat)
def sum (c : Nat) (l : List UInt8) : Nat := l.foldl byte c
/-- The check sum. -/
def crc (l : List UInt8) : Nat := 4294967295 - sum 4294967295 l
def nib : List Nat := [0, 498536548, 997073096, 651767980, 1994146192, 1802195444, 1303535960, 1342533948, 3988292384, 4027552580, 3604390888, 3412177804, 2607071920, 2262029012, 2685067896, 3183342108]

/-- The table's number at i. -/
def nibAt (i : Nat) : Nat := nib.getD i 0
theorem steps_add (m n c : Nat) : steps (m + n) c = steps n (steps m c) := by
  induction m generalizing c with
  | zero => rw [Nat.zero_add]; rfl
  | succ m ih => rw [Nat.succ_add]; exact ih _

theorem step_lin (a b : Nat) : step (a ^^^ b) = step a ^^^ step b := by
  have h1 : (a ^^^ b) / 2 = a / 2 ^^^ b / 2 := Nat.xor_div_two
  have h2 : (a ^^^ b) % 2 = (a + b) % 2 := by
    have := Nat.xor_mod_two_eq_one (a := a) (b := b)
    omega
  unfold step
  rw [h1, h2]
  by_cases ha : a % 2 = 1 <;> by_cases hb : b % 2 = 1
  · rw [if_neg (by omega), if_pos ha, if_pos hb]
    rw [Nat.xor_assoc, Nat.xor_comm (b / 2), ← Nat.xor_assoc 3988292384, Nat.xor_self, Nat.zero_xor]
  · rw [if_pos (by omega), if_pos ha, if_neg hb, Nat.xor_assoc, Nat.xor_assoc, Nat.xor_comm (b / 2)]
  · rw [if_pos (by omega), if_neg ha, if_pos hb, Nat.xor_assoc]
  · rw [if_neg (by omega), if_neg ha, if_neg hb]
theorem steps_lin (n a b : Nat) : steps n (a ^^^ b) = steps n a ^^^ steps n b := by
  induction n generalizing a b with
  | zero => rfl
  | succ n ih => rw [steps, step_lin, ih]; rfl
theorem step_lt {c : Nat} (h : c < 4294967296) : step c < 4294967296 := by
  unfold step
  split
  · exact Nat.xor_lt_two_pow (n := 32) (by omega) (by decide)
  · omega
theorem steps_lt {n c : Nat} (h : c < 4294967296) : steps n c < 4294967296 := by
  induction n generalizing c with
  | zero => exact h
  | succ n ih => exact ih (step_lt h)
theorem xor_lt {a b : Nat} (ha : a < 4294967296) (hb : b < 4294967296) : a ^^^ b < 4294967296 := Nat.xor_lt_two_pow (n := 32) ha hb
theorem byte_lt {c : Nat} (b : UInt8) (h : c < 4294967296) : byte c b < 4294967296 := steps_lt (xor_lt h (by have := b.toNat_lt; omega))
theorem sum_lt {c : Nat} (l : List UInt8) (h : c < 4294967296) : sum c l < 4294967296 := by
  induction l generalizing c with
  | nil => exact h
  | cons b r ih => exact ih (byte_lt b h)

theorem split16 (q r : Nat) (h : r < 16) : 16 * q + r = (16 * q) ^^^ r := by
  apply Nat.eq_of_testBit_eq
  intro i
  have h1 := Nat.testBit_two_pow_mul_add q (i := 4) (b := r) h i
  have h2 := Nat.testBit_two_pow_mul (a := q) (i := 4) (j := i)
  rw [Nat.testBit_xor]
  simp only [show (2 : Nat) ^ 4 = 16 from rfl] at h1 h2
  rw [h1, h2]
  by_cases hi : i < 4
  · have e : decide (i ≥ 4) = false := decide_eq_false (by omega)
    rw [if_pos hi, e]
    simp
  · have e : decide (i ≥ 4) = true := decide_eq_true (by omega)
    have hr : r.testBit i = false := Nat.testBit_lt_two_pow (Nat.lt_of_lt_of_le h (Nat.pow_le_pow_right (by decide : (2 : Nat) > 0) (by omega : 4 ≤ i)))
    rw [if_neg hi, e, hr]
    simp
theorem steps4_high (q : Nat) : steps 4 (16 * q) = q := by
  simp only [steps]
  have e1 : step (16 * q) = 8 * q := by unfold step; rw [if_neg (by omega)]; omega
  have e2 : step (8 * q) = 4 * q := by unfold step; rw [if_neg (by omega)]; omega
  have e3 : step (4 * q) = 2 * q := by unfold step; rw [if_neg (by omega)]; omega
  have e4 : step (2 * q) = q := by unfold step; rw [if_neg (by omega)]; omega
  rw [e1, e2, e3, e4]
theorem steps4_low : ∀ r : Fin 16, steps 4 r.val = nibAt r.val := by decide +kernel
theorem steps4 (d : Nat) : steps 4 d = (d / 16) ^^^ nibAt (d % 16) := by
  have e : d = 16 * (d / 16) + d % 16 := by omega
  conv => lhs; rw [e]
  rw [split16 _ _ (by omega), steps_lin, steps4_high, steps4_low ⟨d % 16, by omega⟩]
theorem nib_lt (i : Nat) : nibAt i < 4294967296 := by
  by_cases h : i < 16
  · exact (by decide +kernel : ∀ r : Fin 16, nibAt r.val < 4294967296) ⟨i, h⟩
  · simp [nibAt, List.getD, List.getElem?_eq_none (show nib.length ≤ i by simp [nib]; omega)]
/-- Two steps by the table. -/
theorem byte_nib (c : Nat) (b : UInt8) (d e : Nat) (hd : d = c ^^^ b.toNat) (he : e = (d / 16) ^^^ nibAt (d % 16)) : byte c b = (e / 16) ^^^ nibAt (e % 16) := by
  unfold byte
  rw [← hd, show (8 : Nat) = 4 + 4 from rfl, steps_add, steps4 d, ← he, steps4]
theorem sum_snoc (c : Nat) (l : List UInt8) (b : UInt8) : sum c (l ++ [b]) = byte (sum c l) b := by simp [sum]
theorem steps_last (n c : Nat) : steps (n + 1) c = step (steps n c) := steps_add n 1 c
theorem way64 (c : Nat) (b : UInt8) (hc : c < 4294967296) : ∃ d : Nat, d < 4294967296 ∧ bits BinOp.xor IntKind.u64 (c : Int) (b.toNat : Int) = (d : Int) ∧ byte c b = steps 8 d := by
  have hb : b.toNat < 4294967296 := by have := b.toNat_lt; omega
  exact ⟨c ^^^ b.toNat, xor_lt hc hb, u64_xor_nat _ _ (by omega) (by omega), rfl⟩
theorem step64 (c : Nat) (hc : c < 4294967296) : ∃ d : Nat, d < 4294967296 ∧ bits BinOp.xor IntKind.u64 ((c : Int) / 2) 3988292384 = (d : Int) ∧ step c = if c % 2 = 1 then d else c / 2 :=
  ⟨(c / 2) ^^^ 3988292384, xor_lt (by omega) (by decide), u64_xor_nat (c / 2) 3988292384 (by omega) (by decide), rfl⟩
/-- The numbers on the way of a byte, as a walk meets them. -/
theorem way (c : Nat) (b : UInt8) (hc : c < 4294967296) : ∃ d m e n f : Nat, d < 4294967296 ∧ m < 16 ∧ e < 4294967296 ∧ n < 16 ∧ bits BinOp.xor IntKind.u32 (c : Int) (b.toNat : Int) = (d : Int) ∧ bits BinOp.and IntKind.u32 (d : Int) 15 = (m : Int) ∧
    bits BinOp.xor IntKind.u32 ((d : Int) / 16) ((nibAt m : Nat) : Int) = (e : Int) ∧ bits BinOp.and IntKind.u32 (e : Int) 15 = (n : Int) ∧ bits BinOp.xor IntKind.u32 ((e : Int) / 16) ((nibAt n : Nat) : Int) = (f : Int) ∧ f = byte c b := by
  have hb : b.toNat < 4294967296 := by have := b.toNat_lt; omega
  have hd := xor_lt hc hb
  have and15 : ∀ x : Nat, x < 4294967296 → bits BinOp.and IntKind.u32 (x : Int) 15 = ((x % 16 : Nat) : Int) := fun x hx => by
    have h := u32_and_nat x 15 hx (by decide)
    rw [show x &&& 15 = x % 16 from Nat.and_two_pow_sub_one_eq_mod x 4] at h
    exact h
  have xr : ∀ x m : Nat, x < 4294967296 → bits BinOp.xor IntKind.u32 ((x : Int) / 16) ((nibAt m : Nat) : Int) = (((x / 16) ^^^ nibAt m : Nat) : Int) := fun x m hx =>
    u32_xor_nat (x / 16) _ (by omega) (nib_lt m)
  have he : ((c ^^^ b.toNat) / 16) ^^^ nibAt ((c ^^^ b.toNat) % 16) < 4294967296 := xor_lt (by omega) (nib_lt _)
  exact ⟨c ^^^ b.toNat, (c ^^^ b.toNat) % 16, ((c ^^^ b.toNat) / 16) ^^^ nibAt ((c ^^^ b.toNat) % 16), _, _, hd, Nat.mod_lt _ (by decide), he, Nat.mod_lt _ (by decide),
    u32_xor_nat c b.toNat hc hb, and15 _ hd, xr _ _ hd, and15 _ he, xr _ _ he, (byte_nib c b _ _ rfl rfl).symm⟩
theorem turn (x : Nat) (h : x < 4294967296) : bits BinOp.xor IntKind.u32 IntKind.u32.max (x : Int) = ((4294967295 - x : Nat) : Int) := by
  have hm : IntKind.u32.max = ((4294967295 : Nat) : Int) := by decide
  rw [hm, u32_xor_nat _ _ (by decide) h]
  congr 1
  apply Nat.eq_of_testBit_eq
  intro i
  have h1 := Nat.testBit_two_pow_sub_succ (n := 32) (x := x) h i
  rw [show (4294967295 - x : Nat) = 2 ^ 32 - (x + 1) by omega, h1, Nat.testBit_xor]
  have h2 := Nat.testBit_two_pow_sub_one 32 i
  rw [show (2 : Nat) ^ 32 - 1 = 4294967295 from rfl] at h2
  rw [h2]
  by_cases hi : i < 32
  · simp [hi]
  · have hx : x.testBit i = false := Nat.testBit_lt_two_pow (Nat.lt_of_lt_of_le h (Nat.pow_le_pow_right (by decide : (2 : Nat) > 0) (by omega : 32 ≤ i)))
    simp [hi, hx]
end Go.Proofs.YtlpillpfahkjdaaDoor.Crc
