/- The roots of the first primes, as numbers. -/
import Derived.Test.YtlllcdjcihnkdaaDoorDigits
namespace Go.Proofs.YtlllcdjcihnkdaaDoor
namespace Rt

/-- A root's bits, from the highest on, each as long as the power does not pass. -/
def search (power P : Nat) : Nat → Nat → Nat
  | 0, x => x
  | b + 1, x => search power P b (if (x + 2 ^ b) ^ power ≤ P then x + 2 ^ b else x)
def rootOf (power p : Nat) : Nat := search power (p * 256 ^ (4 * power)) 40 0
def IsRoot (power p X : Nat) : Prop := X ^ power ≤ p * 256 ^ (4 * power) ∧ p * 256 ^ (4 * power) < (X + 1) ^ power
instance (power p X : Nat) : Decidable (IsRoot power p X) := inferInstanceAs (Decidable (_ ∧ _))
theorem IsRoot.one {power p X Y : Nat} (hX : IsRoot power p X) (hY : IsRoot power p Y) : X = Y := by
  have key : ∀ A B : Nat, IsRoot power p A → IsRoot power p B → A ≤ B := by
    intro A B hA hB
    rcases Nat.lt_or_ge B A with h | h
    · have := Nat.pow_le_pow_left (show B + 1 ≤ A from h) power
      have h1 := hA.1
      have h2 := hB.2
      omega
    · exact h
  exact Nat.le_antisymm (key X Y hX hY) (key Y X hY hX)

def isPrime (p : Nat) : Bool := (List.range p).all fun d => decide (d < 2) || decide (p % d ≠ 0)
theorem isPrime_of (p : Nat) (h : ∀ d, 2 ≤ d → d < p → p % d ≠ 0) : isPrime p = true := by
  unfold isPrime
  rw [List.all_eq_true]
  intro d hd
  have := List.mem_range.1 hd
  rcases Nat.lt_or_ge d 2 with h2 | h2
  · simp [h2]
  · simp [h d h2 this]
theorem isPrime_not (p d : Nat) (h1 : 2 ≤ d) (h2 : d < p) (h3 : p % d = 0) : isPrime p = false := by
  rw [Bool.eq_false_iff]
  intro h
  unfold isPrime at h
  rw [List.all_eq_true] at h
  have := h d (List.mem_range.2 h2)
  simp only [Bool.or_eq_true, decide_eq_true_eq] at this
  omega

/-- The roots of the primes below p. -/
def roots (power : Nat) : Nat → List Nat
  | 0 => []
  | p + 1 => roots power p ++ (if 2 ≤ p ∧ isPrime p = true then [rootOf power p % 4294967296] else [])

theorem squares_are : roots 2 20 = Sha.H0.list := by decide +kernel
theorem cubes_are : roots 3 312 = Sha.cubes := by decide +kernel
/-- Up to where the primes go, and that their roots are such. -/
theorem squares_till : ∀ p, p < 20 → (roots 2 p).length < 8 := by decide +kernel
theorem cubes_till : ∀ p, p < 312 → (roots 3 p).length < 64 := by decide +kernel
theorem squares_ok : ∀ p, p < 20 → IsRoot 2 p (rootOf 2 p) := by decide +kernel
theorem cubes_ok : ∀ p, p < 312 → IsRoot 3 p (rootOf 3 p) := by decide +kernel
end Rt
end Go.Proofs.YtlllcdjcihnkdaaDoor
