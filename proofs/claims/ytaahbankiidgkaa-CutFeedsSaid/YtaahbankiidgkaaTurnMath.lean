/- Turned sums as pairs of whole numbers. -/
import Derived.Test.YtaahbankiidgkaaIeee
namespace Go.Proofs.Ytaahbankiidgkaa
namespace Tn
open Fx

/-- The unit's powers. -/
def ipow (n : Int) : Int × Int := if n % 4 = 0 then (1, 0) else if n % 4 = 1 then (0, 1) else if n % 4 = 2 then (-1, 0) else (0, -1)
def cmul (z w : Int × Int) : Int × Int := (z.1 * w.1 - z.2 * w.2, z.1 * w.2 + z.2 * w.1)
def step (z : Int × Int) (b : UInt8) : Int × Int := ((b.toNat : Int) - z.2, z.1)
def sum (l : List UInt8) : Int × Int := l.foldl step (0, 0)

theorem sum_snoc (l : List UInt8) (b : UInt8) : sum (l ++ [b]) = step (sum l) b := by
  simp [sum, List.foldl_append]

theorem ipow_cases (n : Int) : (n % 4 = 0 ∧ ipow n = (1, 0)) ∨ (n % 4 = 1 ∧ ipow n = (0, 1)) ∨ (n % 4 = 2 ∧ ipow n = (-1, 0)) ∨ (n % 4 = 3 ∧ ipow n = (0, -1)) := by
  have h1 : 0 ≤ n % 4 := Int.emod_nonneg _ (by decide)
  have h2 : n % 4 < 4 := Int.emod_lt_of_pos _ (by decide)
  have h : n % 4 = 0 ∨ n % 4 = 1 ∨ n % 4 = 2 ∨ n % 4 = 3 := by omega
  rcases h with h | h | h | h <;> simp [ipow, h]

theorem fold_bound (l : List UInt8) : ∀ (z : Int × Int) (B : Nat), z.1.natAbs ≤ B → z.2.natAbs ≤ B →
    (l.foldl step z).1.natAbs ≤ B + 255 * l.length ∧ (l.foldl step z).2.natAbs ≤ B + 255 * l.length := by
  induction l with
  | nil => intro z B h1 h2; exact ⟨by simpa using h1, by simpa using h2⟩
  | cons b l ih =>
    intro z B h1 h2
    have hb := b.toNat_lt
    have := ih (step z b) (B + 255) (by simp only [step]; omega) (by simp only [step]; omega)
    simp only [List.foldl_cons, List.length_cons]
    omega
theorem sum_bound (l : List UInt8) : (sum l).1.natAbs ≤ 255 * l.length ∧ (sum l).2.natAbs ≤ 255 * l.length := by
  have := fold_bound l (0, 0) 0 (by decide) (by decide)
  simpa [sum] using this
/-- A power of the unit, by cases. -/
theorem ipow_is (n : Int) : ∃ c d : Int, ipow n = (c, d) ∧ ((c = 1 ∧ d = 0) ∨ (c = 0 ∧ d = 1) ∨ (c = -1 ∧ d = 0) ∨ (c = 0 ∧ d = -1)) := by
  rcases ipow_cases n with ⟨_, h⟩ | ⟨_, h⟩ | ⟨_, h⟩ | ⟨_, h⟩ <;> exact ⟨_, _, h, by simp⟩
theorem cmul_bound (z : Int × Int) (n : Int) (B : Nat) (h1 : z.1.natAbs ≤ B) (h2 : z.2.natAbs ≤ B) : (cmul z (ipow n)).1.natAbs ≤ B ∧ (cmul z (ipow n)).2.natAbs ≤ B := by
  obtain ⟨c, d, h, hv⟩ := ipow_is n
  rw [h]; simp only [cmul]
  rcases hv with ⟨rfl, rfl⟩ | ⟨rfl, rfl⟩ | ⟨rfl, rfl⟩ | ⟨rfl, rfl⟩ <;> omega
theorem ipow_succ (n : Int) : ipow (n + 1) = (-(ipow n).2, (ipow n).1) := by
  rcases ipow_cases n with ⟨h0, h⟩ | ⟨h0, h⟩ | ⟨h0, h⟩ | ⟨h0, h⟩ <;> rw [h]
  · have : (n + 1) % 4 = 1 := by omega
    simp [ipow, this]
  · have : (n + 1) % 4 = 2 := by omega
    simp [ipow, this]
  · have : (n + 1) % 4 = 3 := by omega
    simp [ipow, this]
  · have : (n + 1) % 4 = 0 := by omega
    simp [ipow, this]
theorem cmul_step (z : Int × Int) (b : UInt8) (n : Int) :
    cmul (step z b) (ipow n) = ((cmul z (ipow (n + 1))).1 + b.toNat * (ipow n).1, (cmul z (ipow (n + 1))).2 + b.toNat * (ipow n).2) := by
  rw [ipow_succ]
  obtain ⟨c, d, h, hv⟩ := ipow_is n
  rw [h]; simp only [cmul, step]
  rcases hv with ⟨rfl, rfl⟩ | ⟨rfl, rfl⟩ | ⟨rfl, rfl⟩ | ⟨rfl, rfl⟩ <;> (congr 1 <;> omega)
theorem cmul_one (z : Int × Int) : cmul z (ipow 0) = z := by
  show (z.1 * 1 - z.2 * 0, z.1 * 0 + z.2 * 1) = z
  simp
theorem fold_any (l : List UInt8) : ∀ z : Int × Int, l.foldl step z = ((cmul z (ipow l.length)).1 + (sum l).1, (cmul z (ipow l.length)).2 + (sum l).2) := by
  induction l with
  | nil => intro z; show z = _; rw [List.length_nil]; show z = ((cmul z (ipow 0)).1 + 0, (cmul z (ipow 0)).2 + 0); rw [cmul_one]; simp
  | cons b l ih =>
    intro z
    have e0 : ∀ n : Int, cmul (0, 0) (ipow n) = (0, 0) := by
      intro n; simp only [cmul]; simp
    unfold sum
    simp only [List.foldl_cons, List.length_cons]
    rw [ih (step z b), ih (step (0, 0) b), cmul_step z b, cmul_step (0, 0) b, e0]
    have e : ((l.length + 1 : Nat) : Int) = l.length + 1 := by omega
    rw [e]
    congr 1 <;> simp only [] <;> omega
theorem sum_append (l m : List UInt8) : sum (l ++ m) = ((cmul (sum l) (ipow m.length)).1 + (sum m).1, (cmul (sum l) (ipow m.length)).2 + (sum m).2) := by
  unfold sum; rw [List.foldl_append, fold_any]; rfl
theorem sum_cons (o : UInt8) (m : List UInt8) : sum (o :: m) = ((cmul (o.toNat, 0) (ipow m.length)).1 + (sum m).1, (cmul (o.toNat, 0) (ipow m.length)).2 + (sum m).2) := by
  unfold sum; rw [List.foldl_cons, fold_any]; rfl
theorem ipow_neg (n : Int) (z : Int × Int) : cmul (cmul z (ipow n)) (ipow (-n)) = z := by
  rcases ipow_cases n with ⟨h0, h⟩ | ⟨h0, h⟩ | ⟨h0, h⟩ | ⟨h0, h⟩ <;> rw [h]
  · have : ipow (-n) = (1, 0) := by unfold ipow; rw [if_pos (by omega)]
    rw [this]; simp [cmul]
  · have : ipow (-n) = (0, -1) := by unfold ipow; rw [if_neg (by omega), if_neg (by omega), if_neg (by omega)]
    rw [this]; simp [cmul]
  · have : ipow (-n) = (-1, 0) := by unfold ipow; rw [if_neg (by omega), if_neg (by omega), if_pos (by omega)]
    rw [this]; simp [cmul]
  · have : ipow (-n) = (0, 1) := by unfold ipow; rw [if_neg (by omega), if_pos (by omega)]
    rw [this]; simp [cmul]
theorem ipow_four (n : Int) : ipow (n + 4) = ipow n := by
  unfold ipow; rw [show (n + 4) % 4 = n % 4 by omega]
theorem four (n : Int) : cmul (cmul (cmul (ipow n) (ipow n)) (ipow n)) (ipow n) = (1, 0) := by
  obtain ⟨c, d, h, hv⟩ := ipow_is n
  rw [h]
  rcases hv with ⟨rfl, rfl⟩ | ⟨rfl, rfl⟩ | ⟨rfl, rfl⟩ | ⟨rfl, rfl⟩ <;> rfl
end Tn
end Go.Proofs.Ytaahbankiidgkaa
