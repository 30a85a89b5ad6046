/- The reference's search for a root, step by step. -/
import Derived.Test.YtlllcdjcihnkdaaDoorRootMath
namespace Go.Proofs.YtlllcdjcihnkdaaDoor
namespace Rt

theorem start (power p : Nat) (h2 : 2 ≤ power) (hp : p < 65536) : p * 256 ^ (4 * power) < (256 ^ 5) ^ power := by
  rw [← Nat.pow_mul, show 5 * power = power + 4 * power by omega, Nat.pow_add]
  have h1 : 256 ^ 2 ≤ 256 ^ power := Nat.pow_le_pow_right (by decide) h2
  exact Nat.mul_lt_mul_of_pos_right (Nat.lt_of_lt_of_le hp h1) (Nat.pow_pos (by decide))

/-- Digits from n on are found. -/
def St (power P n : Nat) (lx : List Nat) : Prop := lx.length = 5 ∧ Dg.Ok lx ∧ (∀ m, m < n → lx.getD m 0 = 0) ∧ Dg.val lx ^ power ≤ P ∧ P < (Dg.val lx + 256 ^ n) ^ power
theorem St.zero (power p : Nat) (h2 : 2 ≤ power) (hp : p < 65536) : St power (p * 256 ^ (4 * power)) 5 (List.replicate 5 0) := by
  refine ⟨rfl, fun i => ?_, fun m _ => Dg.getD_replicate 5 m, ?_, ?_⟩
  · rw [Dg.getD_replicate]; decide
  · rw [Dg.val_replicate, Nat.zero_pow (by omega)]; exact Nat.zero_le _
  · rw [Dg.val_replicate, Nat.zero_add]; exact start power p h2 hp
theorem val_digit {lx : List Nat} {j : Nat} (h5 : lx.length = 5) (hj : j < 5) (h0 : lx.getD j 0 = 0) (c : Nat) : Dg.val (lx.set j c) = Dg.val lx + c * 256 ^ j := by
  have := Dg.val_set lx j c (by omega)
  rw [h0, Nat.zero_mul] at this
  omega
theorem ok_set {lx : List Nat} (h : Dg.Ok lx) (j c : Nat) (hc : c < 256) : Dg.Ok (lx.set j c) := by
  intro i
  by_cases e : j = i
  · subst e
    rcases Nat.lt_or_ge j lx.length with hl | hl
    · rw [Dg.getD_set_same _ _ _ hl]; exact hc
    · rw [List.set_eq_of_length_le hl]; exact h j
  · rw [Dg.getD_set_other _ _ _ _ e]; exact h i
theorem St.from {power P j : Nat} {lx : List Nat} (h : St power P (j + 1) lx) : (Dg.val lx + 0 * 256 ^ j) ^ power ≤ P ∧ P < (Dg.val lx + 256 * 256 ^ j) ^ power := by
  refine ⟨?_, ?_⟩
  · rw [Nat.zero_mul, Nat.add_zero]; exact h.2.2.2.1
  · rw [Nat.mul_comm, ← Nat.pow_succ]; exact h.2.2.2.2
theorem St.next {power P j a : Nat} {lx : List Nat} (h : St power P (j + 1) lx) (hj : j < 5) (ha : a < 256) (h1 : (Dg.val lx + a * 256 ^ j) ^ power ≤ P) (h2 : P < (Dg.val lx + (a + 1) * 256 ^ j) ^ power) :
    St power P j (lx.set j a) := by
  have hv := val_digit h.1 hj (h.2.2.1 j (by omega)) a
  refine ⟨by rw [List.length_set]; exact h.1, ok_set h.2.1 j a ha, fun m hm => ?_, ?_, ?_⟩
  · rw [Dg.getD_set_other _ _ _ _ (by omega)]; exact h.2.2.1 m (by omega)
  · rw [hv]; exact h1
  · rw [hv]
    rw [Nat.add_mul, Nat.one_mul, ← Nat.add_assoc] at h2
    exact h2
theorem St.root {power p : Nat} {lx : List Nat} (h : St power (p * 256 ^ (4 * power)) 0 lx) : IsRoot power p (Dg.val lx) := ⟨h.2.2.2.1, by have := h.2.2.2.2; rwa [Nat.pow_zero] at this⟩
theorem set_here {lx : List Nat} {j : Nat} (h0 : lx.getD j 0 = 0) : lx.set j 0 = lx := by
  apply List.ext_getElem?
  intro i
  by_cases e : j = i
  · subst e
    rcases Nat.lt_or_ge j lx.length with hl | hl
    · rw [List.getElem?_set_self hl, List.getElem?_eq_getElem hl]
      rw [Dg.getD_at lx j hl] at h0
      rw [h0]
    · rw [List.set_eq_of_length_le hl]
  · rw [List.getElem?_set_ne e]
/-- The four digits below. -/
theorem four {lx : List Nat} (h5 : lx.length = 5) (hk : Dg.Ok lx) : ((lx.getD 3 0 * 256 + lx.getD 2 0) * 256 + lx.getD 1 0) * 256 + lx.getD 0 0 = Dg.val lx % 4294967296 := by
  match lx, h5 with
  | [a, b, c, d, e], _ =>
    have h0 := hk 0
    have h1 := hk 1
    have h2 := hk 2
    have h3 := hk 3
    simp only [List.getD_cons_zero, List.getD_cons_succ] at h0 h1 h2 h3 ⊢
    simp only [Dg.val]
    omega
/-- What stands above the point, and below it. -/
theorem most_val (power p : Nat) : Dg.val (List.replicate (4 * power) 0 ++ [p % 256, p / 256]) = p * 256 ^ (4 * power) := by
  rw [Dg.val_append, Dg.val_replicate, List.length_replicate, Nat.zero_add, Nat.mul_comm]
  congr 1
  simp only [Dg.val]
  omega
theorem most_ok (power p : Nat) (hp : p < 65536) : Dg.Ok (List.replicate (4 * power) 0 ++ [p % 256, p / 256]) := by
  intro i
  rw [List.getD_eq_getElem?_getD]
  rcases Nat.lt_or_ge i (4 * power) with h | h
  · rw [List.getElem?_append_left (by rw [List.length_replicate]; exact h), List.getElem?_replicate, if_pos h]; decide
  · rw [List.getElem?_append_right (by rw [List.length_replicate]; exact h), List.length_replicate]
    have hc : i - 4 * power = 0 ∨ i - 4 * power = 1 ∨ 2 ≤ i - 4 * power := by omega
    rcases hc with e | e | e
    · rw [e]; show p % 256 < 256; omega
    · rw [e]; show p / 256 < 256; omega
    · rw [List.getElem?_eq_none (by simpa using e)]; decide
end Rt
end Go.Proofs.YtlllcdjcihnkdaaDoor
