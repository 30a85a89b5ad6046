/- Lists of digits to the base 256, the least one first, and the numbers that they stand for. -/
import Derived.Test.YtlllcdjcihnkdaaDoorShaMath
namespace Go.Proofs.YtlllcdjcihnkdaaDoor
namespace Dg

def val : List Nat → Nat
  | [] => 0
  | x :: l => x + 256 * val l
/-- Each digit is at most B. -/
def Le (l : List Nat) (B : Nat) : Prop := ∀ i, l.getD i 0 ≤ B
/-- Each digit is one. -/
def Ok (l : List Nat) : Prop := ∀ i, l.getD i 0 < 256

theorem Le.mono {l : List Nat} {B C : Nat} (h : Le l B) (hc : B ≤ C) : Le l C := fun i => Nat.le_trans (h i) hc
theorem getD_over (l : List Nat) (i : Nat) (h : l.length ≤ i) : l.getD i 0 = 0 := by
  rw [List.getD_eq_getElem?_getD, List.getElem?_eq_none h]; rfl
theorem getD_at (l : List Nat) (i : Nat) (h : i < l.length) : l.getD i 0 = l[i] := by
  rw [List.getD_eq_getElem?_getD, List.getElem?_eq_getElem h]; rfl
theorem getD_set_same (l : List Nat) (i x : Nat) (h : i < l.length) : (l.set i x).getD i 0 = x := by
  rw [getD_at _ _ (by rw [List.length_set]; exact h), List.getElem_set_self]
theorem getD_set_other (l : List Nat) (i j x : Nat) (h : i ≠ j) : (l.set i x).getD j 0 = l.getD j 0 := by
  rw [List.getD_eq_getElem?_getD, List.getD_eq_getElem?_getD, List.getElem?_set_ne h]
theorem getD_replicate (n i : Nat) : (List.replicate n 0).getD i 0 = 0 := by
  rw [List.getD_eq_getElem?_getD, List.getElem?_replicate]; split <;> rfl

theorem val_replicate (n : Nat) : val (List.replicate n 0) = 0 := by
  induction n with
  | zero => rfl
  | succ n ih => rw [List.replicate_succ, val, ih]
theorem val_append (a b : List Nat) : val (a ++ b) = val a + 256 ^ a.length * val b := by
  induction a with
  | nil => simp [val]
  | cons x a ih =>
    rw [List.cons_append, val, val, ih, List.length_cons, Nat.pow_succ, Nat.mul_add, Nat.mul_comm (256 ^ a.length) 256, Nat.mul_assoc, Nat.add_assoc]
theorem val_set (l : List Nat) : ∀ (i x : Nat), i < l.length → val (l.set i x) + l.getD i 0 * 256 ^ i = val l + x * 256 ^ i := by
  induction l with
  | nil => intro i x h; exact absurd h (Nat.not_lt_zero _)
  | cons y l ih =>
    intro i x h
    cases i with
    | zero => simp only [List.set_cons_zero, val, List.getD_cons_zero, Nat.pow_zero, Nat.mul_one]; omega
    | succ i =>
      have := ih i x (by simpa using h)
      simp only [List.set_cons_succ, val, List.getD_cons_succ, Nat.pow_succ]
      have e1 : l.getD i 0 * (256 ^ i * 256) = 256 * (l.getD i 0 * 256 ^ i) := by rw [← Nat.mul_assoc, Nat.mul_comm]
      have e2 : x * (256 ^ i * 256) = 256 * (x * 256 ^ i) := by rw [← Nat.mul_assoc, Nat.mul_comm]
      rw [e1, e2]
      omega
theorem val_take_succ (l : List Nat) (i : Nat) (h : i < l.length) : val (l.take (i + 1)) = val (l.take i) + l.getD i 0 * 256 ^ i := by
  rw [List.take_succ_eq_append_getElem h, val_append, List.length_take, Nat.min_eq_left (Nat.le_of_lt h), getD_at l i h]
  simp only [val, Nat.mul_zero, Nat.add_zero]
  rw [Nat.mul_comm]
theorem val_lt (l : List Nat) (h : ∀ x ∈ l, x < 256) : val l < 256 ^ l.length := by
  induction l with
  | nil => decide
  | cons x l ih =>
    have h1 := h x (.head _)
    have h2 := ih (fun y hy => h y (.tail _ hy))
    rw [List.length_cons, Nat.pow_succ, val]
    omega
theorem Ok.mem {l : List Nat} (h : Ok l) : ∀ x ∈ l, x < 256 := by
  intro x hx
  obtain ⟨i, hi, rfl⟩ := List.getElem_of_mem hx
  have := h i
  rwa [getD_at l i hi] at this
theorem Ok.lt {l : List Nat} (h : Ok l) : val l < 256 ^ l.length := val_lt l h.mem
theorem Ok.take {l : List Nat} (h : Ok l) (m : Nat) : ∀ x ∈ l.take m, x < 256 := fun x hx => h.mem x (List.mem_of_mem_take hx)
theorem Ok.drop {l : List Nat} (h : Ok l) (m : Nat) : val l / 256 ^ m = val (l.drop m) := by
  rcases Nat.lt_or_ge m l.length with hm | hm
  · have e := val_append (l.take m) (l.drop m)
    rw [List.take_append_drop, List.length_take, Nat.min_eq_left (Nat.le_of_lt hm)] at e
    have h1 := val_lt (l.take m) (h.take m)
    rw [List.length_take, Nat.min_eq_left (Nat.le_of_lt hm)] at h1
    rw [e, Nat.add_mul_div_left _ _ (Nat.two_pow_pos 8 |> fun h => Nat.pow_pos (n := m) h), Nat.div_eq_of_lt h1, Nat.zero_add]
  · rw [List.drop_eq_nil_of_le hm]
    have h1 := h.lt
    have h2 : 256 ^ l.length ≤ 256 ^ m := Nat.pow_le_pow_right (by decide) hm
    rw [Nat.div_eq_of_lt (by omega)]; rfl
theorem Ok.digit {l : List Nat} (h : Ok l) (m : Nat) : l.getD m 0 = val l / 256 ^ m % 256 := by
  rw [h.drop m]
  rcases Nat.lt_or_ge m l.length with hm | hm
  · rw [List.drop_eq_getElem_cons hm, val, getD_at l m hm]
    have := h m
    rw [getD_at l m hm] at this
    omega
  · rw [List.drop_eq_nil_of_le hm, getD_over l m hm]; rfl
theorem Ok.over {l : List Nat} (h : Ok l) (m : Nat) (hm : l.length ≤ m) : val l / 256 ^ m = 0 := by
  rw [h.drop m, List.drop_eq_nil_of_le hm]; rfl

/-- What is above digit i, and that digit. -/
theorem step_down (A : Nat) (i : Nat) : A / 256 ^ i = A / 256 ^ i % 256 + 256 * (A / 256 ^ (i + 1)) := by
  rw [Nat.pow_succ, ← Nat.div_div_eq_div_mul]
  have := Nat.mod_add_div (A / 256 ^ i) 256
  omega
theorem gt_of_div {A B k : Nat} (h : B / k < A / k) : B < A := by
  rcases Nat.lt_or_ge B A with h1 | h1
  · exact h1
  · have := Nat.div_le_div_right (c := k) h1
    omega

/-! times -/
/-- One digit of a product, added. -/
theorem prod_step (o : List Nat) (k c : Nat) (hk : k < o.length) : val (o.set k (o.getD k 0 + c)) = val o + c * 256 ^ k := by
  have := val_set o k (o.getD k 0 + c) hk
  rw [Nat.add_mul] at this
  omega
theorem Le.add {o : List Nat} {B k c : Nat} (h : Le o B) (C : Nat) (hc : B + c ≤ C) : Le (o.set k (o.getD k 0 + c)) C := by
  intro i
  rcases Nat.lt_or_ge k o.length with hk | hk
  · by_cases e : k = i
    · subst e
      rw [getD_set_same _ _ _ hk]
      have := h k
      omega
    · rw [getD_set_other _ _ _ _ e]
      have := h i
      omega
  · rw [List.set_eq_of_length_le hk]
    have := h i
    omega
theorem carry_step (o : List Nat) (i : Nat) (hi : i + 1 < o.length) :
    val ((o.set (i + 1) (o.getD (i + 1) 0 + o.getD i 0 / 256)).set i (o.getD i 0 % 256)) = val o := by
  have h1 := prod_step o (i + 1) (o.getD i 0 / 256) hi
  have h2 := val_set (o.set (i + 1) (o.getD (i + 1) 0 + o.getD i 0 / 256)) i (o.getD i 0 % 256) (by rw [List.length_set]; omega)
  rw [getD_set_other _ _ _ _ (by omega), h1] at h2
  have h3 := Nat.mod_add_div (o.getD i 0) 256
  have e1 : o.getD i 0 / 256 * 256 ^ (i + 1) = 256 * (o.getD i 0 / 256) * 256 ^ i := by
    rw [Nat.pow_succ, Nat.mul_comm (256 ^ i) 256, ← Nat.mul_assoc, Nat.mul_comm _ 256]
  rw [e1] at h2
  have e2 : o.getD i 0 * 256 ^ i = o.getD i 0 % 256 * 256 ^ i + 256 * (o.getD i 0 / 256) * 256 ^ i := by
    rw [← Nat.add_mul, h3]
  omega
/-- What the carries have reached. -/
def Carried (o : List Nat) (i C : Nat) : Prop := (∀ m, m < i → o.getD m 0 < 256) ∧ o.getD i 0 ≤ 2 * C ∧ ∀ m, i < m → o.getD m 0 ≤ C
theorem Carried.start {o : List Nat} {C : Nat} (h : Le o C) : Carried o 0 C :=
  ⟨fun m hm => absurd hm (Nat.not_lt_zero m), Nat.le_trans (h 0) (by omega), fun m _ => h m⟩
theorem Carried.step {o : List Nat} {i C : Nat} (h : Carried o i C) (hi : i + 1 < o.length) :
    Carried ((o.set (i + 1) (o.getD (i + 1) 0 + o.getD i 0 / 256)).set i (o.getD i 0 % 256)) (i + 1) C := by
  obtain ⟨h1, h2, h3⟩ := h
  refine ⟨fun m hm => ?_, ?_, fun m hm => ?_⟩
  · by_cases e : i = m
    · subst e
      rw [getD_set_same _ _ _ (by rw [List.length_set]; omega)]
      omega
    · rw [getD_set_other _ _ _ _ e, getD_set_other _ _ _ _ (by omega)]
      exact h1 m (by omega)
  · rw [getD_set_other _ _ _ _ (by omega), getD_set_same _ _ _ hi]
    have := h3 (i + 1) (by omega)
    omega
  · rw [getD_set_other _ _ _ _ (by omega), getD_set_other _ _ _ _ (by omega)]
    exact h3 m (by omega)
theorem Carried.ok {o : List Nat} {i C : Nat} (h : Carried o i C) (hi : i + 1 = o.length) (hv : val o < 256 ^ o.length) : Ok o := by
  have hl : o.getD i 0 < 256 := by
    have e := val_take_succ o i (by omega)
    rw [hi, List.take_length] at e
    rcases Nat.lt_or_ge (o.getD i 0) 256 with h' | h'
    · exact h'
    · have := Nat.mul_le_mul_right (256 ^ i) h'
      rw [← hi, Nat.pow_succ, Nat.mul_comm (256 ^ i) 256] at hv
      omega
  intro m
  rcases Nat.lt_or_ge m i with hm | hm
  · exact h.1 m hm
  · rcases Nat.lt_or_ge i m with hm' | hm'
    · rw [getD_over o m (by omega)]; decide
    · obtain rfl : m = i := by omega
      exact hl
end Dg
end Go.Proofs.YtlllcdjcihnkdaaDoor
