/- Elder texts, merged (9). -/
import Derived.Test.YtahnhhhhfioibaaGreatDoorG3
import Derived.Laws.BitsAllLaws
import Derived.Lib.Tables
import Derived.Lib.BitFns
namespace Go.Proofs.YtahnhhhhfioibaaGreatDoor
namespace Rm
open Wl (Text)

/-! ### Bits. -/
def bitAt (s : Text) (k : Nat) : Bool := (s.getD (k / 8) 0).toNat.testBit (k % 8)
def flip (s : Text) (k : Nat) : Text := s.set (k / 8) (s.getD (k / 8) 0 ^^^ UInt8.ofNat (2 ^ (k % 8)))
theorem flip_length (s : Text) (k : Nat) : (flip s k).length = s.length := List.length_set
theorem testBit_pow (i j : Nat) : (2 ^ i).testBit j = decide (j = i) := by
  rw [Nat.testBit_two_pow]
  by_cases h : i = j
  · rw [h]
  · rw [decide_eq_false h, decide_eq_false fun e => h e.symm]
theorem bitAt_flip (s : Text) {k : Nat} (hk : k / 8 < s.length) (j : Nat) : bitAt (flip s k) j = if j = k then !bitAt s j else bitAt s j := by
  unfold bitAt flip
  have hp : 2 ^ (k % 8) < 256 := by
    have : 2 ^ (k % 8) ≤ 2 ^ 7 := Nat.pow_le_pow_right (by decide) (by omega)
    omega
  by_cases h : j / 8 = k / 8
  · rw [h, List.getD_eq_getElem?_getD, List.getElem?_set_self hk, Option.getD_some, UInt8.toNat_xor, Nat.testBit_xor, UInt8.toNat_ofNat', Nat.mod_eq_of_lt hp, testBit_pow]
    by_cases e : j = k
    · rw [if_pos e, e, decide_eq_true rfl, Bool.xor_true]
    · rw [if_neg e, decide_eq_false (by omega), Bool.xor_false]
  · rw [List.getD_eq_getElem?_getD, List.getElem?_set_ne (by omega), ← List.getD_eq_getElem?_getD, if_neg (by rintro rfl; exact h rfl)]
/-- How many of the first n bits are 1. -/
def count (s : Text) : Nat → Nat
  | 0 => 0
  | n + 1 => count s n + (bitAt s n).toNat
theorem count_le (s : Text) : ∀ n, count s n ≤ n
  | 0 => Nat.le_refl _
  | n + 1 => by have := count_le s n; have := Bool.toNat_le (bitAt s n); show count s n + _ ≤ _; omega
/-- Of a byte's bits. -/
def ones (b n : Nat) : Nat := ((List.range n).filter fun i => b.testBit i).length
def ones8 (b : Nat) : Nat := ones b 8
theorem ones_succ (b n : Nat) : ones b (n + 1) = ones b n + (b.testBit n).toNat := by
  unfold ones
  rw [List.range_succ, List.filter_append, List.length_append, List.filter_cons, List.filter_nil]
  cases b.testBit n <;> rfl
theorem count_add (s : Text) (k : Nat) : ∀ n, n ≤ 8 → count s (8 * k + n) = count s (8 * k) + ones (s.getD k 0).toNat n
  | 0, _ => rfl
  | n + 1, h => by
    show count s (8 * k + n) + (bitAt s (8 * k + n)).toNat = _
    rw [count_add s k n (by omega), ones_succ]
    unfold bitAt
    rw [show (8 * k + n) / 8 = k by omega, show (8 * k + n) % 8 = n by omega, Nat.add_assoc]
theorem ones_low (b n : Nat) (hn : n ≤ 8) : ones (b % 2 ^ n) 8 = ones b n := by
  have key : ∀ m, ones (b % 2 ^ n) m = ones b (min m n) := by
    intro m
    induction m with
    | zero => rw [Nat.zero_min]; rfl
    | succ m ih =>
      rw [ones_succ, ih, Nat.testBit_mod_two_pow]
      by_cases h : m < n
      · rw [decide_eq_true h, Bool.true_and, Nat.min_eq_left (by omega), Nat.min_eq_left (by omega : m + 1 ≤ n), ones_succ]
      · rw [decide_eq_false h, Bool.false_and, Nat.min_eq_right (by omega), Nat.min_eq_right (by omega : n ≤ m + 1)]
        rfl
  rw [key, Nat.min_eq_right hn]
/-- The first bit that is 0. -/
def IsFirst (s : Text) (f : Nat) : Prop := (∀ j, j < f → bitAt s j = true) ∧ f ≤ 8 * s.length ∧ (f < 8 * s.length → bitAt s f = false)

/-! ### Numbers. -/
def numUp (s : Text) (k : Nat) : Nat → Nat
  | 0 => 0
  | i + 1 => numUp s k i * 256 + (s.getD (8 * k + i) 0).toNat
def num (s : Text) (k : Nat) : Nat := numUp s k 8
theorem numUp_lt (s : Text) (k : Nat) : ∀ i, numUp s k i < 256 ^ i
  | 0 => Nat.one_pos
  | i + 1 => by
    have := numUp_lt s k i
    have h2 : (s.getD (8 * k + i) 0).toNat < 256 := UInt8.toNat_lt _
    show numUp s k i * 256 + _ < _
    rw [Nat.pow_succ]
    omega
def putUp (s : Text) (k n : Nat) : Nat → Text
  | 0 => s
  | i + 1 => (putUp s k n i).set (8 * k + i) (UInt8.ofNat (n / 256 ^ (7 - i)))
def put (s : Text) (k n : Nat) : Text := putUp s k n 8
theorem putUp_length (s : Text) (k n : Nat) : ∀ i, (putUp s k n i).length = s.length
  | 0 => rfl
  | i + 1 => by show (List.set _ _ _).length = _; rw [List.length_set, putUp_length s k n i]
theorem put_length (s : Text) (k n : Nat) : (put s k n).length = s.length := putUp_length s k n 8
theorem putUp_at (s : Text) (k n j : Nat) (hs : 8 * k + 8 ≤ s.length) : ∀ i, i ≤ 8 → (putUp s k n i).getD j 0 = if 8 * k ≤ j ∧ j < 8 * k + i then UInt8.ofNat (n / 256 ^ (7 - (j - 8 * k))) else s.getD j 0
  | 0, _ => by rw [if_neg (by omega)]; rfl
  | i + 1, h => by
    show ((putUp s k n i).set (8 * k + i) _).getD j 0 = _
    by_cases e : j = 8 * k + i
    · rw [e, List.getD_eq_getElem?_getD, List.getElem?_set_self (by rw [putUp_length]; omega), if_pos (by omega), Option.getD_some]
      rw [show 8 * k + i - 8 * k = i by omega]
    · rw [List.getD_eq_getElem?_getD, List.getElem?_set_ne (by omega), ← List.getD_eq_getElem?_getD, putUp_at s k n j hs i (by omega)]
      by_cases h1 : 8 * k ≤ j ∧ j < 8 * k + i
      · rw [if_pos h1, if_pos (by omega)]
      · rw [if_neg h1, if_neg (by omega)]
theorem numUp_put (s : Text) (k n : Nat) (hs : 8 * k + 8 ≤ s.length) (hn : n < 256 ^ 8) : ∀ i, i ≤ 8 → numUp (put s k n) k i = n / 256 ^ (8 - i)
  | 0, _ => (Nat.div_eq_of_lt hn).symm
  | i + 1, h => by
    show numUp (put s k n) k i * 256 + ((put s k n).getD (8 * k + i) 0).toNat = _
    rw [numUp_put s k n hs hn i (by omega)]
    unfold put
    rw [putUp_at s k n _ hs 8 (Nat.le_refl _), if_pos (by omega), show 8 * k + i - 8 * k = i by omega, UInt8.toNat_ofNat']
    rw [show 8 - i = (7 - i) + 1 by omega, show 8 - (i + 1) = 7 - i by omega, Nat.pow_succ, ← Nat.div_div_eq_div_mul]
    have := Nat.div_add_mod (n / 256 ^ (7 - i)) 256
    omega
theorem num_put (s : Text) (k n : Nat) (hs : 8 * k + 8 ≤ s.length) (hn : n < 256 ^ 8) : num (put s k n) k = n := by
  have := numUp_put s k n hs hn 8 (Nat.le_refl _)
  rwa [Nat.sub_self, Nat.pow_zero, Nat.div_one] at this
theorem num_other (s : Text) (k n j : Nat) (hs : 8 * k + 8 ≤ s.length) (hj : j ≠ k) : num (put s k n) j = num s j := by
  have key : ∀ i, i ≤ 8 → numUp (put s k n) j i = numUp s j i := by
    intro i
    induction i with
    | zero => intro _; rfl
    | succ i ih =>
      intro h
      show numUp (put s k n) j i * 256 + _ = numUp s j i * 256 + _
      rw [ih (by omega)]
      unfold put
      rw [putUp_at s k n _ hs 8 (Nat.le_refl _), if_neg (by omega)]
  exact key 8 (Nat.le_refl _)

/-! ### How many pages so many homes have. -/
def cost (p : Nat) : Nat := 1 + p + (p + 4095) / 4096
theorem cost_mono {p q : Nat} (h : p ≤ q) : cost p ≤ cost q := by unfold cost; omega
/-- What the document asks of the number of pages. -/
def IsPages (n : Int) (p : Nat) : Prop := (p = 0 ∨ (cost p : Int) ≤ n) ∧ n < cost (p + 1)
theorem isPages_one {n : Int} {p q : Nat} (hp : IsPages n p) (hq : IsPages n q) : p = q := by
  obtain ⟨h1, h2⟩ := hp
  obtain ⟨h3, h4⟩ := hq
  rcases Nat.lt_trichotomy p q with h | h | h
  · have := cost_mono (show p + 1 ≤ q by omega)
    rcases h3 with h3 | h3 <;> omega
  · exact h
  · have := cost_mono (show q + 1 ≤ p by omega)
    rcases h1 with h1 | h1 <;> omega
def pages (n : Int) : Nat := if n < 1 then 0 else let r := (min n 1048576).toNat - 1; r - (r + 4096) / 4097
theorem pages_is (n : Int) : IsPages (min n 1048576) (pages n) := by
  unfold pages
  by_cases h : n < 1
  · rw [if_pos h]
    unfold IsPages cost
    exact ⟨.inl rfl, by omega⟩
  · rw [if_neg h]
    obtain ⟨m, hm⟩ : ∃ m : Nat, min n 1048576 = (m : Int) := ⟨(min n 1048576).toNat, by omega⟩
    rw [hm, Int.toNat_natCast]
    have : 1 ≤ m ∧ m ≤ 1048576 := by omega
    simp only
    unfold IsPages cost
    omega
theorem pages_few {n : Nat} (h1 : 2 ≤ n) (h2 : n ≤ 4098) : pages n = n - 2 := by
  unfold pages
  rw [if_neg (by omega)]
  have : (min (n : Int) 1048576).toNat = n := by omega
  simp only [this]
  omega
theorem pages_le (n : Int) : pages n ≤ 1048576 := by
  unfold pages
  split
  · omega
  · simp only; omega

/-! ### A room in homes. -/
/-- The homes K hold the pages pg (what a page holds that is taken) and the numbers rt. -/
structure Rep (K : List Text) (pg : List (Option Text)) (rt : List Nat) : Prop where
  len : K.length = pg.length + 2
  full : ∀ t ∈ K, t.length = 512
  bit : ∀ p, p < pg.length → bitAt (K.getD 1 []) p = (pg.getD p none).isSome
  page : ∀ p t, pg[p]? = some (some t) → K.getD (2 + p) [] = t
  nums : rt.length = 16
  num : ∀ k, k < 16 → num (K.getD 0 []) k = rt.getD k 0
  few : pg.length ≤ 4096
namespace Rep
variable {K : List Text} {pg : List (Option Text)} {rt : List Nat}
theorem home (h : Rep K pg rt) {i : Nat} (hi : i < K.length) : (K.getD i []).length = 512 := by
  rw [List.getD_eq_getElem?_getD, List.getElem?_eq_getElem hi, Option.getD_some]
  exact h.full _ (List.getElem_mem hi)
theorem fullSet (h : Rep K pg rt) (i : Nat) {t : Text} (ht : t.length = 512) : ∀ u ∈ K.set i t, u.length = 512 := by
  intro u hu
  rcases List.mem_or_eq_of_mem_set hu with hu | hu
  · exact h.full u hu
  · rw [hu]; exact ht
theorem getD_set {α : Type} (l : List α) (i j : Nat) (x d : α) (hi : i < l.length) : (l.set i x).getD j d = if j = i then x else l.getD j d := by
  by_cases e : j = i
  · rw [if_pos e, e, List.getD_eq_getElem?_getD, List.getElem?_set_self hi, Option.getD_some]
  · rw [if_neg e, List.getD_eq_getElem?_getD, List.getElem?_set_ne (fun h => e h.symm), ← List.getD_eq_getElem?_getD]
/-- A page is written. -/
theorem write (h : Rep K pg rt) {p : Nat} (hp : p < pg.length) (hs : (pg.getD p none).isSome) {t : Text} (ht : t.length = 512) : Rep (K.set (2 + p) t) (pg.set p (some t)) rt := by
  have hl := h.len
  refine ⟨by rw [List.length_set, List.length_set, h.len], h.fullSet _ ht, fun q hq => ?_, fun q u hu => ?_, h.nums, fun k hk => ?_, by rw [List.length_set]; exact h.few⟩
  · rw [List.length_set] at hq
    rw [getD_set _ _ _ _ _ (by omega), if_neg (by omega), getD_set _ _ _ _ _ hp, h.bit q hq]
    by_cases e : q = p
    · rw [if_pos e, e, hs]; rfl
    · rw [if_neg e]
  · rw [getD_set _ _ _ _ _ (by omega)]
    by_cases e : q = p
    · rw [e, List.getElem?_set_self hp] at hu
      rw [if_pos (by omega)]
      injection hu with hu
      injection hu
    · rw [List.getElem?_set_ne (fun x => e x.symm)] at hu
      rw [if_neg (by omega)]
      exact h.page q u hu
  · rw [getD_set _ _ _ _ _ (by omega), if_neg (by omega)]
    exact h.num k hk
/-- A page's bit is turned. -/
theorem turn (h : Rep K pg rt) {p : Nat} (hp : p < pg.length) {o : Option Text} (ho : o.isSome = !(pg.getD p none).isSome) (hpage : ∀ t, o = some t → K.getD (2 + p) [] = t) : Rep (K.set 1 (flip (K.getD 1 []) p)) (pg.set p o) rt := by
  have hl := h.len
  have hf := h.few
  have h1 : (K.getD 1 []).length = 512 := h.home (by omega)
  refine ⟨by rw [List.length_set, List.length_set, h.len], h.fullSet _ (by rw [flip_length]; exact h1), fun q hq => ?_, fun q u hu => ?_, h.nums, fun k hk => ?_, by rw [List.length_set]; exact h.few⟩
  · rw [List.length_set] at hq
    rw [getD_set _ _ _ _ _ (by omega), if_pos rfl, bitAt_flip _ (by rw [h1]; omega), getD_set _ _ _ _ _ hp, h.bit q hq]
    by_cases e : q = p
    · rw [if_pos e, if_pos e, e, ho]
    · rw [if_neg e, if_neg e]
  · rw [getD_set _ _ _ _ _ (by omega), if_neg (by omega)]
    by_cases e : q = p
    · rw [e, List.getElem?_set_self hp] at hu
      injection hu with hu
      rw [e]
      exact hpage u hu
    · rw [List.getElem?_set_ne (fun x => e x.symm)] at hu
      exact h.page q u hu
  · rw [getD_set _ _ _ _ _ (by omega), if_neg (by omega)]
    exact h.num k hk
theorem free (h : Rep K pg rt) {p : Nat} (hp : p < pg.length) (hs : (pg.getD p none).isSome) : Rep (K.set 1 (flip (K.getD 1 []) p)) (pg.set p none) rt :=
  h.turn hp (by rw [hs]; rfl) (fun t ht => by cases ht)
/-- A page that is free is written: nobody sees it. -/
theorem unseen (h : Rep K pg rt) {p : Nat} (hp : p < pg.length) (hs : pg.getD p none = none) {t : Text} (ht : t.length = 512) : Rep (K.set (2 + p) t) pg rt := by
  have hl := h.len
  refine ⟨by rw [List.length_set, h.len], h.fullSet _ ht, fun q hq => ?_, fun q u hu => ?_, h.nums, fun k hk => ?_, h.few⟩
  · rw [getD_set _ _ _ _ _ (by omega), if_neg (by omega), h.bit q hq]
  · rw [getD_set _ _ _ _ _ (by omega), if_neg]
    · exact h.page q u hu
    · intro e
      have e' : q = p := by omega
      rw [e'] at hu
      rw [List.getD_eq_getElem?_getD, hu] at hs
      cases hs
  · rw [getD_set _ _ _ _ _ (by omega), if_neg (by omega)]
    exact h.num k hk
theorem alloc (h : Rep K pg rt) {p : Nat} (hp : p < pg.length) (hs : pg.getD p none = none) {t : Text} (ht : t.length = 512) : Rep ((K.set (2 + p) t).set 1 (flip (K.getD 1 []) p)) (pg.set p (some t)) rt := by
  have hl := h.len
  have h1 := h.unseen hp hs ht
  have h2 : (K.set (2 + p) t).getD 1 [] = K.getD 1 [] := by rw [getD_set _ _ _ _ _ (by omega), if_neg (by omega)]
  have := h1.turn hp (o := some t) (by rw [hs]; rfl) (fun u hu => by
    injection hu with hu
    rw [getD_set _ _ _ _ _ (by omega), if_pos rfl, hu])
  rwa [h2] at this
/-- A number is set. -/
theorem set (h : Rep K pg rt) {k n : Nat} (hk : k < 16) (hn : n < 256 ^ 8) : Rep (K.set 0 (put (K.getD 0 []) k n)) pg (rt.set k n) := by
  have hl := h.len
  have h0 : (K.getD 0 []).length = 512 := h.home (by omega)
  refine ⟨by rw [List.length_set, h.len], h.fullSet _ (by rw [put_length]; exact h0), fun q hq => ?_, fun q u hu => ?_, by rw [List.length_set]; exact h.nums, fun j hj => ?_, h.few⟩
  · rw [getD_set _ _ _ _ _ (by omega), if_neg (by omega), h.bit q hq]
  · rw [getD_set _ _ _ _ _ (by omega), if_neg (by omega)]
    exact h.page q u hu
  · rw [getD_set _ _ _ _ _ (by omega), if_pos rfl, getD_set _ _ _ _ _ (by rw [h.nums]; exact hk)]
    by_cases e : j = k
    · rw [if_pos e, e, num_put _ _ _ (by omega) hn]
    · rw [if_neg e, num_other _ _ _ _ (by omega) e, h.num j hj]
end Rep
theorem getD_nought (j : Nat) : (List.replicate 512 (0 : UInt8)).getD j 0 = 0 := by
  rw [List.getD_eq_getElem?_getD, List.getElem?_replicate]
  split <;> rfl
theorem bitAt_nought (k : Nat) : bitAt (List.replicate 512 0) k = false := by
  unfold bitAt
  rw [getD_nought]
  exact Nat.zero_testBit _
theorem num_nought (k : Nat) : num (List.replicate 512 0) k = 0 := by
  have key : ∀ i, numUp (List.replicate 512 0) k i = 0 := by
    intro i
    induction i with
    | zero => rfl
    | succ i ih =>
      show numUp _ k i * 256 + _ = 0
      rw [ih, getD_nought]
      rfl
  exact key 8
theorem rep_new (n : Nat) (h1 : 2 ≤ n) (h2 : n ≤ 4098) : Rep (Wl.noughts n) (List.replicate (n - 2) none) (List.replicate 16 0) := by
  have hf : Dk.full [] = List.replicate 512 0 := rfl
  have hg : ∀ i, i < n → (Wl.noughts n).getD i [] = List.replicate 512 0 := by
    intro i hi
    unfold Wl.noughts
    rw [List.getD_eq_getElem?_getD, List.getElem?_replicate, if_pos hi, Option.getD_some, hf]
  refine ⟨by unfold Wl.noughts; rw [List.length_replicate, List.length_replicate]; omega, fun t ht => ?_, fun p hp => ?_, fun p t hp => ?_, List.length_replicate, fun k hk => ?_, by rw [List.length_replicate]; omega⟩
  · rw [(List.mem_replicate.1 ht).2, hf, List.length_replicate]
  · rw [hg 1 (by omega), bitAt_nought, List.getD_eq_getElem?_getD, List.getElem?_replicate]
    rw [List.length_replicate] at hp
    rw [if_pos hp]; rfl
  · rw [List.getElem?_replicate] at hp
    split at hp <;> simp at hp
  · rw [hg 0 (by omega), num_nought, List.getD_eq_getElem?_getD, List.getElem?_replicate, if_pos hk]
    rfl
/-- How many pages are taken. -/
def used (pg : List (Option Text)) : Nat := (pg.filter Option.isSome).length
theorem count_used {s : Text} {pg : List (Option Text)} (h : ∀ p, p < pg.length → bitAt s p = (pg.getD p none).isSome) : count s pg.length = used pg := by
  have key : ∀ n, n ≤ pg.length → count s n = used (pg.take n) := by
    intro n
    induction n with
    | zero => intro _; rfl
    | succ n ih =>
      intro hn
      show count s n + _ = _
      rw [ih (by omega), h n (by omega)]
      unfold used
      rw [List.take_succ_eq_append_getElem (by omega), List.filter_append, List.length_append, List.filter_cons, List.filter_nil, List.getD_eq_getElem?_getD, List.getElem?_eq_getElem (by omega), Option.getD_some]
      cases (pg[n]).isSome <;> rfl
  rw [key _ (Nat.le_refl _), List.take_length]
/-- The first page that is free, of so many. -/
def firstFree : List (Option Text) → Option Nat
  | [] => none
  | none :: _ => some 0
  | some _ :: l => (firstFree l).map (· + 1)
theorem firstFree_some : ∀ {pg : List (Option Text)} {p : Nat}, (∀ q, q < p → (pg.getD q none).isSome) → p < pg.length → pg.getD p none = none → firstFree pg = some p
  | [], _, _, h, _ => absurd h (Nat.not_lt_zero _)
  | none :: pg, 0, _, _, _ => rfl
  | some t :: pg, 0, _, _, h => by cases h
  | none :: pg, p + 1, h, _, _ => by have := h 0 (by omega); cases this
  | some t :: pg, p + 1, h, h2, h3 => by
    show (firstFree pg).map (· + 1) = _
    rw [firstFree_some (p := p) (fun q hq => h (q + 1) (by omega)) (by simpa using h2) h3]
    rfl
theorem firstFree_none : ∀ {pg : List (Option Text)}, (∀ q, q < pg.length → (pg.getD q none).isSome) → firstFree pg = none
  | [], _ => rfl
  | none :: pg, h => by have := h 0 (by simp); cases this
  | some t :: pg, h => by
    show (firstFree pg).map (· + 1) = _
    rw [firstFree_none (pg := pg) (fun q hq => h (q + 1) (by simpa using hq))]
    rfl
theorem firstFree_lt : ∀ {pg : List (Option Text)} {p : Nat}, firstFree pg = some p → p < pg.length ∧ pg.getD p none = none
  | [], _, h => by cases h
  | none :: pg, p, h => by
    injection h with h
    subst h
    exact ⟨by simp, rfl⟩
  | some t :: pg, p, h => by
    change (firstFree pg).map (· + 1) = some p at h
    cases hf : firstFree pg with
    | none => rw [hf] at h; cases h
    | some q =>
      rw [hf] at h
      injection h with h
      subst h
      have := firstFree_lt hf
      exact ⟨by simpa using this.1, this.2⟩
/-! ### What calls answer. -/
def refuse (pg : List (Option Text)) (i : Int) : Int := if 0 ≤ i ∧ i < pg.length then (if (pg.getD i.toNat none).isSome then 0 else 6) else 2
def got (pg : List (Option Text)) (i : Int) : Text := if 0 ≤ i ∧ i < pg.length then (pg.getD i.toNat none).getD [] else []
def wrote (pg : List (Option Text)) (i : Int) (n : Nat) : Int := if refuse pg i = 0 then (if 512 < n then 5 else 0) else refuse pg i
def has (pg : List (Option Text)) (i : Int) : Bool := if 0 ≤ i ∧ i < pg.length then (pg.getD i.toNat none).isSome else false
def hasNo (pg : List (Option Text)) (i : Int) : Int := if 0 ≤ i ∧ i < pg.length then 0 else 2
inductive At (pg : List (Option Text)) (i : Int) : Prop
  | out (h : i < 0 ∨ (pg.length : Int) ≤ i) (hr : refuse pg i = 2) (hg : got pg i = []) (hh : has pg i = false) (hn : hasNo pg i = 2)
  | free (p : Nat) (hi : i = p) (hp : p < pg.length) (hs : pg.getD p none = none) (hr : refuse pg i = 6) (hg : got pg i = []) (hh : has pg i = false) (hn : hasNo pg i = 0)
  | taken (p : Nat) (t : Text) (hi : i = p) (hp : p < pg.length) (hs : pg.getD p none = some t) (hr : refuse pg i = 0) (hg : got pg i = t) (hh : has pg i = true) (hn : hasNo pg i = 0)
theorem at_any (pg : List (Option Text)) (i : Int) : At pg i := by
  by_cases h : 0 ≤ i ∧ i < pg.length
  · obtain ⟨p, rfl⟩ : ∃ p : Nat, i = p := ⟨i.toNat, by omega⟩
    have hp : p < pg.length := by omega
    cases hs : pg.getD p none with
    | none => exact .free p rfl hp hs (by unfold refuse; rw [if_pos h, Int.toNat_natCast, hs]; rfl) (by unfold got; rw [if_pos h, Int.toNat_natCast, hs]; rfl) (by unfold has; rw [if_pos h, Int.toNat_natCast, hs]; rfl) (by unfold hasNo; rw [if_pos h])
    | some t => exact .taken p t rfl hp hs (by unfold refuse; rw [if_pos h, Int.toNat_natCast, hs]; rfl) (by unfold got; rw [if_pos h, Int.toNat_natCast, hs]; rfl) (by unfold has; rw [if_pos h, Int.toNat_natCast, hs]; rfl) (by unfold hasNo; rw [if_pos h])
  · exact .out (by omega) (by unfold refuse; rw [if_neg h]) (by unfold got; rw [if_neg h]) (by unfold has; rw [if_neg h]) (by unfold hasNo; rw [if_neg h])
theorem firstFree_cases (pg : List (Option Text)) : firstFree pg = none ∨ ∃ p, firstFree pg = some p ∧ p < pg.length ∧ pg.getD p none = none := by
  cases h : firstFree pg with
  | none => exact .inl rfl
  | some p => exact .inr ⟨p, rfl, (firstFree_lt h).1, (firstFree_lt h).2⟩
/-- The first bit that is 0, and the first page that is free. -/
theorem first_free {s : Text} {pg : List (Option Text)} (h : ∀ p, p < pg.length → bitAt s p = (pg.getD p none).isSome) (hs : s.length = 512) (hn : pg.length ≤ 4096) {f : Nat} (hf : IsFirst s f) :
    (pg.length ≤ f ∧ firstFree pg = none) ∨ (f < pg.length ∧ firstFree pg = some f) := by
  obtain ⟨h1, h2, h3⟩ := hf
  by_cases hlt : f < pg.length
  · refine .inr ⟨hlt, firstFree_some (fun q hq => ?_) hlt ?_⟩
    · rw [← h q (by omega)]; exact h1 q hq
    · have := h3 (by omega)
      rw [h f hlt] at this
      cases e : pg.getD f none with
      | none => rfl
      | some t => rw [e] at this; cases this
  · refine .inl ⟨by omega, firstFree_none fun q hq => ?_⟩
    rw [← h q hq]; exact h1 q (by omega)
theorem used_le (pg : List (Option Text)) : used pg ≤ pg.length := List.length_filter_le _ _
end Rm
end Go.Proofs.YtahnhhhhfioibaaGreatDoor

namespace Go.Proofs.YtahnhhhhfioibaaGreatDoor
open Go.RowKit Lib

theorem times_any (w : World) (n size : Nat) (hn : n ≤ 4194304) (hs : 1 ≤ size) (hs2 : size ≤ 5000) :
    Calls Tryz.prog 123 #[.int .i64 n, .int .i64 size] w fun e w' => e = .returned (.int .i64 ((n + size - 1) / size : Nat)) ∧ w' = w := by
  obtain ⟨q, hq⟩ : ∃ q, q = (n + size - 1) / size := ⟨_, rfl⟩
  have h0 : ((n : Int) + size - 1).tdiv size = (q : Int) := by
    rw [Int.tdiv_eq_ediv_of_nonneg (by omega), hq, Int.natCast_ediv]; congr 1; omega
  have hq2 : (q : Int) ≤ 4200000 := by have := Nat.div_le_self (n + size - 1) size; omega
  rw [← hq]
  clear hq
  have h1 : (1 : Int) ≤ size := by omega
  have h2 : (size : Int) ≤ 5000 := by omega
  have h3 : (n : Int) ≤ 4194304 := by omega
  go_enter Tryz.func123, Tryz.ntmps123
  go_wp2
  go_ret
  exact ⟨rfl, rfl⟩
theorem pages_any (w : World) (n : Int) (hr : -9223372036854775808 ≤ n ∧ n ≤ 9223372036854775807) :
    Calls Tryz.prog 101 #[.int .i64 n] w fun e w' => e = .returned (.int .i64 (Rm.pages n : Nat)) ∧ w' = w := by
  obtain ⟨P, hP⟩ : ∃ P, P = Rm.pages n := ⟨_, rfl⟩
  rw [← hP]
  unfold Rm.pages at hP
  by_cases h : n < 1
  · rw [if_pos h] at hP
    subst hP
    go_enter Tryz.func101, Tryz.ntmps101
    go_wp2
    go_ret
    exact ⟨rfl, rfl⟩
  rw [if_neg h] at hP
  by_cases hb : n ≤ 1048576
  · obtain ⟨r, hm⟩ : ∃ r : Nat, n = (r : Int) + 1 := ⟨n.toNat - 1, by omega⟩
    rw [show (min n 1048576).toNat - 1 = r by omega] at hP
    simp only at hP
    have HP := Lib.hid hP
    have hmn : min ((r : Int) + 1) 1048576 = (r : Int) + 1 := by omega
    clear hP
    subst hm
    go_enter Tryz.func101, Tryz.ntmps101
    go_wp2_with fail
    try rw [show (r : Int) + 1 - 1 = r by omega]
    refine (times_any _ r 4097 (by omega) (by decide) (by decide)).mono ?_
    rintro e w' ⟨rfl, rfl⟩
    rw [show r + 4097 - 1 = r + 4096 by omega]
    obtain ⟨q, hq⟩ : ∃ q, q = (r + 4096) / 4097 := ⟨_, rfl⟩
    rw [← hq] at HP ⊢
    have hqr : (q : Int) ≤ r := by omega
    have HQ := Lib.hid hqr
    clear hq
    go_wp2
    go_ret
    have hle : ((r : Int) - q) = ((r - q : Nat) : Int) := by have := HQ.out; omega
    exact ⟨by rw [HP.out, ← hle]; first | rfl | (rw [hm]; rfl), rfl⟩
  · obtain ⟨r, hm⟩ : ∃ r : Nat, r = 1048575 := ⟨_, rfl⟩
    rw [show (min n 1048576).toNat - 1 = r by omega] at hP
    simp only at hP
    have HP := Lib.hid hP
    have hb' : ¬ n < 1048576 := by omega
    have hmn : min n 1048576 = 1048576 := by omega
    clear hP
    go_enter Tryz.func101, Tryz.ntmps101
    go_wp2_with fail
    rw [show (1048575 : Int) = (r : Int) by omega]
    refine (times_any _ r 4097 (by omega) (by decide) (by decide)).mono ?_
    rintro e w' ⟨rfl, rfl⟩
    rw [show r + 4097 - 1 = r + 4096 by omega]
    obtain ⟨q, hq⟩ : ∃ q, q = (r + 4096) / 4097 := ⟨_, rfl⟩
    rw [← hq] at HP ⊢
    have hqr : (q : Int) ≤ r := by omega
    have HQ := Lib.hid hqr
    clear hq
    go_wp2
    go_ret
    have hle : ((r : Int) - q) = ((r - q : Nat) : Int) := by have := HQ.out; omega
    exact ⟨by rw [HP.out, ← hle]; first | rfl | (rw [hm]; rfl), rfl⟩
theorem bitsHome_any (w : World) (k : Nat) (hk : k ≤ 4194304) :
    Calls Tryz.prog 100 #[.int .i64 k] w fun e w' => e = .returned (.int .i64 (1 + k / 4096 : Nat)) ∧ w' = w := by
  have h0 : (k : Int).tdiv 4096 = ((k / 4096 : Nat) : Int) := by rw [Int.tdiv_eq_ediv_of_nonneg (by omega)]; omega
  have h1 : ((k / 4096 : Nat) : Int) ≤ 4194304 := by omega
  generalize k / 4096 = q at *
  go_enter Tryz.func100, Tryz.ntmps100
  go_wp2
  go_ret
  exact ⟨by congr 2, rfl⟩
theorem and_one (b : UInt8) (j : Nat) : bits .and .u8 ((b.toNat : Int) / 2 ^ j) 1 = ((b.toNat.testBit j).toNat : Int) := by
  have h1 : (b.toNat : Int) / 2 ^ j = ((b.toNat / 2 ^ j : Nat) : Int) := by rw [Int.natCast_ediv, Int.natCast_pow]; rfl
  have h2 : b.toNat / 2 ^ j < 256 := Nat.lt_of_le_of_lt (Nat.div_le_self _ _) b.toNat_lt
  rw [h1, show (1 : Int) = ((1 : Nat) : Int) from rfl, u8_and_nat _ 1 h2 (by decide), Nat.and_one_is_mod, Nat.toNat_testBit]
theorem at_get (s : ByteArray) (k : Nat) (hk : k < s.size) : s.data.toList.getD k 0 = s[k] := by
  rw [List.getD_eq_getElem?_getD, List.getElem?_eq_getElem (by rw [Array.length_toList]; exact hk), Option.getD_some]
  rfl
theorem isSet_any (w : World) (s : ByteArray) (k : Nat) (hk : k / 8 < s.size) (hs : s.size ≤ 512) :
    Calls Tryz.prog 65 #[.string s, .int .i64 k] w fun e w' => e = .returned (.bool (Rm.bitAt s.data.toList k)) ∧ w' = w := by
  have h0 : (k : Int).tdiv 8 = ((k / 8 : Nat) : Int) := by rw [Int.tdiv_eq_ediv_of_nonneg (by omega)]; omega
  have h1 : (k : Int).tmod 8 = ((k % 8 : Nat) : Int) := by rw [Int.tmod_eq_emod_of_nonneg (by omega)]; omega
  have h2 : ((k / 8 : Nat) : Int) < s.size := by omega
  have h3 : ((k % 8 : Nat) : Int) ≤ 7 := by omega
  have h4 : (0 : Int) ≤ ((k % 8 : Nat) : Int) := by omega
  have HA := Lib.hid (show bits .and .u8 (((s[k / 8]'hk).toNat : Int) / 2 ^ (k % 8)) 1 = ((Rm.bitAt s.data.toList k).toNat : Int) by rw [and_one]; unfold Rm.bitAt; rw [at_get s _ hk])
  go_enter Tryz.func65, Tryz.ntmps65
  go_wp2
  go_ret
  refine ⟨?_, rfl⟩
  simp only [HA.out]
  cases Rm.bitAt s.data.toList k <;> rfl
theorem pop_ones : ∀ n : Fin 256, pop8 (n.val : Int) = (Rm.ones8 n.val : Int) := by decide +kernel
theorem ones8_le (n : Nat) : Rm.ones8 n ≤ 8 := by
  unfold Rm.ones8 Rm.ones
  have := List.length_filter_le (fun i => n.testBit i) (List.range 8)
  rwa [List.length_range] at this
theorem onesCount_any (w : World) (b : UInt8) :
    Calls Tryz.prog 102 #[.int .u8 b.toNat] w fun e w' => e = .returned (.int .i64 (Rm.ones8 b.toNat : Nat)) ∧ w' = w := by
  have hb : (b.toNat : Int) ≤ 255 := by have := b.toNat_lt; omega
  have hw : wrap64 (pop8 b.toNat) = (Rm.ones8 b.toNat : Nat) := by
    rw [pop_ones ⟨b.toNat, b.toNat_lt⟩]
    have := ones8_le b.toNat
    unfold wrap64; simp only; omega
  go_enter Tryz.func102, Tryz.ntmps102
  go_wp2
  go_ret
  exact ⟨by rw [← hw]; rfl, rfl⟩
theorem ntz_wrap (b : UInt8) : wrap64 (ntz8 b.toNat) = (Lib.trailingZeros8 b.toNat : Nat) := by
  rw [ntz8_eq ⟨b.toNat, b.toNat_lt⟩]
  have := trailingZeros8_le8 ⟨b.toNat, b.toNat_lt⟩
  unfold wrap64; simp only at this ⊢; omega
theorem zeros_any (w : World) (b : UInt8) :
    Calls Tryz.prog 147 #[.int .u8 b.toNat] w fun e w' => e = .returned (.int .i64 (Lib.trailingZeros8 b.toNat : Nat)) ∧ w' = w := by
  have hb : (b.toNat : Int) ≤ 255 := by have := b.toNat_lt; omega
  have hw := ntz_wrap b
  go_enter Tryz.func147, Tryz.ntmps147
  go_wp2
  go_ret
  exact ⟨by rw [← hw]; rfl, rfl⟩
/-- The first bit of a byte that is 0. -/
def low0 (b : Nat) : Nat := Lib.trailingZeros8 (255 - b)
theorem low0_is : ∀ n : Fin 256, n.val ≠ 255 → low0 n.val ≤ 7 ∧ n.val.testBit (low0 n.val) = false ∧ ∀ j : Fin 8, j.val < low0 n.val → n.val.testBit j.val = true := by decide +kernel
theorem xor_all : ∀ n : Fin 256, 255 ^^^ n.val = 255 - n.val := by decide +kernel
theorem all_ones : ∀ j : Fin 8, (255 : Nat).testBit j.val = true := by decide +kernel
set_option maxRecDepth 100000 in
set_option maxHeartbeats 1000000 in
theorem firstUnset_any (w : World) (s : ByteArray) (hs : s.size ≤ 512) :
    Calls Tryz.prog 136 #[.string s] w fun e w' => ∃ f : Nat, e = .returned (.int .i64 f) ∧ Rm.IsFirst s.data.toList f ∧ w' = w := by
  have hsI : (s.size : Int) ≤ 512 := by omega
  go_enter Tryz.func136, Tryz.ntmps136
  go_wp2
  go_loop [6] (fun i => ∃ k : Nat, k ≤ s.size ∧ i = .int .i64 k ∧ Hid (∀ j, j < 8 * k → Rm.bitAt s.data.toList j = true)) (fun i => s.size - (intOf i).toNat)
  case atStart => exact ⟨0, Nat.zero_le _, rfl, Lib.hid fun j hj => by omega⟩
  case round =>
    obtain ⟨k, hk, rfl, hB⟩ := hrel
    by_cases hlt : k < s.size
    · have hI : (k : Int) < s.size := by omega
      have HG := Lib.hid (at_get s k hlt)
      have HL := Lib.hid hlt
      obtain ⟨b, hb⟩ : ∃ b, b = s[k] := ⟨_, rfl⟩
      have HGb := Lib.hid (show s.data.toList.getD k 0 = b by rw [hb]; exact HG.out)
      have hb1 : (b.toNat : Int) ≤ 255 := by have := b.toNat_lt; omega
      by_cases e : b.toNat = 255
      · have eI : (s[k].toNat : Int) = 255 := by rw [← hb]; omega
        go_wp2
        go_round
        case rel =>
          refine ⟨k + 1, HL.out, by go_num, Lib.hid fun j hj => ?_⟩
          by_cases h : j < 8 * k
          · exact hB.out j h
          · unfold Rm.bitAt
            rw [show j / 8 = k by omega, HGb.out, e]
            exact all_ones ⟨j % 8, by omega⟩
        case measure => have := HL.out; simp [intOf]; omega
      · have eI : ¬ (s[k].toNat : Int) = 255 := by rw [← hb]; omega
        obtain ⟨c, hc⟩ : ∃ c : UInt8, c.toNat = 255 - b.toNat := ⟨UInt8.ofNat (255 - b.toNat), by rw [UInt8.toNat_ofNat']; omega⟩
        have HX := Lib.hid (show bits .xor .u8 IntKind.u8.max s[k].toNat = (c.toNat : Int) by
          rw [← hb, show IntKind.u8.max = ((255 : Nat) : Int) from rfl, u8_xor_nat 255 b.toNat (by decide) b.toNat_lt, hc, xor_all ⟨b.toNat, b.toNat_lt⟩])
        have HLo := Lib.hid (show low0 b.toNat = Lib.trailingZeros8 c.toNat by unfold low0; rw [hc])
        obtain ⟨l1, l2, l3⟩ := low0_is ⟨b.toNat, b.toNat_lt⟩ e
        simp only at l1 l2 l3
        rw [HLo.out] at l1 l2 l3
        have HL3 := Lib.hid (And.intro l2 l3)
        have l1I : (Lib.trailingZeros8 c.toNat : Int) ≤ 7 := by omega
        have hk8 : (k : Int) ≤ 512 := by omega
        clear l2 l3 l1 hb e hc
        go_wp2_with fail
        erw [HX.out]
        refine (zeros_any w c).mono ?_
        rintro e w' ⟨rfl, rfl⟩
        obtain ⟨z, hz⟩ : ∃ z, z = Lib.trailingZeros8 c.toNat := ⟨_, rfl⟩
        rw [← hz] at HL3 l1I ⊢
        have HZ := Lib.hid l1I
        clear hz
        go_wp2
        go_ret
        refine ⟨8 * k + z, by congr 2, ⟨fun j hj => ?_, by rw [Array.length_toList]; have := HZ.out; have := HL.out; have hs : s.data.size = s.size := rfl; omega, fun _ => ?_⟩, rfl⟩
        · by_cases h : j < 8 * k
          · exact hB.out j h
          · unfold Rm.bitAt
            rw [show j / 8 = k by have := HZ.out; omega, HGb.out]
            exact HL3.out.2 ⟨j % 8, by omega⟩ (by show j % 8 < z; have := HZ.out; omega)
        · unfold Rm.bitAt
          rw [show (8 * k + z) / 8 = k by have := HZ.out; omega, HGb.out, show (8 * k + z) % 8 = z by have := HZ.out; omega]
          exact HL3.out.1
    · have hke : k = s.size := by omega
      subst hke
      go_wp2
      go_ret
      refine ⟨8 * s.size, by congr 2, ⟨hB.out, by rw [Array.length_toList]; exact Nat.le_refl _, fun h => ?_⟩, rfl⟩
      rw [Array.length_toList] at h
      exact absurd h (Nat.lt_irrefl _)
theorem wrap_u8' (n : Int) : IntKind.u8.wrap n = n % 256 := by simp [IntKind.wrap, IntKind.bits, IntKind.signed]
theorem mask (b : UInt8) (r : Nat) (hr : r ≤ 7) : bits .and .u8 b.toNat ((2 : Int) ^ r - 1) = ((b.toNat % 2 ^ r : Nat) : Int) := by
  have h2 : 2 ^ r ≤ 2 ^ 7 := Nat.pow_le_pow_right (by decide) hr
  have h1 : 1 ≤ 2 ^ r := Nat.one_le_two_pow
  have h3 : ((2 : Int) ^ r - 1) = ((2 ^ r - 1 : Nat) : Int) := by rw [Int.natCast_sub h1, Int.natCast_pow]; rfl
  rw [h3, u8_and_nat _ _ b.toNat_lt (by omega), Nat.and_two_pow_sub_one_eq_mod]
set_option maxRecDepth 100000 in
set_option maxHeartbeats 1000000 in
theorem countSet_any (w : World) (s : ByteArray) (n : Nat) (hs : s.size ≤ 512) (hn : n ≤ 8 * s.size) :
    Calls Tryz.prog 68 #[.string s, .int .i64 n] w fun e w' => e = .returned (.int .i64 (Rm.count s.data.toList n : Nat)) ∧ Below w.heap.size w w' := by
  have h0 : (n : Int).tdiv 8 = ((n / 8 : Nat) : Int) := by rw [Int.tdiv_eq_ediv_of_nonneg (by omega)]; omega
  have h1 : (n : Int).tmod 8 = ((n % 8 : Nat) : Int) := by rw [Int.tmod_eq_emod_of_nonneg (by omega)]; omega
  obtain ⟨q, hq⟩ : ∃ q, q = n / 8 := ⟨_, rfl⟩
  obtain ⟨r, hr⟩ : ∃ r, r = n % 8 := ⟨_, rfl⟩
  have hnI : (n : Int) ≤ 4096 := by omega
  have hqI : (q : Int) ≤ 512 := by omega
  have hr7 : (r : Int) ≤ 7 := by omega
  have HN := Lib.hid (show n = 8 * q + r ∧ q ≤ s.size ∧ (0 < r → q < s.size) ∧ r ≤ 7 by omega)
  rw [← hq] at h0
  rw [← hr] at h1
  clear hq hr
  go_enter Tryz.func68, Tryz.ntmps68
  go_wp2
  go_loop [5, 9] (fun c i => ∃ k : Nat, k ≤ q ∧ i = .int .i64 k ∧ c = .int .i64 (Rm.count s.data.toList (8 * k) : Nat)) (fun _ i => q - (intOf i).toNat)
  case atStart => exact ⟨0, Nat.zero_le _, rfl, rfl⟩
  case round =>
    obtain ⟨k, hk, rfl, rfl⟩ := hrel
    by_cases hlt : k < q
    · have hI : (k : Int) < q := by omega
      have hks : k < s.size := by have := HN.out.2.1; omega
      have hksI : (k : Int) < s.size := by omega
      have hc := Rm.count_add s.data.toList k 8 (Nat.le_refl _)
      rw [at_get s k hks] at hc
      have hcl := Rm.count_le s.data.toList (8 * k)
      have ho := ones8_le s[k].toNat
      have HC := Lib.hid (show Rm.count s.data.toList (8 * (k + 1)) = Rm.count s.data.toList (8 * k) + Rm.ones8 s[k].toNat from hc)
      have HL := Lib.hid hlt
      generalize Rm.count s.data.toList (8 * k) = a at *
      have haI : (a : Int) ≤ 4096 := by have := HN.out.2.1; omega
      clear hc hcl
      obtain ⟨b, hb⟩ : ∃ b, b = s[k] := ⟨_, rfl⟩
      go_wp2_with fail
      rw [← hb] at ho HC ⊢
      refine (onesCount_any w b).mono ?_
      rintro e w' ⟨rfl, rfl⟩
      generalize Rm.ones8 b.toNat = o at *
      have hoI : (o : Int) ≤ 8 := by omega
      go_wp2
      go_round
      case rel => exact ⟨k + 1, HL.out, by go_num, by rw [HC.out]; go_num⟩
      case measure => have := HL.out; simp [intOf]; omega
    · obtain rfl : k = q := by omega
      by_cases hr0 : r = 0
      · have hrI : ¬ (0 : Int) < (r : Int) := by omega
        have hrI2 : (r : Int) = 0 := by omega
        have HE := Lib.hid (show n = 8 * k by have := HN.out.1; omega)
        go_wp2
        go_ret
        exact ⟨by rw [HE.out]; rfl, Below.refl _ _⟩
      · have hrI : (0 : Int) < (r : Int) := by omega
        have hks : k < s.size := HN.out.2.2.1 (by omega)
        have hksI : (k : Int) < s.size := by omega
        have hc := Rm.count_add s.data.toList k r (by have := HN.out.2.2.2; omega)
        rw [at_get s k hks] at hc
        obtain ⟨a, ha⟩ : ∃ a, a = Rm.count s.data.toList (8 * k) := ⟨_, rfl⟩
        have haI : (a : Int) ≤ 4096 := by have := Rm.count_le s.data.toList (8 * k); have := HN.out.2.1; omega
        rw [← ha] at hc ⊢
        obtain ⟨c, hcc⟩ : ∃ c : UInt8, c.toNat = s[k].toNat % 2 ^ r := ⟨UInt8.ofNat (s[k].toNat % 2 ^ r), by
          rw [UInt8.toNat_ofNat']
          have h8 := s[k].toNat_lt
          have := Nat.mod_le s[k].toNat (2 ^ r)
          exact Nat.mod_eq_of_lt (by omega)⟩
        have ho := ones8_le c.toNat
        have HE := Lib.hid (show Rm.count s.data.toList n = a + Rm.ones8 c.toNat by
          rw [HN.out.1, hc, hcc]
          unfold Rm.ones8
          rw [Rm.ones_low _ _ (by have := HN.out.2.2.2; omega)])
        have hm := mask s[k] r HN.out.2.2.2
        rw [← hcc] at hm
        have hoc := fun w' => onesCount_any w' c
        generalize Rm.ones8 c.toNat = o at *
        have hoI : (o : Int) ≤ 8 := by omega
        have hw1 : IntKind.i64.wrap (k : Int) = k := IntWalk.i64_in _ (by omega)
        have hp : (2 : Int) ^ r ≤ 128 ∧ 1 ≤ (2 : Int) ^ r := by
          have e : (2 : Int) ^ r = ((2 ^ r : Nat) : Int) := by rw [Int.natCast_pow]; rfl
          have h2 : 2 ^ r ≤ 2 ^ 7 := Nat.pow_le_pow_right (by decide) HN.out.2.2.2
          have h1 : 1 ≤ 2 ^ r := Nat.one_le_two_pow
          rw [e]; omega
        have hw2 : IntKind.u8.wrap ((2 : Int) ^ r) = 2 ^ r := by rw [wrap_u8']; omega
        have hw3 : IntKind.u8.wrap ((2 : Int) ^ r - 1) = 2 ^ r - 1 := by rw [wrap_u8']; omega
        clear hc ha hcc ho hp
        go_wp2
        refine wp_region_any (by kernel_rfl) ?_
        try (change wpAny _ _ _ _ _ _ _ (World.drew _))
        refine wpAny_take (i := 0) (v := ?_) (by simp only [List.getElem?_toArray, List.getElem?_cons_zero]; exact rfl) (by kernel_rfl) (by kernel_rfl) (by kernel_rfl) (by exact fun _ _ _ h => h) (Or.inl ⟨by rfl, ?_⟩) ?_
        rotate_left
        · intro w; go_simp; try with_reducible rfl
        refine wpAny_take (i := 1) (v := ?_) (by simp only [List.getElem?_toArray, List.getElem?_cons_succ, List.getElem?_cons_zero]; exact rfl) (by kernel_rfl) (by kernel_rfl) (by kernel_rfl) (by exact fun _ _ _ h => h) (Or.inl ⟨by rfl, ?_⟩) ?_
        rotate_left
        · intro w; go_simp; try with_reducible rfl
        refine wpAny_take (i := 2) (v := ?_) (by simp only [List.getElem?_toArray, List.getElem?_cons_succ, List.getElem?_cons_zero]; exact rfl) (by kernel_rfl) (by kernel_rfl) (by kernel_rfl) (by exact fun _ _ _ h => h) (Or.inl ⟨by rfl, ?_⟩) ?_
        rotate_left
        · intro w; go_simp; try with_reducible rfl
        refine wpAny_take (i := 3) (v := ?_) (by simp only [List.getElem?_toArray, List.getElem?_cons_succ, List.getElem?_cons_zero]; exact rfl) (by kernel_rfl) (by kernel_rfl) (by kernel_rfl) (by exact fun _ _ _ h => h) (Or.inl ⟨by rfl, ?_⟩) ?_
        rotate_left
        · intro w; go_simp; try with_reducible rfl
        refine wpAny_take (i := 4) (v := ?_) (by simp only [List.getElem?_toArray, List.getElem?_cons_succ, List.getElem?_cons_zero]; exact rfl) (by kernel_rfl) (by kernel_rfl) (by kernel_rfl) (by exact fun _ _ _ h => h) (Or.inl ⟨by rfl, ?_⟩) ?_
        rotate_left
        · intro w; go_simp; try with_reducible rfl
        refine wpAny_take (i := 5) (v := ?_) (by simp only [List.getElem?_toArray, List.getElem?_cons_succ, List.getElem?_cons_zero]; exact rfl) (by kernel_rfl) (by kernel_rfl) (by kernel_rfl) (by exact fun _ _ _ h => h) (Or.inl ⟨by rfl, ?_⟩) ?_
        rotate_left
        · intro w; go_simp; try with_reducible rfl
        refine wpAny_take (i := 6) (v := ?_) (by simp only [List.getElem?_toArray, List.getElem?_cons_succ, List.getElem?_cons_zero]; exact rfl) (by kernel_rfl) (by kernel_rfl) (by kernel_rfl) (by exact fun _ _ _ h => h) (Or.inl ⟨by rfl, ?_⟩) ?_
        rotate_left
        · intro w; go_simp; try with_reducible rfl
        refine wpAny_take (i := 7) (v := ?_) (by simp only [List.getElem?_toArray, List.getElem?_cons_succ, List.getElem?_cons_zero]; exact rfl) (by kernel_rfl) (by kernel_rfl) (by kernel_rfl) (by exact fun _ _ _ h => h) (Or.inl ⟨by rfl, ?_⟩) ?_
        rotate_left
        · intro w; go_simp; try with_reducible rfl
        refine wpAny_take (i := 8) (v := ?_) (by simp only [List.getElem?_toArray, List.getElem?_cons_succ, List.getElem?_cons_zero]; exact rfl) (by kernel_rfl) (by kernel_rfl) (by kernel_rfl) (by exact fun _ _ _ h => h) (Or.inl ⟨by rfl, ?_⟩) ?_
        rotate_left
        · intro w; go_simp; try with_reducible rfl
        refine wpAny_take (i := 9) (v := ?_) (by simp only [List.getElem?_toArray, List.getElem?_cons_succ, List.getElem?_cons_zero]; exact rfl) (by kernel_rfl) (by kernel_rfl) (by kernel_rfl) (by exact fun _ _ _ h => h) (Or.inl ⟨by rfl, ?_⟩) ?_
        rotate_left
        · intro w; go_simp; try with_reducible rfl
        refine wpAny_ready (rs := [10]) (by kernel_rfl) (by simp) ?_
        refine AllReady.cons rfl (fun K hK => ?_) AllReady.nil
        go_simp
        refine (hoc _).mono ?_; rintro e w' ⟨rfl, rfl⟩
        refine hK _ _ ?_; clear hK K
        refine wpAny_take (i := 11) (v := ?_) (by simp only [List.getElem?_toArray, List.getElem?_cons_succ, List.getElem?_cons_zero]; exact rfl) (by kernel_rfl) (by kernel_rfl) (by kernel_rfl) (by exact fun _ _ _ h => h) (Or.inl ⟨by rfl, ?_⟩) ?_
        rotate_left
        · intro w; go_simp; try with_reducible rfl
        refine wpAny_take (i := 12) (v := ?_) (by simp only [List.getElem?_toArray, List.getElem?_cons_succ, List.getElem?_cons_zero]; exact rfl) (by kernel_rfl) (by kernel_rfl) (by kernel_rfl) (by exact fun _ _ _ h => h) (Or.inl ⟨by rfl, ?_⟩) ?_
        rotate_left
        · intro w; go_simp; try with_reducible rfl
        refine wpAny_done (by kernel_rfl) ?_ _
        go_wp2
        go_ret
        exact ⟨by rw [HE.out]; rfl, (Below.refl _ w).drew⟩
section
variable {z : Bool} {B : Nat} {w : World} {g n cap : Nat} {l : List UInt8}
theorem OwnG.toZ {v : Value} (h : OwnG B w v l) : OwnZ false B w v l := by
  obtain ⟨g, cap, cur, fz, h1, h2, h3, h4, h5, h6, h7, h8⟩ := h
  exact ⟨g, cap, cur, fz, h1, h2, h3, h4, h5, h6, h7, h8, fun h => by cases h⟩
theorem OwnZ.frozen (h : OwnZ z B w (.slice (some ⟨g, 0, none⟩) n cap) l) (j : Nat) (hj : j < l.length) : w.frozen? ⟨g, j, none⟩ = false := by
  obtain ⟨g', cap', cur, fz, e, h1, h2, h3, h4, h5, h6, _⟩ := h
  injection e with e1 e2 e3
  injection e1 with e1
  injection e1 with e1
  subst e1
  unfold World.frozen?
  rw [h2]
  simp only [Bool.and_eq_false_iff, decide_eq_false_iff_not]
  have := h3 j (by omega)
  by_cases h : fz.1 ≤ j
  · exact .inr fun h2 => this ⟨h, h2⟩
  · exact .inl h
theorem OwnZ.store (h : OwnZ z B w (.slice (some ⟨g, 0, none⟩) n cap) l) (j : Nat) (b : UInt8) : OwnZ z B (w.setCell ⟨g, j, none⟩ (bcell b)) (.slice (some ⟨g, 0, none⟩) n cap) (l.set j b) := by
  obtain ⟨g', cap', cur, fz, e, h1, h2, h3, h4, h5, h6, h7, h8⟩ := h
  injection e with e1 e2 e3
  injection e1 with e1
  injection e1 with e1
  subst e1 e2 e3
  refine ⟨g, cap, cur.setIfInBounds j (bcell b), fz, by rw [List.length_set], h1, ?_, fun i hi => h3 i (by simpa using hi), by rw [List.length_set]; exact h4, h5, by simpa using h6, ?_, h8⟩
  · rw [setCell_eq_setRow w g j cur _ fz _ h2]
    exact setRow_heap w g cur _ _ fz h2
  · rw [List.length_set, Array.toList_setIfInBounds, List.take_set, h7, List.map_set]
end
set_option maxRecDepth 100000 in
set_option maxHeartbeats 1000000 in
theorem flipped_any (w : World) (s : ByteArray) (k : Nat) (hk : k / 8 < s.size) (hs : s.size ≤ 512) :
    Calls Tryz.prog 122 #[.string s, .int .i64 k] w fun e w' => e = .returned (.string (bs (Rm.flip s.data.toList k))) ∧ Below w.heap.size w w' := by
  have h0 : (k : Int).tdiv 8 = ((k / 8 : Nat) : Int) := by rw [Int.tdiv_eq_ediv_of_nonneg (by omega)]; omega
  have h1 : (k : Int).tmod 8 = ((k % 8 : Nat) : Int) := by rw [Int.tmod_eq_emod_of_nonneg (by omega)]; omega
  have HG := Lib.hid (at_get s (k / 8) hk)
  obtain ⟨q, hq⟩ : ∃ q, q = k / 8 := ⟨_, rfl⟩
  obtain ⟨r, hr⟩ : ∃ r, r = k % 8 := ⟨_, rfl⟩
  have hqI : (q : Int) < s.size := by omega
  have hq5 : (s.size : Int) ≤ 512 := by omega
  have hr7 : (r : Int) ≤ 7 := by omega
  have hrn : r ≤ 7 := by omega
  have HF := Lib.hid (show Rm.flip s.data.toList k = s.data.toList.set q (s.data.toList.getD q 0 ^^^ UInt8.ofNat (2 ^ r)) by unfold Rm.flip; rw [← hq, ← hr])
  have HQ := Lib.hid (show q < s.data.toList.length by rw [Array.length_toList, hq]; exact hk)
  rw [← hq] at h0
  rw [← hr] at h1
  clear hk hq hr HG
  obtain ⟨v, o, hcv, hown⟩ := own_of_string w s (by omega)
  obtain ⟨gb, cap, rfl, hgb⟩ := hown.slice
  have hl : s.data.toList.length = s.size := Array.length_toList
  rw [hl] at hcv hown
  have HO := Lib.hid hown.toZ
  have HB := Lib.hid (show Below w.heap.size w (w.drew.alloc o) from (Below.refl _ w).drew.alloc (Nat.le_refl _) o)
  obtain ⟨W, hW⟩ : ∃ W, W = w.drew.alloc o := ⟨_, rfl⟩
  rw [← hW] at hcv HO HB
  have c1 := HO.out.cell q HQ.out
  have f1 := HO.out.frozen q HQ.out
  obtain ⟨b, hb⟩ : ∃ b, b = s.data.toList[q]'HQ.out := ⟨_, rfl⟩
  have HGD := Lib.hid (show s.data.toList.getD q 0 = b by rw [List.getD_eq_getElem?_getD, List.getElem?_eq_getElem HQ.out, hb]; rfl)
  rw [← hb] at c1
  unfold bcell at c1
  have HX := Lib.hid (show bits .xor .u8 (b.toNat : Int) ((2 : Int) ^ r % 256) = ((b ^^^ UInt8.ofNat (2 ^ r)).toNat : Int) by
    have h2 : 2 ^ r ≤ 2 ^ 7 := Nat.pow_le_pow_right (by decide) hrn
    have e : (2 : Int) ^ r % 256 = ((2 ^ r : Nat) : Int) := by
      rw [show (2 : Int) ^ r = ((2 ^ r : Nat) : Int) by rw [Int.natCast_pow]; rfl]
      generalize 2 ^ r = P at *
      omega
    rw [e]
    generalize 2 ^ r = P at *
    rw [u8_xor_nat _ _ b.toNat_lt (by omega), UInt8.toNat_xor, UInt8.toNat_ofNat', Nat.mod_eq_of_lt (by omega)])
  clear hown hl hW hb
  go_enter Tryz.func122, Tryz.ntmps122
  go_wp2
  go_region
  rw [HX.out]
  obtain ⟨Y, hY⟩ : ∃ Y, Y = (W.setCell ⟨gb, q, none⟩ (.int .u8 (b ^^^ UInt8.ofNat (2 ^ r)).toNat)).drew := ⟨_, rfl⟩
  rw [← hY]
  have h2 : OwnZ false w.heap.size Y (.slice (some ⟨gb, 0, none⟩) s.size cap) (Rm.flip s.data.toList k) := by
    rw [HF.out, HGD.out, hY]
    exact (HO.out.store q (b ^^^ UInt8.ofNat (2 ^ r))).but ((But.refl (fun _ => False) _).drew) (fun _ _ h => h)
  have hback := h2.back
  have HB2 := Lib.hid (show Below w.heap.size w Y by rw [hY]; exact (HB.out.setCell (by show w.heap.size ≤ gb; exact hgb) _).drew)
  clear h2 hY
  go_wp2
  go_ret
  exact ⟨rfl, HB2.out⟩
end Go.Proofs.YtahnhhhhfioibaaGreatDoor
