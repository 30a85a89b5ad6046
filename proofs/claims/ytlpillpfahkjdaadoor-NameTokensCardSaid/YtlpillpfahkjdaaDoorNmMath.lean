/- Names, and the keys of what bears them: mathematics (no function of the program is named here). -/
import Derived.Test.YtlpillpfahkjdaaDoorPkMath
namespace Go.Proofs.YtlpillpfahkjdaaDoor
namespace Nm
open Pk
open Wl (enc dec enc_length dec_enc)

def letter (c : UInt8) : Bool := (decide (97 ≤ c) && decide (c ≤ 122)) || (decide (48 ≤ c) && decide (c ≤ 57)) || c == 45
def bucket (s : Text) : Bool := decide (3 ≤ s.length) && decide (s.length ≤ 16) && s.head? != some 45 && s.getLast? != some 45 && s.all letter
def item (s : Text) : Bool := decide (1 ≤ s.length) && decide (s.length ≤ 40) && !s.contains 0
def under (kind : UInt8) (parts : List Text) : Text := if parts.any (·.contains 0) then [] else kind :: parts.flatMap (· ++ [0])
/-- The key of a kind, of names, with eight bytes behind them. -/
def key (kind : UInt8) (b i t : Text) : Text := if bucket b && item i then kind :: (b ++ [0] ++ (i ++ [0] ++ t)) else []
def read (kind : UInt8) (s : Text) : Option (Text × Text × Text) :=
  match s with
  | [] => none
  | c :: r => if c ≠ kind then none else match cut r with
    | none => none
    | some (b, r1) => match cut r1 with
      | none => none
      | some (i, t) => if bucket b && item i && decide (t.length = 8) then some (b, i, t) else none
theorem letter_ne {c : UInt8} (h : letter c = true) : c ≠ 0 := by
  rintro rfl
  revert h
  decide
theorem bucket_zero {s : Text} (h : bucket s = true) : (0 : UInt8) ∉ s := by
  unfold bucket at h
  simp only [Bool.and_eq_true, List.all_eq_true] at h
  exact fun hm => letter_ne (h.2 0 hm) rfl
theorem item_zero {s : Text} (h : item s = true) : (0 : UInt8) ∉ s := by
  unfold item at h
  simp only [Bool.and_eq_true, Bool.not_eq_true', List.contains_eq_mem, decide_eq_false_iff_not] at h
  exact h.2
theorem bucket_len {s : Text} (h : bucket s = true) : 3 ≤ s.length ∧ s.length ≤ 16 := by
  unfold bucket at h
  simp only [Bool.and_eq_true, decide_eq_true_eq] at h
  exact h.1.1.1
theorem item_len {s : Text} (h : item s = true) : 1 ≤ s.length ∧ s.length ≤ 40 := by
  unfold item at h
  simp only [Bool.and_eq_true, decide_eq_true_eq] at h
  exact h.1
theorem key_some {kind : UInt8} {b i t : Text} (hb : bucket b = true) (hi : item i = true) : key kind b i t = kind :: (b ++ [0] ++ (i ++ [0] ++ t)) := by
  unfold key
  rw [hb, hi]; rfl
theorem key_none {kind : UInt8} {b i t : Text} (h : ¬ (bucket b = true ∧ item i = true)) : key kind b i t = [] := by
  unfold key
  rw [if_neg (by rw [Bool.and_eq_true]; exact h)]
theorem key_len {kind : UInt8} {b i t : Text} (ht : t.length = 8) : (key kind b i t).length ≤ 67 := by
  by_cases h : bucket b = true ∧ item i = true
  · rw [key_some h.1 h.2]
    have h1 := bucket_len h.1
    have h2 := item_len h.2
    simp only [List.length_cons, List.length_append, List.length_nil]
    omega
  · rw [key_none h]; exact Nat.zero_le _
theorem key_ne {kind : UInt8} {b i t : Text} : key kind b i t = [] ↔ ¬ (bucket b = true ∧ item i = true) := by
  refine ⟨fun h hn => ?_, key_none⟩
  rw [key_some hn.1 hn.2] at h; cases h
theorem read_key {kind : UInt8} {b i t : Text} (hb : bucket b = true) (hi : item i = true) (ht : t.length = 8) : read kind (key kind b i t) = some (b, i, t) := by
  rw [key_some hb hi]
  unfold read
  simp only [ne_eq, not_true_eq_false, if_false]
  rw [cut_part b _ (bucket_zero hb)]
  simp only
  rw [cut_part i _ (item_zero hi)]
  simp only [hb, hi, ht, decide_true, Bool.and_self, if_true]
theorem read_other {kind k2 : UInt8} (h : k2 ≠ kind) (s : Text) : read kind (k2 :: s) = none := by
  show (if k2 ≠ kind then none else _) = none
  rw [if_pos h]
theorem cut_some : ∀ {s x y : Text}, cut s = some (x, y) → s = x ++ [0] ++ y ∧ (0 : UInt8) ∉ x
  | [], _, _, h => by cases h
  | c :: r, x, y, h => by
    unfold cut at h
    by_cases hc : c = 0
    · rw [if_pos hc] at h
      injection h with h; injection h with h1 h2
      subst h1 h2 hc
      exact ⟨rfl, List.not_mem_nil⟩
    · rw [if_neg hc] at h
      cases e : cut r with
      | none => rw [e] at h; cases h
      | some p =>
        obtain ⟨a, b⟩ := p
        rw [e] at h
        injection h with h; injection h with h1 h2
        subst h1 h2
        obtain ⟨h3, h4⟩ := cut_some e
        refine ⟨by rw [h3]; rfl, fun hm => ?_⟩
        rcases List.mem_cons.1 hm with h5 | h5
        · exact hc h5.symm
        · exact h4 h5
/-- What is read is written as just these bytes. -/
theorem read_some {kind : UInt8} {s b i t : Text} (h : read kind s = some (b, i, t)) : bucket b = true ∧ item i = true ∧ t.length = 8 ∧ key kind b i t = s := by
  unfold read at h
  cases s with
  | nil => cases h
  | cons c r =>
    simp only at h
    by_cases hc : c = kind
    · rw [if_neg (not_not_intro hc)] at h
      cases e : cut r with
      | none => rw [e] at h; cases h
      | some p =>
        obtain ⟨x, r1⟩ := p
        rw [e] at h
        simp only at h
        cases e2 : cut r1 with
        | none => rw [e2] at h; cases h
        | some q =>
          obtain ⟨y, u⟩ := q
          rw [e2] at h
          simp only at h
          split at h
          · next hg =>
            injection h with h; injection h with h1 h2; injection h2 with h2 h3
            subst h1 h2 h3
            simp only [Bool.and_eq_true, decide_eq_true_eq] at hg
            refine ⟨hg.1.1, hg.1.2, hg.2, ?_⟩
            rw [key_some hg.1.1 hg.1.2, hc, (cut_some e).1, (cut_some e2).1]
          · cases h
    · rw [if_pos hc] at h; cases h

/-! ### Order. -/
theorem lt_irrefl : ∀ a : Text, lt a a = false
  | [] => rfl
  | c :: a => by show (decide (c < c) || (c == c && lt a a)) = false; rw [lt_irrefl a]; simp [UInt8.lt_irrefl]
theorem lt_same (a x y : Text) : lt (a ++ x) (a ++ y) = lt x y := by
  induction a with
  | nil => rfl
  | cons c a ih =>
    show (decide (c < c) || (c == c && lt (a ++ x) (a ++ y))) = _
    rw [ih]
    simp [UInt8.lt_irrefl]
/-- Keys of names stand in the order of buckets, then items, then what stands behind. -/
theorem key_lt {kind : UInt8} {b i t b' i' t' : Text} (hb : bucket b = true) (hi : item i = true) (hb' : bucket b' = true) (hi' : item i' = true) :
    lt (key kind b i t) (key kind b' i' t') = if b = b' then (if i = i' then lt t t' else lt i i') else lt b b' := by
  rw [key_some hb hi, key_some hb' hi', show kind :: (b ++ [0] ++ (i ++ [0] ++ t)) = [kind] ++ (b ++ [0] ++ (i ++ [0] ++ t)) from rfl, show kind :: (b' ++ [0] ++ (i' ++ [0] ++ t')) = [kind] ++ (b' ++ [0] ++ (i' ++ [0] ++ t')) from rfl, lt_same]
  by_cases e : b = b'
  · subst e
    rw [if_pos rfl, lt_same]
    by_cases e2 : i = i'
    · subst e2
      rw [if_pos rfl, lt_same]
    · rw [if_neg e2, lt_part _ _ _ _ (item_zero hi) (item_zero hi') e2]
  · rw [if_neg e, lt_part _ _ _ _ (bucket_zero hb) (bucket_zero hb') e]
theorem key_inj {kind : UInt8} {b i t b' i' t' : Text} (hb : bucket b = true) (hi : item i = true) (hb' : bucket b' = true) (hi' : item i' = true) (ht : t.length = 8) (ht' : t'.length = 8) (h : key kind b i t = key kind b' i' t') : b = b' ∧ i = i' ∧ t = t' := by
  have h1 := read_key (kind := kind) hb hi ht
  rw [h, read_key hb' hi' ht'] at h1
  injection h1 with h1; injection h1 with h1 h2; injection h2 with h2 h3
  exact ⟨h1.symm, h2.symm, h3.symm⟩
theorem falls_lt {a b : Nat} (ha : a < 2 ^ 64) (hb : b < 2 ^ 64) : lt (enc 8 (18446744073709551615 - a)) (enc 8 (18446744073709551615 - b)) = decide (b < a) := by
  rw [lt_enc 8 _ _ (by omega) (by omega)]
  rw [Bool.eq_iff_iff, decide_eq_true_eq, decide_eq_true_eq]
  omega

/-! ### Behind a text. -/
def behindR : Text → Text
  | [] => []
  | c :: r => if c < 255 then (c + 1) :: r else behindR r
/-- The least text above all that begin with s; "" if there is none. -/
def behind (s : Text) : Text := (behindR s.reverse).reverse
theorem behind_snoc (s : Text) (c : UInt8) : behind (s ++ [c]) = if c < 255 then s ++ [c + 1] else behind s := by
  unfold behind
  rw [List.reverse_append, List.reverse_singleton, List.singleton_append]
  show (if c < 255 then (c + 1) :: s.reverse else behindR s.reverse).reverse = _
  split
  · rw [List.reverse_cons, List.reverse_reverse]
  · rfl
theorem behind_nil : behind [] = [] := rfl
theorem lt_next {c : UInt8} (h : c < 255) : c < c + 1 := by
  rw [UInt8.lt_iff_toNat_lt] at h ⊢
  have h255 : (255 : UInt8).toNat = 255 := rfl
  rw [h255] at h
  rw [UInt8.toNat_add]
  have h1 : (1 : UInt8).toNat = 1 := rfl
  rw [h1]
  omega
theorem behind_above : ∀ (n : Nat) (s : Text), s.length = n → behind s ≠ [] → ∀ x, lt (s ++ x) (behind s) = true
  | 0, s, hs, h, x => by rw [List.length_eq_zero_iff.1 hs] at h; exact absurd behind_nil h
  | n + 1, s, hs, h, x => by
    obtain ⟨m, c, rfl, hm⟩ := snoc_cases s n hs
    rw [behind_snoc] at h ⊢
    split
    · next hc =>
      rw [List.append_assoc, lt_same]
      show (decide (c < c + 1) || _) = true
      rw [decide_eq_true (lt_next hc)]; rfl
    · next hc =>
      rw [if_neg hc] at h
      rw [List.append_assoc]
      exact behind_above n m hm h _
/-- What is at or above p ++ [0], and below p ++ [1], is what begins with p ++ [0]. -/
theorem within_iff : ∀ (p s : Text), ((!lt s (p ++ [0])) && lt s (p ++ [1])) = (p ++ [0]).isPrefixOf s
  | [], [] => rfl
  | [], c :: s => by
    show ((!(decide (c < 0) || (c == 0 && lt s []))) && (decide (c < 1) || (c == 1 && lt s []))) = ((0 : UInt8) == c && List.isPrefixOf [] s)
    have h1 : lt s [] = false := by cases s <;> rfl
    rw [h1]
    simp only [Bool.and_false, Bool.or_false]
    by_cases hc : c = 0
    · subst hc; cases s <;> rfl
    · have h2 : ¬ c < 1 := by
        rw [UInt8.lt_iff_toNat_lt]
        have : ¬ c.toNat = 0 := fun e => hc (UInt8.toNat.inj e)
        have h1 : (1 : UInt8).toNat = 1 := rfl
        rw [h1]; omega
      have h3 : ((0 : UInt8) == c) = false := by rw [beq_eq_false_iff_ne]; exact fun e => hc e.symm
      rw [decide_eq_false h2, h3]
      simp
  | c :: p, [] => rfl
  | c :: p, d :: s => by
    have ih := within_iff p s
    show ((!(decide (d < c) || (d == c && lt s (p ++ [0])))) && (decide (d < c) || (d == c && lt s (p ++ [1])))) = (c == d && (p ++ [0]).isPrefixOf s)
    rw [← ih]
    by_cases e : d = c
    · subst e
      simp [UInt8.lt_irrefl]
    · have h1 : (d == c) = false := by rw [beq_eq_false_iff_ne]; exact e
      have h2 : (c == d) = false := by rw [beq_eq_false_iff_ne]; exact fun h => e h.symm
      rw [h1, h2]
      simp
theorem zero_not (a : Text) : a.contains 0 = true ↔ (0 : UInt8) ∈ a := by
  rw [List.contains_eq_mem, decide_eq_true_eq]
theorem under_ok {kind : UInt8} {parts : List Text} (h : ∀ p ∈ parts, (0 : UInt8) ∉ p) : under kind parts = kind :: parts.flatMap (· ++ [0]) := by
  unfold under
  rw [if_neg]
  intro ha
  obtain ⟨p, hp, hz⟩ := List.any_eq_true.1 ha
  exact h p hp ((zero_not p).1 hz)
/-- Under one bucket are the keys that bear its name, and no others. -/
theorem under_bucket {kind : UInt8} {b b' i' t' : Text} (hb : bucket b = true) (hb' : bucket b' = true) (hi' : item i' = true) : (under kind [b]).isPrefixOf (key kind b' i' t') = decide (b' = b) := by
  rw [under_ok (by intro p hp; rw [List.mem_singleton.1 hp]; exact bucket_zero hb), key_some hb' hi']
  show (kind == kind && List.isPrefixOf (b ++ [0] ++ []) _) = _
  rw [beq_self_eq_true, Bool.true_and, List.append_nil, Bool.eq_iff_iff, decide_eq_true_eq, List.isPrefixOf_iff_prefix]
  refine ⟨fun ⟨r, hr⟩ => ?_, fun e => by rw [e]; exact ⟨_, rfl⟩⟩
  have h1 := cut_part b r (bucket_zero hb)
  rw [hr, cut_part b' _ (bucket_zero hb')] at h1
  injection h1 with h1; injection h1
theorem under_item {kind : UInt8} {b i b' i' t' : Text} (hb : bucket b = true) (hi : item i = true) (hb' : bucket b' = true) (hi' : item i' = true) : (under kind [b, i]).isPrefixOf (key kind b' i' t') = (decide (b' = b) && decide (i' = i)) := by
  rw [under_ok (by
    intro p hp
    rcases List.mem_cons.1 hp with rfl | hp
    · exact bucket_zero hb
    · rw [List.mem_singleton.1 hp]; exact item_zero hi), key_some hb' hi']
  show (kind == kind && List.isPrefixOf (b ++ [0] ++ (i ++ [0] ++ [])) _) = _
  rw [beq_self_eq_true, Bool.true_and, List.append_nil, Bool.eq_iff_iff, Bool.and_eq_true, decide_eq_true_eq, decide_eq_true_eq, List.isPrefixOf_iff_prefix]
  refine ⟨fun ⟨r, hr⟩ => ?_, fun ⟨e1, e2⟩ => by rw [e1, e2]; exact ⟨t', by simp only [List.append_assoc]⟩⟩
  rw [List.append_assoc] at hr
  have h1 := cut_part b (i ++ [0] ++ r) (bucket_zero hb)
  rw [hr, cut_part b' _ (bucket_zero hb')] at h1
  injection h1 with h1; injection h1 with h1 h2
  have h3 := cut_part i r (item_zero hi)
  rw [← h2, cut_part i' _ (item_zero hi')] at h3
  injection h3 with h3; injection h3 with h3
  exact ⟨h1, h3⟩
/-- Under's text ends in 0, so that what is behind it ends in 1. -/
theorem under_last {kind : UInt8} {parts : List Text} (h : ∀ p ∈ parts, (0 : UInt8) ∉ p) (hne : parts ≠ []) : ∃ p, under kind parts = p ++ [0] ∧ behind (under kind parts) = p ++ [1] := by
  rw [under_ok h]
  obtain ⟨l, a, rfl⟩ : ∃ l a, parts = l ++ [a] := by
    rcases List.eq_nil_or_concat parts with e | ⟨l, a, e⟩
    · exact absurd e hne
    · exact ⟨l, a, by rw [e, List.concat_eq_append]⟩
  have e : kind :: (l ++ [a]).flatMap (· ++ [0]) = (kind :: (l.flatMap (· ++ [0]) ++ a)) ++ [0] := by
    rw [List.flatMap_append, List.flatMap_singleton, List.cons_append, List.append_assoc]
  refine ⟨kind :: (l.flatMap (· ++ [0]) ++ a), e, ?_⟩
  rw [e, behind_snoc, if_pos (by decide)]
  rfl
end Nm
end Go.Proofs.YtlpillpfahkjdaaDoor
