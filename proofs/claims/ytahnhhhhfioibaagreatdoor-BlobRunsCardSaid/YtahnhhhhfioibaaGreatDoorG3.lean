/- Elder texts, merged (3). -/
import Derived.Test.YtahnhhhhfioibaaGreatDoorG1
import Derived.Lib.Hide
import Derived.Lib.SlBytesConst
import Derived.Laws.Bits128
import Derived.BigQuiet
import Derived.Deep.RegionLaw
import Derived.BigRegion
import Derived.Deep.DeepFit
import Derived.Outline
import Derived.Deep.RegionHeld3
namespace Go.Proofs.YtahnhhhhfioibaaGreatDoor
namespace Wl

abbrev Text := List UInt8

/-! ### Numbers in bytes, the greatest first. -/
def enc : Nat → Nat → Text
  | 0, _ => []
  | w + 1, n => enc w (n / 256) ++ [UInt8.ofNat n]
def dec (l : Text) : Nat := l.foldl (fun a b => a * 256 + b.toNat) 0
theorem enc_length : ∀ w n, (enc w n).length = w
  | 0, _ => rfl
  | w + 1, n => by rw [enc, List.length_append, enc_length w]; rfl
theorem dec_append (l : Text) (b : UInt8) : dec (l ++ [b]) = dec l * 256 + b.toNat := by unfold dec; rw [List.foldl_append]; rfl
theorem dec_enc : ∀ w n, n < 256 ^ w → dec (enc w n) = n
  | 0, n, h => by simp at h; subst h; rfl
  | w + 1, n, h => by
    rw [enc, dec_append, dec_enc w (n / 256) (Nat.div_lt_of_lt_mul (by rw [Nat.mul_comm, ← Nat.pow_succ]; exact h)), UInt8.toNat_ofNat']
    omega
theorem dec_snoc_lt (l : Text) : dec l < 256 ^ l.length := by
  induction h : l.length generalizing l with
  | zero => rw [List.length_eq_zero_iff.1 h]; decide
  | succ n ih =>
    rcases List.eq_nil_or_concat l with rfl | ⟨m, b, rfl⟩
    · cases h
    · rw [List.concat_eq_append, List.length_append] at h
      have := ih m (by simpa using h)
      have hb := b.toNat_lt
      rw [List.concat_eq_append, dec_append, Nat.pow_succ]
      have : dec m * 256 + 256 ≤ 256 ^ n * 256 := by
        have h1 : dec m + 1 ≤ 256 ^ n := this
        calc dec m * 256 + 256 = (dec m + 1) * 256 := by omega
          _ ≤ 256 ^ n * 256 := Nat.mul_le_mul_right _ h1
      omega

/-! ### What stands in sectors. -/
def title : Text := [99, 111, 111, 112, 101, 114, 97, 103, 101, 32, 108, 111, 103, 10]
def first (size ring at_ num : Nat) : Text := title ++ (enc 8 size ++ (enc 8 ring ++ (enc 8 at_ ++ enc 8 num)))
def head (num n : Nat) : Text := 104 :: (enc 8 num ++ enc 4 n)
def sizeOf (n : Nat) : Nat := 1 + (516 * n + 510) / 511
theorem first_length (size ring at_ num : Nat) : (first size ring at_ num).length = 46 := by simp [first, enc_length, title]
theorem head_length (num n : Nat) : (head num n).length = 13 := by simp [head, enc_length]
def blank (s : Text) : Bool := s.all (· == 0)
def holds (s t : Text) : Bool := t.isPrefixOf s && blank (s.drop t.length)
def readHead (s : Text) (ring : Nat) : Nat × Nat × Bool :=
  if dec ((s.drop 1).take 8) = 0 ∨ dec ((s.drop 9).take 4) = 0 ∨ ring < dec ((s.drop 9).take 4) ∨ ring < sizeOf (dec ((s.drop 9).take 4)) then (0, 0, false)
  else (dec ((s.drop 1).take 8), dec ((s.drop 9).take 4), holds s (head (dec ((s.drop 1).take 8)) (dec ((s.drop 9).take 4))))
def isPuts (s : Text) : Bool := ([112] : Text).isPrefixOf s
theorem blank_replicate (n : Nat) : blank (List.replicate n 0) = true := by simp [blank]
theorem isPrefixOf_append (a b : Text) : a.isPrefixOf (a ++ b) = true := by
  rw [List.isPrefixOf_iff_prefix]; exact List.prefix_append a b
theorem holds_full (t : Text) : holds (Dk.full t) t = true := by
  unfold holds Dk.full
  rw [isPrefixOf_append, List.drop_left]
  simp [blank_replicate]
theorem head_read (num n : Nat) (h1 : num < 2 ^ 64) (h2 : n < 2 ^ 32) : dec (((Dk.full (head num n)).drop 1).take 8) = num ∧ dec (((Dk.full (head num n)).drop 9).take 4) = n := by
  have e1 : ((Dk.full (head num n)).drop 1).take 8 = enc 8 num := by
    unfold Dk.full head
    rw [List.cons_append, List.drop_succ_cons, List.drop_zero, List.append_assoc, List.take_left' (enc_length 8 num)]
  have e2 : ((Dk.full (head num n)).drop 9).take 4 = enc 4 n := by
    unfold Dk.full head
    rw [List.cons_append, List.drop_succ_cons, List.append_assoc, List.drop_left' (enc_length 8 num), List.take_left' (enc_length 4 n)]
  rw [e1, e2]
  exact ⟨dec_enc 8 num (by omega), dec_enc 4 n (by omega)⟩
theorem readHead_head (num n ring : Nat) (h1 : 1 ≤ num) (h1' : num < 2 ^ 64) (h2 : 1 ≤ n) (h3 : n ≤ ring) (h4 : sizeOf n ≤ ring) (h5 : ring ≤ 4096) : readHead (Dk.full (head num n)) ring = (num, n, true) := by
  obtain ⟨e1, e2⟩ := head_read num n h1' (by omega)
  unfold readHead
  rw [e1, e2, if_neg (by omega), holds_full]
theorem readHead_other (s : Text) (ring : Nat) (h : ([104] : Text).isPrefixOf s = false) : (readHead s ring).2.2 = false := by
  unfold readHead
  split
  · rfl
  · show holds s _ = false
    unfold holds
    cases s with
    | nil => rfl
    | cons a s =>
      have : (104 : UInt8) ≠ a := by
        intro e; subst e; simp [List.isPrefixOf] at h
      simp [head, List.isPrefixOf, this]
theorem blank_other (s : Text) (hb : blank s = true) : ([104] : Text).isPrefixOf s = false := by
  cases s with
  | nil => rfl
  | cons a s =>
    simp only [blank, List.all_cons, Bool.and_eq_true, beq_iff_eq] at hb
    simp [List.isPrefixOf, hb.1]
theorem puts_other (s : Text) (hb : isPuts s = true) : ([104] : Text).isPrefixOf s = false := by
  cases s with
  | nil => rfl
  | cons a s =>
    simp only [isPuts, List.isPrefixOf, Bool.and_true, beq_iff_eq] at hb
    subst hb
    simp [List.isPrefixOf]

/-! ### Groups: homes' numbers, rising, each with its text. -/
abbrev Grp := List (Nat × Text)
def ins (k : Nat) (t : Text) : Grp → Grp
  | [] => [(k, t)]
  | x :: m => if k < x.1 then (k, t) :: x :: m else if k = x.1 then (k, t) :: m else x :: ins k t m
def look (k : Nat) : Grp → Option Text
  | [] => none
  | x :: m => if x.1 = k then some x.2 else look k m
def Rising (m : Grp) : Prop := m.Pairwise fun x y => x.1 < y.1
theorem look_mem {k : Nat} {t : Text} : ∀ {m : Grp}, look k m = some t → (k, t) ∈ m
  | x :: m, h => by
    unfold look at h
    split at h
    · rename_i e
      injection h with h
      subst e h
      exact List.mem_cons_self
    · exact List.mem_cons_of_mem _ (look_mem h)
theorem look_of_mem {k : Nat} {t : Text} : ∀ {m : Grp}, Rising m → (k, t) ∈ m → look k m = some t
  | x :: m, hr, h => by
    obtain ⟨h1, h2⟩ := List.pairwise_cons.1 hr
    unfold look
    rcases List.mem_cons.1 h with rfl | h
    · rw [if_pos rfl]
    · have := h1 _ h
      rw [if_neg (by simp only at this; omega), look_of_mem h2 h]
theorem look_none {k : Nat} : ∀ {m : Grp}, look k m = none ↔ ∀ x ∈ m, x.1 ≠ k
  | [] => by simp [look]
  | x :: m => by
    unfold look
    split
    · rename_i e
      simp [e]
    · rename_i e
      rw [look_none]
      simp [e]
theorem look_ins (k : Nat) (t : Text) (j : Nat) : ∀ m : Grp, look j (ins k t m) = if j = k then some t else look j m
  | [] => by simp only [ins, look]; split <;> split <;> simp_all
  | x :: m => by
    unfold ins
    split
    · rename_i h
      simp only [look]
      by_cases hj : j = k
      · simp [hj]
      · rw [if_neg (Ne.symm hj), if_neg hj]
    · split
      · rename_i h1 h2
        simp only [look]
        by_cases hj : j = k
        · simp [hj]
        · rw [if_neg (Ne.symm hj), if_neg hj, if_neg (by omega)]
      · rename_i h1 h2
        simp only [look, look_ins k t j m]
        by_cases hj : j = k
        · subst hj
          rw [if_neg (by omega)]
          simp
        · simp [hj]
theorem ins_mem {k : Nat} {t : Text} {x : Nat × Text} : ∀ {m : Grp}, x ∈ ins k t m → x = (k, t) ∨ x ∈ m
  | [], h => by simp only [ins, List.mem_singleton] at h; exact .inl h
  | y :: m, h => by
    unfold ins at h
    split at h
    · rcases List.mem_cons.1 h with h | h
      · exact .inl h
      · exact .inr h
    · split at h
      · rcases List.mem_cons.1 h with h | h
        · exact .inl h
        · exact .inr (List.mem_cons_of_mem _ h)
      · rcases List.mem_cons.1 h with h | h
        · exact .inr (by rw [h]; exact List.mem_cons_self)
        · rcases ins_mem h with h | h
          · exact .inl h
          · exact .inr (List.mem_cons_of_mem _ h)
theorem ins_rising (k : Nat) (t : Text) : ∀ {m : Grp}, Rising m → Rising (ins k t m)
  | [], _ => by simp [ins, Rising]
  | y :: m, h => by
    obtain ⟨h1, h2⟩ := List.pairwise_cons.1 h
    unfold ins
    split
    · rename_i hk
      refine List.pairwise_cons.2 ⟨fun z hz => ?_, h⟩
      rcases List.mem_cons.1 hz with rfl | hz
      · exact hk
      · exact Nat.lt_trans hk (h1 z hz)
    · split
      · rename_i _ hk
        exact List.pairwise_cons.2 ⟨fun z hz => by have := h1 z hz; simp only; omega, h2⟩
      · refine List.pairwise_cons.2 ⟨fun z hz => ?_, ins_rising k t h2⟩
        rcases ins_mem hz with rfl | hz
        · simp only; omega
        · exact h1 z hz
theorem ext : ∀ {m n : Grp}, Rising m → Rising n → (∀ k, look k m = look k n) → m = n
  | [], [], _, _, _ => rfl
  | [], y :: n, _, _, h => by have := h y.1; simp [look] at this
  | x :: m, [], _, _, h => by have := h x.1; simp [look] at this
  | x :: m, y :: n, hm, hn, h => by
    obtain ⟨m1, m2⟩ := List.pairwise_cons.1 hm
    obtain ⟨n1, n2⟩ := List.pairwise_cons.1 hn
    have low : ∀ (z : Nat × Text) (l : Grp), (∀ a ∈ l, z.1 < a.1) → ∀ j, j ≤ z.1 → look j l = none := fun z l hl j hj => look_none.2 fun a ha e => by have := hl a ha; omega
    have hxy : x.1 = y.1 := by
      rcases Nat.lt_trichotomy x.1 y.1 with hlt | he | hlt
      · have := h x.1
        simp only [look] at this
        rw [if_true, if_neg (by omega), low y n n1 _ (by omega)] at this
        cases this
      · exact he
      · have := h y.1
        simp only [look] at this
        rw [if_true, if_neg (by omega), low x m m1 _ (by omega)] at this
        cases this
    have hx2 : x.2 = y.2 := by
      have := h x.1
      simp only [look] at this
      rw [if_true, if_pos hxy.symm] at this
      injection this
    have he : x = y := Prod.ext hxy hx2
    subst he
    refine congrArg _ (ext m2 n2 fun k => ?_)
    by_cases hk : k ≤ x.1
    · rw [low x m m1 k hk, low x n n1 k hk]
    · have := h k
      simp only [look] at this
      rwa [if_neg (by omega), if_neg (by omega)] at this
/-- All that g says, over m. -/
def merge (m g : Grp) : Grp := g.foldl (fun m x => ins x.1 x.2 m) m
theorem merge_rising : ∀ (g : Grp) {m : Grp}, Rising m → Rising (merge m g)
  | [], _, h => h
  | x :: g, _, h => merge_rising g (ins_rising x.1 x.2 h)
theorem look_merge : ∀ (g : Grp) (m : Grp) (k : Nat), Rising g → look k (merge m g) = (look k g).or (look k m)
  | [], m, k, _ => rfl
  | x :: g, m, k, hr => by
    obtain ⟨h1, h2⟩ := List.pairwise_cons.1 hr
    show look k (merge (ins x.1 x.2 m) g) = _
    rw [look_merge g _ k h2, look_ins]
    simp only [look]
    by_cases hk : x.1 = k
    · subst hk
      have : look x.1 g = none := look_none.2 fun a ha e => by have := h1 a ha; omega
      simp [this]
    · rw [if_neg (Ne.symm hk), if_neg hk]
/-- What a group puts, put to a list. -/
theorem puts_look {L : List Text} : ∀ {g : Grp} (_ : Rising g) (j : Nat), (Dk.puts L g)[j]? = if j < L.length then (look j g).or L[j]? else none := by
  intro g hr
  induction g generalizing L with
  | nil =>
    intro j
    rw [Dk.puts_nil]
    split
    · rfl
    · rename_i h; exact List.getElem?_eq_none (by omega)
  | cons x g ih =>
    intro j
    obtain ⟨h1, h2⟩ := List.pairwise_cons.1 hr
    rw [Dk.puts_cons, ih h2, List.length_set]
    by_cases hj : j < L.length
    · rw [if_pos hj, if_pos hj]
      simp only [look]
      by_cases hk : x.1 = j
      · subst hk
        have : look x.1 g = none := look_none.2 fun a ha e => by have := h1 a ha; omega
        simp [this, hj]
      · rw [if_neg hk, List.getElem?_set_ne hk]
    · rw [if_neg hj, if_neg hj]
theorem puts_merge (L : List Text) {m g : Grp} (hm : Rising m) (hg : Rising g) : Dk.puts L (merge m g) = Dk.puts (Dk.puts L m) g := by
  refine List.ext_getElem? fun j => ?_
  rw [puts_look (merge_rising g hm), puts_look hg, Dk.puts_length, puts_look hm, look_merge g m j hg]
  split
  · cases look j g <;> simp
  · rfl

/-! ### A group's puts, in sectors. -/
def pack (g : Grp) : Text := g.flatMap fun x => enc 4 x.1 ++ x.2
def pieces (l : Text) : List Text := (List.range ((l.length + 510) / 511)).map fun k => (l.drop (511 * k)).take 511
def putsTexts (g : Grp) : List Text := (pieces (pack g)).map fun p => 112 :: p
def Fits (homes : Nat) (g : Grp) : Prop := Rising g ∧ ∀ x ∈ g, x.1 < homes ∧ x.2.length = 512
theorem pack_nil : pack [] = [] := rfl
theorem pack_cons (x : Nat × Text) (g : Grp) : pack (x :: g) = enc 4 x.1 ++ (x.2 ++ pack g) := by simp [pack]
theorem pack_append (a b : Grp) : pack (a ++ b) = pack a ++ pack b := by simp [pack]
theorem pack_length {homes : Nat} : ∀ {g : Grp}, (∀ x ∈ g, x.1 < homes ∧ x.2.length = 512) → (pack g).length = 516 * g.length
  | [], _ => rfl
  | x :: g, h => by
    rw [pack_cons, List.length_append, List.length_append, enc_length, (h x List.mem_cons_self).2, pack_length fun y hy => h y (List.mem_cons_of_mem _ hy), List.length_cons]
    omega
theorem pieces_length (l : Text) : (pieces l).length = (l.length + 510) / 511 := by simp [pieces]
theorem piece_length (l : Text) (k : Nat) : ((l.drop (511 * k)).take 511).length = min 511 (l.length - 511 * k) := by simp
theorem putsTexts_length {homes : Nat} {g : Grp} (h : ∀ x ∈ g, x.1 < homes ∧ x.2.length = 512) : 1 + (putsTexts g).length = sizeOf g.length := by
  rw [putsTexts, List.length_map, pieces_length, pack_length h]; rfl
theorem putsTexts_le (g : Grp) : ∀ s ∈ putsTexts g, s.length ≤ 512 := by
  intro s hs
  simp only [putsTexts, pieces, List.mem_map, List.mem_range] at hs
  obtain ⟨p, ⟨k, _, rfl⟩, rfl⟩ := hs
  simp; omega
theorem putsTexts_isPuts (g : Grp) : ∀ s ∈ putsTexts g, isPuts (Dk.full s) = true := by
  intro s hs
  simp only [putsTexts, List.mem_map] at hs
  obtain ⟨p, _, rfl⟩ := hs
  simp [Dk.full, isPuts, List.isPrefixOf]
/-- Behind what each sector is: the bytes of all of them, and noughts. -/
theorem sectors_join (l : Text) : (((pieces l).map fun p => (Dk.full (112 :: p)).drop 1)).flatten = l ++ List.replicate (511 * ((l.length + 510) / 511) - l.length) 0 := by
  have key : ∀ m, m ≤ (l.length + 510) / 511 → ((((List.range m).map fun k => (l.drop (511 * k)).take 511).map fun p => (Dk.full (112 :: p)).drop 1)).flatten = l.take (511 * m) ++ List.replicate (511 * m - l.length) 0 := by
    intro m
    induction m with
    | zero => intro _; simp
    | succ m ih =>
      intro hm
      rw [List.range_succ, List.map_append, List.map_append, List.flatten_append, ih (by omega)]
      have e0 : 511 * m - l.length = 0 := by omega
      rw [e0, List.replicate_zero, List.append_nil]
      simp only [List.map_cons, List.map_nil, List.flatten_cons, List.flatten_nil, List.append_nil, Dk.full, List.cons_append, List.drop_succ_cons, List.drop_zero]
      rw [show 511 * (m + 1) = 511 * m + 511 by omega, List.take_add, List.append_assoc]
      congr 2
      simp only [List.length_cons, List.length_take, List.length_drop]
      congr 1
      omega
  have := key _ (Nat.le_refl _)
  rw [show l.take (511 * ((l.length + 510) / 511)) = l from List.take_of_length_le (by omega)] at this
  exact this

/-! ### What lists of puts come to. -/
def gather (homes : Nat) : Grp → List (Int × Text) → Int × Grp
  | g, [] => (0, g)
  | g, p :: ps => if p.1 < 0 ∨ (homes : Int) ≤ p.1 then (2, []) else if 512 < p.2.length then (5, []) else gather homes (ins p.1.toNat (Dk.full p.2) g) ps
theorem gather_cons (homes : Nat) (g : Grp) (p : Int × Text) (ps : List (Int × Text)) : gather homes g (p :: ps) = if p.1 < 0 ∨ (homes : Int) ≤ p.1 then (2, []) else if 512 < p.2.length then (5, []) else gather homes (ins p.1.toNat (Dk.full p.2) g) ps := rfl
theorem gather_append (homes : Nat) : ∀ (a b : List (Int × Text)) (g : Grp), gather homes g (a ++ b) = if (gather homes g a).1 = 0 then gather homes (gather homes g a).2 b else gather homes g a
  | [], b, g => by simp [gather]
  | p :: ps, b, g => by
    rw [List.cons_append, gather_cons, gather_cons]
    split
    · rfl
    · split
      · rfl
      · exact gather_append homes ps b _
theorem fits_ins {homes k : Nat} {t : Text} {g : Grp} (h : Fits homes g) (hk : k < homes) (ht : t.length = 512) : Fits homes (ins k t g) :=
  ⟨ins_rising k t h.1, fun x hx => by
    rcases ins_mem hx with rfl | hx
    · exact ⟨hk, ht⟩
    · exact h.2 x hx⟩
theorem gather_fits (homes : Nat) : ∀ (ps : List (Int × Text)) (g : Grp), Fits homes g → Fits homes (gather homes g ps).2
  | [], g, h => h
  | p :: ps, g, h => by
    unfold gather
    split
    · exact ⟨List.Pairwise.nil, fun x hx => by cases hx⟩
    · split
      · exact ⟨List.Pairwise.nil, fun x hx => by cases hx⟩
      · exact gather_fits homes ps _ (fits_ins h (by omega) (Dk.full_length _ (by omega)))
theorem gather_code (homes : Nat) : ∀ (ps : List (Int × Text)) (g : Grp), (gather homes g ps).1 = 0 ∨ (gather homes g ps).1 = 2 ∨ (gather homes g ps).1 = 5
  | [], g => .inl rfl
  | p :: ps, g => by
    unfold gather
    split
    · exact .inr (.inl rfl)
    · split
      · exact .inr (.inr rfl)
      · exact gather_code homes ps _
theorem fits_nil (homes : Nat) : Fits homes [] := ⟨List.Pairwise.nil, fun x hx => by cases hx⟩
theorem fits_merge {homes : Nat} : ∀ {g _m : Grp}, Fits homes _m → (∀ x ∈ g, x.1 < homes ∧ x.2.length = 512) → Fits homes (merge _m g)
  | [], _, h, _ => h
  | x :: g, _, h, hg => fits_merge (g := g) (fits_ins h (hg x List.mem_cons_self).1 (hg x List.mem_cons_self).2) fun y hy => hg y (List.mem_cons_of_mem _ hy)
end Wl
end Go.Proofs.YtahnhhhhfioibaaGreatDoor

namespace Go.Proofs.YtahnhhhhfioibaaGreatDoor
namespace Wl
open Dk (puts kept full Disk)

/-! ### Writes, each or none of them. -/
theorem puts_at {α : Type} (ws : List (Nat × α)) (p : Nat) : ∀ L : List α, p < L.length → (puts L ws)[p]? = L[p]? ∨ ∃ t, (p, t) ∈ ws ∧ (puts L ws)[p]? = some t := by
  induction ws with
  | nil => intro L _; exact .inl rfl
  | cons x ws ih =>
    intro L hp
    rw [Dk.puts_cons]
    rcases ih (L.set x.1 x.2) (by simpa using hp) with h | ⟨t, h1, h2⟩
    · by_cases e : x.1 = p
      · subst e
        refine .inr ⟨x.2, List.mem_cons_self, ?_⟩
        rw [h, List.getElem?_set_self hp]
      · left
        rw [h, List.getElem?_set_ne e]
    · exact .inr ⟨t, List.mem_cons_of_mem _ h1, h2⟩
theorem puts_hit {α : Type} {p : Nat} {t : α} : ∀ {ws : List (Nat × α)} {L : List α}, p < L.length → (p, t) ∈ ws → (∀ t', (p, t') ∈ ws → t' = t) → (puts L ws)[p]? = some t := by
  intro ws
  induction ws with
  | nil => intro L _ h; cases h
  | cons x ws ih =>
    intro L hp hm hu
    rw [Dk.puts_cons]
    by_cases hin : (p, t) ∈ ws
    · exact ih (by simpa using hp) hin fun t' h => hu t' (List.mem_cons_of_mem _ h)
    · rcases List.mem_cons.1 hm with e | h
      · rw [Dk.puts_other ws p _ (fun y hy e' => hin (by
          have : (p, y.2) ∈ ws := by rw [← e']; exact hy
          rw [hu y.2 (List.mem_cons_of_mem _ this)] at this
          exact this)), ← e]
        exact List.getElem?_set_self hp
      · exact absurd h hin
theorem puts_mem_all {α : Type} {Q : α → Prop} {L : List α} {ws : List (Nat × α)} (h : ∀ s ∈ L, Q s) (hw : ∀ x ∈ ws, Q x.2) : ∀ s ∈ puts L ws, Q s := by
  intro s hs
  rcases Dk.puts_mem ws L s hs with h' | ⟨i, h'⟩
  · exact h s h'
  · exact hw _ h'

/-! ### Places of the ring. -/
def pos (ring i : Nat) : Nat := 1 + i % ring
theorem pos_mod (ring i j : Nat) : pos ring (i % ring + j) = pos ring (i + j) := by unfold pos; rw [Nat.mod_add_mod]
theorem pos_lt {ring : Nat} (h : 0 < ring) (i : Nat) : 1 ≤ pos ring i ∧ pos ring i < 1 + ring := by
  unfold pos; have := Nat.mod_lt i h; omega
theorem pos_inj {ring i j : Nat} (h : pos ring i = pos ring j) (h1 : i ≤ j) (h2 : j < i + ring) : i = j := by
  have hm : j % ring = i % ring := by unfold pos at h; omega
  have hd := Nat.sub_mod_eq_zero_of_mod_eq hm
  have hk := Nat.dvd_of_mod_eq_zero hd
  rcases Nat.eq_zero_or_pos (j - i) with h0 | h0
  · omega
  · have := Nat.le_of_dvd h0 hk; omega

/-! ### What stands on the disk. -/
def Laid (ring : Nat) (F : List Text) : Nat → Nat → List Grp → Prop
  | _, _, [] => True
  | a, n, g :: gs => F[pos ring a]? = some (full (head n g.length)) ∧ (∀ k t, (putsTexts g)[k]? = some t → F[pos ring (a + 1 + k)]? = some (full t)) ∧ Laid ring F (a + sizeOf g.length) (n + 1) gs
def total (gs : List Grp) : Nat := (gs.map fun g => sizeOf g.length).sum
theorem total_cons (g : Grp) (gs : List Grp) : total (g :: gs) = sizeOf g.length + total gs := by simp [total]
theorem total_append (gs hs : List Grp) : total (gs ++ hs) = total gs + total hs := by simp [total]
theorem total_one (g : Grp) : total [g] = sizeOf g.length := by simp [total]
def Old (ring : Nat) (F : List Text) (i N : Nat) : Prop := ∃ s, F[1 + i]? = some s ∧ (blank s = true ∨ isPuts s = true ∨ ∃ m n, readHead s ring = (m, n, true) ∧ m < N)
theorem Old.mono {ring : Nat} {F : List Text} {i N M : Nat} (h : Old ring F i N) (hN : N ≤ M) : Old ring F i M := by
  obtain ⟨s, h1, h2⟩ := h
  refine ⟨s, h1, ?_⟩
  rcases h2 with h2 | h2 | ⟨m, n, h2, h3⟩
  · exact .inl h2
  · exact .inr (.inl h2)
  · exact .inr (.inr ⟨m, n, h2, by omega⟩)
/-- Of all groups what each home gets. -/
def gained (gs : List Grp) : Grp := gs.foldl merge []
theorem gained_rising_from : ∀ (gs : List Grp) (m : Grp), Rising m → Rising (gs.foldl merge m)
  | [], _, h => h
  | g :: gs, _, h => gained_rising_from gs _ (merge_rising g h)
theorem gained_rising (gs : List Grp) : Rising (gained gs) := gained_rising_from gs [] List.Pairwise.nil
theorem gained_append (gs : List Grp) (g : Grp) : gained (gs ++ [g]) = merge (gained gs) g := by simp [gained]
theorem gained_fits_from {homes : Nat} : ∀ (gs : List Grp) (m : Grp), Fits homes m → (∀ g ∈ gs, Fits homes g) → Fits homes (gs.foldl merge m)
  | [], _, h, _ => h
  | g :: gs, _, h, hg => gained_fits_from gs _ (fits_merge h (hg g List.mem_cons_self).2) fun x hx => hg x (List.mem_cons_of_mem _ hx)
theorem gained_fits {homes : Nat} {gs : List Grp} (h : ∀ g ∈ gs, Fits homes g) : Fits homes (gained gs) := gained_fits_from gs [] (fits_nil homes) h

structure Good (ring : Nat) (F : List Text) (a n : Nat) (gs : List Grp) (H : List Text) : Prop where
  r1 : 4 ≤ ring
  r2 : ring ≤ 4096
  len : F.length = 1 + ring + H.length
  hpos : 1 ≤ H.length
  hmax : F.length ≤ 65536
  all : ∀ s ∈ F, s.length = 512
  first : F[0]? = some (full (first F.length ring a n))
  a_lt : a < ring
  n_pos : 1 ≤ n
  n_max : n + gs.length < 1000000
  laid : Laid ring F a n gs
  tot : total gs ≤ ring
  fits : ∀ g ∈ gs, g ≠ [] ∧ Fits H.length g
  old : ∀ i, i < ring → Old ring F i (n + gs.length)
  homes : H = puts (F.drop (1 + ring)) (gained gs)
theorem sizeOf_pos (n : Nat) : 1 ≤ sizeOf n := by unfold sizeOf; omega
theorem sizeOf_ge (n : Nat) (h : 1 ≤ n) : n + 1 ≤ sizeOf n ∧ 2 ≤ sizeOf n := by unfold sizeOf; omega
theorem Laid.same {ring : Nat} {F F' : List Text} : ∀ {gs : List Grp} {a n homes : Nat}, (∀ g ∈ gs, Fits homes g) → Laid ring F a n gs → (∀ i, i < total gs → F'[pos ring (a + i)]? = F[pos ring (a + i)]?) → Laid ring F' a n gs
  | [], _, _, _, _, _, _ => trivial
  | g :: gs, a, n, homes, hf, ⟨h1, h2, h3⟩, hs => by
    have hl := putsTexts_length (hf g List.mem_cons_self).2
    have hp := sizeOf_pos g.length
    rw [total_cons] at hs
    refine ⟨?_, fun k t hk => ?_, Laid.same (fun x hx => hf x (List.mem_cons_of_mem _ hx)) h3 fun i hi => ?_⟩
    · have := hs 0 (by omega)
      rw [Nat.add_zero] at this
      rw [this]; exact h1
    · have hk' : k < (putsTexts g).length := (List.getElem?_eq_some_iff.1 hk).1
      have := hs (1 + k) (by omega)
      rw [← Nat.add_assoc] at this
      rw [this]; exact h2 k t hk
    · have := hs (sizeOf g.length + i) (by omega)
      rw [← Nat.add_assoc] at this
      exact this
theorem Laid.append {ring : Nat} {F : List Text} {g : Grp} : ∀ {gs : List Grp} {a n : Nat}, Laid ring F a n gs → Laid ring F (a + total gs) (n + gs.length) [g] → Laid ring F a n (gs ++ [g])
  | [], _, _, _, h => h
  | x :: gs, a, n, ⟨h1, h2, h3⟩, h => ⟨h1, h2, Laid.append h3 (by
      rw [total_cons, List.length_cons] at h
      rwa [show a + sizeOf x.length + total gs = a + (sizeOf x.length + total gs) by omega, show n + 1 + gs.length = n + (gs.length + 1) by omega])⟩

/-! ### Changes that keep what stands. -/
theorem Good.change {ring : Nat} {F F' : List Text} {a n : Nat} {gs : List Grp} {H : List Text} (h : Good ring F a n gs H) (hl : F'.length = F.length) (ha : ∀ s ∈ F', s.length = 512) (h0 : F'[0]? = F[0]?)
    (hs : ∀ i, i < total gs → F'[pos ring (a + i)]? = F[pos ring (a + i)]?) (ho : ∀ i, i < ring → F'[1 + i]? = F[1 + i]? ∨ ∃ s, F'[1 + i]? = some s ∧ isPuts s = true)
    (hh : puts (F'.drop (1 + ring)) (gained gs) = puts (F.drop (1 + ring)) (gained gs)) : Good ring F' a n gs H :=
  ⟨h.r1, h.r2, hl.trans h.len, h.hpos, by rw [hl]; exact h.hmax, ha, by rw [h0, hl]; exact h.first, h.a_lt, h.n_pos, h.n_max, h.laid.same (fun g hg => (h.fits g hg).2) hs, h.tot, h.fits, fun i hi => by
    rcases ho i hi with e | ⟨s, e, hp⟩
    · obtain ⟨s, h1, h2⟩ := h.old i hi
      exact ⟨s, e.trans h1, h2⟩
    · exact ⟨s, e, .inr (.inl hp)⟩, by rw [hh]; exact h.homes⟩
/-- Texts that homes are to have are written there. -/
theorem Good.toHomes {ring : Nat} {F : List Text} {a n : Nat} {gs : List Grp} {H : List Text} (h : Good ring F a n gs H) (ws : List (Nat × Text)) (hw : ∀ x ∈ ws, ∃ i, x.1 = 1 + ring + i ∧ look i (gained gs) = some x.2 ∧ x.2.length = 512) :
    Good ring (puts F ws) a n gs H := by
  have hlow : ∀ p, p < 1 + ring → (puts F ws)[p]? = F[p]? := fun p hp => Dk.puts_other ws p F fun x hx e => by
    obtain ⟨i, hi, _⟩ := hw x hx; omega
  have hr : 0 < ring := by have := h.r1; omega
  refine h.change (Dk.puts_length _ _) (puts_mem_all h.all fun x hx => (hw x hx).choose_spec.2.2) (hlow 0 (by omega)) (fun i _ => hlow _ (pos_lt hr _).2) (fun i hi => .inl (hlow _ (by omega))) ?_
  refine List.ext_getElem? fun j => ?_
  rw [puts_look (gained_rising gs), puts_look (gained_rising gs), List.length_drop, List.length_drop, Dk.puts_length]
  split
  · rename_i hj
    cases e : look j (gained gs) with
    | some t => rfl
    | none =>
      rw [Option.none_or, Option.none_or, List.getElem?_drop, List.getElem?_drop]
      exact Dk.puts_other ws _ F fun x hx e' => by
        obtain ⟨i, hi, hl, _⟩ := hw x hx
        obtain rfl : i = j := by omega
        rw [e] at hl; cases hl
  · rfl
/-- Puts are written to places of the ring that no group has. -/
theorem Good.toRing {ring : Nat} {F : List Text} {a n : Nat} {gs : List Grp} {H : List Text} (h : Good ring F a n gs H) (ws : List (Nat × Text)) (hw : ∀ x ∈ ws, ∃ i, x.1 = pos ring (a + total gs + i) ∧ total gs + i < ring ∧ isPuts x.2 = true ∧ x.2.length = 512) :
    Good ring (puts F ws) a n gs H := by
  have hr : 0 < ring := by have := h.r1; omega
  have hlen := h.len
  have hlow : ∀ p, (p = 0 ∨ 1 + ring ≤ p) → (puts F ws)[p]? = F[p]? := fun p hp => Dk.puts_other ws p F fun x hx e => by
    obtain ⟨i, hi, _⟩ := hw x hx
    have := pos_lt hr (a + total gs + i); omega
  refine h.change (Dk.puts_length _ _) (puts_mem_all h.all fun x hx => (hw x hx).choose_spec.2.2.2) (hlow 0 (.inl rfl)) (fun i hi => ?_) (fun i hi => ?_) ?_
  · refine Dk.puts_other ws _ F fun x hx e => ?_
    obtain ⟨k, hk, hlt, _⟩ := hw x hx
    rw [hk] at e
    have := pos_inj e.symm (by omega) (by omega)
    omega
  · rcases puts_at ws (1 + i) F (by omega) with e | ⟨t, h1, h2⟩
    · exact .inl e
    · obtain ⟨_, _, _, h3, _⟩ := hw _ h1
      exact .inr ⟨t, h2, h3⟩
  · congr 1
    refine List.ext_getElem? fun j => ?_
    rw [List.getElem?_drop, List.getElem?_drop]
    exact hlow _ (.inr (by omega))

/-! ### Writes and flushes as the log does them, on a disk that may go down. -/
def wr (s : Bool × Disk) (x : Nat × Text) : Bool × Disk := if s.1 then s else (decide ((s.2.write x.1 x.2).1 ≠ 0), (s.2.write x.1 x.2).2)
def wrs (s : Bool × Disk) (ws : List (Nat × Text)) : Bool × Disk := ws.foldl wr s
def fl (s : Bool × Disk) : Bool × Disk := if s.1 then s else (decide (s.2.flush.1 ≠ 0), s.2.flush.2)
def fw (x : Nat × Text) : Nat × Text := (x.1, full x.2)
theorem wrs_take (s : Bool × Disk) (ws : List (Nat × Text)) (k : Nat) (hk : k < ws.length) : wrs s (ws.take (k + 1)) = wr (wrs s (ws.take k)) ws[k] := by
  rw [List.take_succ_eq_append_getElem hk]; unfold wrs; rw [List.foldl_append]; rfl
theorem wr_down (d : Disk) (x : Nat × Text) : wr (true, d) x = (true, d) := rfl
theorem wrs_down (d : Disk) (ws : List (Nat × Text)) : wrs (true, d) ws = (true, d) := by
  induction ws with
  | nil => rfl
  | cons x ws ih => exact ih
theorem fl_down (d : Disk) : fl (true, d) = (true, d) := rfl
theorem wr_up (d : Disk) (x : Nat × Text) (ho : d.off = false) (h1 : x.1 < d.firm.length) (h2 : x.2.length ≤ 512) :
    (wr (false, d) x = (false, { d.burnt with loose := d.loose ++ [fw x] }) ∧ d.fuel ≠ 0) ∨ (wr (false, d) x = (true, d.dead) ∧ d.fuel = 0) := by
  have hh : d.has x.1 = true := by simp [Disk.has, h1]
  have hw : d.write x.1 x.2 = if d.fuel = 0 then (3, d.dead) else (0, { d.burnt with loose := d.loose ++ [((x.1 : Int).toNat, full x.2)] }) := by
    unfold Disk.write
    rw [ho, hh, if_neg (by decide), if_neg (by decide), if_neg (by omega)]
  unfold wr
  rw [hw]
  by_cases hf : d.fuel = 0
  · exact .inr ⟨by rw [if_pos hf]; rfl, hf⟩
  · exact .inl ⟨by rw [if_neg hf]; rfl, hf⟩
theorem burnt_neg {d : Disk} (h : d.fuel < 0) : d.burnt.fuel < 0 := by
  unfold Disk.burnt; simp only; split <;> omega
theorem wrs_up : ∀ (ws : List (Nat × Text)) (d : Disk), d.off = false → (∀ x ∈ ws, x.1 < d.firm.length ∧ x.2.length ≤ 512) →
    ((wrs (false, d) ws).1 = false ∧ (wrs (false, d) ws).2.off = false ∧ (wrs (false, d) ws).2.firm = d.firm ∧ (wrs (false, d) ws).2.loose = d.loose ++ ws.map fw ∧ (d.fuel < 0 → (wrs (false, d) ws).2.fuel < 0)) ∨
    ((wrs (false, d) ws).1 = true ∧ (wrs (false, d) ws).2.off = true ∧ (wrs (false, d) ws).2.firm = d.firm ∧ (∃ j, (wrs (false, d) ws).2.loose = d.loose ++ (ws.take j).map fw) ∧ 0 ≤ d.fuel)
  | [], d, ho, _ => .inl ⟨rfl, ho, rfl, by simp [wrs], id⟩
  | x :: ws, d, ho, hw => by
    have hx := hw x List.mem_cons_self
    have e0 : wrs (false, d) (x :: ws) = wrs (wr (false, d) x) ws := rfl
    rcases wr_up d x ho hx.1 hx.2 with ⟨e, hf⟩ | ⟨e, hf⟩
    · rw [e0, e]
      rcases wrs_up ws { d.burnt with loose := d.loose ++ [fw x] } ho (fun y hy => hw y (List.mem_cons_of_mem _ hy)) with ⟨h1, h2, h3, h4, h5⟩ | ⟨h1, h2, h3, ⟨j, h4⟩, h5⟩
      · exact .inl ⟨h1, h2, h3, by rw [h4]; simp, fun h => h5 (burnt_neg h)⟩
      · refine .inr ⟨h1, h2, h3, ⟨j + 1, by rw [h4]; simp⟩, ?_⟩
        have h5' : 0 ≤ d.burnt.fuel := h5
        rcases Int.lt_or_le d.fuel 0 with hn | hn
        · have := burnt_neg hn; omega
        · exact hn
    · rw [e0, e, wrs_down]
      exact .inr ⟨rfl, rfl, rfl, ⟨0, by simp [Disk.dead]⟩, by omega⟩
theorem fl_up (d : Disk) (ho : d.off = false) : (fl (false, d) = (false, { d.burnt with firm := d.now, loose := [] }) ∧ d.fuel ≠ 0) ∨ (fl (false, d) = (true, d.dead) ∧ d.fuel = 0) := by
  have hw : d.flush = if d.fuel = 0 then (3, d.dead) else (0, { d.burnt with firm := d.now, loose := [] }) := by
    unfold Disk.flush
    rw [ho, if_neg (by decide)]
  unfold fl
  rw [hw]
  by_cases hf : d.fuel = 0
  · exact .inr ⟨by rw [if_pos hf]; rfl, hf⟩
  · exact .inl ⟨by rw [if_neg hf]; rfl, hf⟩
/-- Some writes and a flush: all is firm, or the disk is down, with a beginning of them loose. -/
theorem burst (ws : List (Nat × Text)) (d : Disk) (ho : d.off = false) (hl : d.loose = []) (hw : ∀ x ∈ ws, x.1 < d.firm.length ∧ x.2.length ≤ 512) :
    ((fl (wrs (false, d) ws)).1 = false ∧ (fl (wrs (false, d) ws)).2.off = false ∧ (fl (wrs (false, d) ws)).2.firm = puts d.firm (ws.map fw) ∧ (fl (wrs (false, d) ws)).2.loose = [] ∧ (d.fuel < 0 → (fl (wrs (false, d) ws)).2.fuel < 0)) ∨
    ((fl (wrs (false, d) ws)).1 = true ∧ (fl (wrs (false, d) ws)).2.off = true ∧ (fl (wrs (false, d) ws)).2.firm = d.firm ∧ (∃ j, (fl (wrs (false, d) ws)).2.loose = (ws.take j).map fw) ∧ 0 ≤ d.fuel) := by
  rcases wrs_up ws d ho hw with ⟨h1, h2, h3, h4, h5⟩ | ⟨h1, h2, h3, ⟨j, h4⟩, h5⟩
  · generalize wrs (false, d) ws = s at *
    obtain ⟨b, e⟩ := s
    simp only at h1 h2 h3 h4 h5
    subst h1
    rcases fl_up e h2 with ⟨k1, k2⟩ | ⟨k1, k2⟩
    · rw [k1]
      exact .inl ⟨rfl, h2, by show e.now = _; rw [Disk.now, h3, h4, hl, List.nil_append], rfl, fun h => burnt_neg (h5 h)⟩
    · rw [k1]
      refine .inr ⟨rfl, rfl, h3, ⟨ws.length, by show e.loose = _; rw [h4, hl, List.take_length, List.nil_append]⟩, ?_⟩
      rcases Int.lt_or_le d.fuel 0 with hn | hn
      · have := h5 hn; omega
      · exact hn
  · generalize wrs (false, d) ws = s at *
    obtain ⟨b, e⟩ := s
    simp only at h1 h2 h3 h4 h5
    subst h1
    rw [fl_down]
    exact .inr ⟨rfl, h2, h3, ⟨j, by rw [h4, hl, List.nil_append]⟩, h5⟩

/-- Whatever is kept in a fall, what stands then are homes of which S says so. -/
def Safe (ring N : Nat) (d : Disk) (S : List Text → Prop) : Prop := ∀ keep, ∃ a n gs H, Good ring (puts d.firm (kept keep d.loose)) a n gs H ∧ S H ∧ n + gs.length ≤ N
theorem Safe.mono {ring N M : Nat} {d : Disk} {S T : List Text → Prop} (h : Safe ring N d S) (hN : N ≤ M) (hS : ∀ H, S H → T H) : Safe ring M d T := fun keep => by
  obtain ⟨a, n, gs, H, h1, h2, h3⟩ := h keep
  exact ⟨a, n, gs, H, h1, hS H h2, by omega⟩
theorem Good.safe {ring : Nat} {d : Disk} {a n : Nat} {gs : List Grp} {H : List Text} (h : Good ring d.firm a n gs H) (hl : d.loose = []) : Safe ring (n + gs.length) d (· = H) := fun keep =>
  ⟨a, n, gs, H, by rw [hl, Dk.kept_nil]; exact h, rfl, Nat.le_refl _⟩
theorem kept_one {α : Type} (keep : List Bool) (x : α) : kept keep [x] = [] ∨ kept keep [x] = [x] := by
  cases keep with
  | nil => exact .inl rfl
  | cons b keep => cases b <;> simp [kept, Dk.kept_nil]
theorem map_fw_take (ws : List (Nat × Text)) (j : Nat) : ∀ x ∈ (ws.take j).map fw, x ∈ ws.map fw := by
  intro x hx
  obtain ⟨y, hy, rfl⟩ := List.mem_map.1 hx
  exact List.mem_map.2 ⟨y, List.mem_of_mem_take hy, rfl⟩
theorem take_one_map (x : Nat × Text) (j : Nat) : ([x].take j).map fw = [] ∨ ([x].take j).map fw = [fw x] := by
  cases j with
  | zero => exact .inl rfl
  | succ j => exact .inr (by simp)
theorem full_of_full {t : Text} (h : t.length = 512) : full t = t := by simp [full, h]

/-! ### Checkpoint. -/
def homeWrites (ring : Nat) (W : Grp) : List (Nat × Text) := W.map fun x => (1 + ring + x.1, x.2)
theorem Good.gainedFits {ring : Nat} {F : List Text} {a n : Nat} {gs : List Grp} {H : List Text} (h : Good ring F a n gs H) : Fits H.length (gained gs) := gained_fits fun g hg => (h.fits g hg).2
theorem mem_homeWrites {ring homes : Nat} {W : Grp} (hW : Fits homes W) : ∀ x ∈ (homeWrites ring W).map fw, ∃ i, x.1 = 1 + ring + i ∧ look i W = some x.2 ∧ x.2.length = 512 := by
  intro x hx
  simp only [homeWrites, List.map_map, List.mem_map] at hx
  obtain ⟨y, hy, rfl⟩ := hx
  have := hW.2 y hy
  refine ⟨y.1, rfl, ?_, ?_⟩
  · show look y.1 W = some (full y.2)
    rw [full_of_full this.2]
    exact look_of_mem hW.1 hy
  · show (full y.2).length = 512
    rw [full_of_full this.2]; exact this.2
theorem Good.first_set {ring : Nat} {F : List Text} {a n : Nat} {gs : List Grp} {H : List Text} (h : Good ring F a n gs H) (hd : F.drop (1 + ring) = H) :
    Good ring (puts F [fw (0, Wl.first F.length ring ((a + total gs) % ring) (n + gs.length))]) ((a + total gs) % ring) (n + gs.length) [] H := by
  have hr : 0 < ring := by have := h.r1; omega
  have hlen := h.len
  have hn := h.n_pos
  have hnm := h.n_max
  have e0 : puts F [fw (0, Wl.first F.length ring ((a + total gs) % ring) (n + gs.length))] = F.set 0 (full (Wl.first F.length ring ((a + total gs) % ring) (n + gs.length))) := rfl
  rw [e0]
  refine ⟨h.r1, h.r2, by rw [List.length_set]; exact hlen, h.hpos, by rw [List.length_set]; exact h.hmax, ?_, ?_, Nat.mod_lt _ hr, by omega, by simpa using hnm, trivial, by simp [total], (fun g hg => by cases hg), fun i hi => ?_, ?_⟩
  · intro s hs
    rcases List.mem_or_eq_of_mem_set hs with hs | rfl
    · exact h.all s hs
    · exact Dk.full_length _ (by rw [first_length]; decide)
  · rw [List.length_set, List.getElem?_set_self (by omega)]
  · obtain ⟨s, h1, h2⟩ := h.old i hi
    exact ⟨s, by rw [List.getElem?_set_ne (by omega)]; exact h1, by simpa using h2⟩
  · rw [show gained ([] : List Grp) = [] from rfl, Dk.puts_nil]
    rw [← hd, List.drop_set, if_pos (by omega)]
def checked (ring size a n : Nat) (W : Grp) (s : Bool × Disk) : Bool × Disk := fl (wr (fl (wrs s (homeWrites ring W))) (0, first size ring a n))
theorem check_step {ring : Nat} {d : Disk} {a n : Nat} {gs : List Grp} {H : List Text} (h : Good ring d.firm a n gs H) (ho : d.off = false) (hl : d.loose = []) :
    let r := checked ring d.firm.length ((a + total gs) % ring) (n + gs.length) (gained gs) (false, d)
    (r.1 = false ∧ r.2.off = false ∧ r.2.loose = [] ∧ Good ring r.2.firm ((a + total gs) % ring) (n + gs.length) [] H ∧ (d.fuel < 0 → r.2.fuel < 0)) ∨
    (r.1 = true ∧ r.2.off = true ∧ Safe ring (n + gs.length) r.2 (· = H) ∧ 0 ≤ d.fuel) := by
  intro r
  have hW := h.gainedFits
  have hlen := h.len
  have hmem := mem_homeWrites (ring := ring) hW
  have hok : ∀ x ∈ homeWrites ring (gained gs), x.1 < d.firm.length ∧ x.2.length ≤ 512 := by
    intro x hx
    obtain ⟨y, hy, rfl⟩ := List.mem_map.1 hx
    have := hW.2 y hy
    exact ⟨by show 1 + ring + y.1 < _; omega, by show y.2.length ≤ 512; omega⟩
  rcases burst (homeWrites ring (gained gs)) d ho hl hok with ⟨h1, h2, h3, h4, h5⟩ | ⟨h1, h2, h3, ⟨j, h4⟩, h5⟩
  · have hG1 := h.toHomes _ hmem
    rw [← h3] at hG1
    have hr : r = fl (wr (fl (wrs (false, d) (homeWrites ring (gained gs)))) (0, first d.firm.length ring ((a + total gs) % ring) (n + gs.length))) := rfl
    have hlen1 : (fl (wrs (false, d) (homeWrites ring (gained gs)))).2.firm.length = d.firm.length := by rw [h3, Dk.puts_length]
    have hdrop : (fl (wrs (false, d) (homeWrites ring (gained gs)))).2.firm.drop (1 + ring) = H := by
      rw [h3, h.homes]
      refine List.ext_getElem? fun k => ?_
      rw [List.getElem?_drop, puts_look hW.1, List.length_drop]
      split
      · rename_i hk
        cases e : look k (gained gs) with
        | none =>
          rw [Option.none_or, List.getElem?_drop]
          refine Dk.puts_other _ _ _ fun x hx e' => ?_
          obtain ⟨i, hi, hli, _⟩ := hmem x hx
          obtain rfl : i = k := by omega
          rw [e] at hli; cases hli
        | some t =>
          rw [Option.some_or]
          have hin := look_mem e
          refine puts_hit (by omega) (List.mem_map.2 ⟨(1 + ring + k, t), List.mem_map.2 ⟨_, hin, rfl⟩, by unfold fw; rw [full_of_full (hW.2 _ hin).2]⟩) fun t' ht' => ?_
          obtain ⟨i, hi, hli, _⟩ := hmem _ ht'
          obtain rfl : i = k := by simp only at hi; omega
          rw [e] at hli
          injection hli with hli
          exact hli.symm
      · rename_i hk
        exact List.getElem?_eq_none (by rw [Dk.puts_length]; omega)
    rw [hr]
    generalize fl (wrs (false, d) (homeWrites ring (gained gs))) = s at *
    obtain ⟨b, e⟩ := s
    simp only at h1 h2 h3 h4 h5 hG1 hlen1 hdrop
    subst h1
    have e1 : fl (wr (false, e) (0, first d.firm.length ring ((a + total gs) % ring) (n + gs.length))) = fl (wrs (false, e) [(0, first d.firm.length ring ((a + total gs) % ring) (n + gs.length))]) := rfl
    rw [e1]
    rcases burst [(0, first d.firm.length ring ((a + total gs) % ring) (n + gs.length))] e h2 h4 (by
      intro x hx
      rw [List.mem_singleton.1 hx]
      exact ⟨by show 0 < _; omega, by rw [first_length]; decide⟩) with ⟨k1, k2, k3, k4, k5⟩ | ⟨k1, k2, k3, ⟨j, k4⟩, k5⟩
    · refine .inl ⟨k1, k2, k4, ?_, fun hf => k5 (h5 hf)⟩
      rw [k3, ← hlen1]
      exact hG1.first_set hdrop
    · refine .inr ⟨k1, k2, fun keep => ?_, ?_⟩
      · rw [k3, k4]
        have hkk : kept keep (([(0, first d.firm.length ring ((a + total gs) % ring) (n + gs.length))].take j).map fw) = [] ∨ kept keep (([(0, first d.firm.length ring ((a + total gs) % ring) (n + gs.length))].take j).map fw) = [fw (0, first d.firm.length ring ((a + total gs) % ring) (n + gs.length))] := by
          rcases take_one_map (0, first d.firm.length ring ((a + total gs) % ring) (n + gs.length)) j with e | e
          · rw [e]; exact .inl (Dk.kept_nil _)
          · rw [e]; exact kept_one _ _
        rcases hkk with e' | e'
        · rw [e', Dk.puts_nil]
          exact ⟨a, n, gs, H, hG1, rfl, Nat.le_refl _⟩
        · rw [e', ← hlen1]
          exact ⟨_, _, [], H, hG1.first_set hdrop, rfl, by simp⟩
      · rcases Int.lt_or_le d.fuel 0 with hn | hn
        · have := h5 hn; omega
        · exact hn
  · have hr : r = (true, (fl (wrs (false, d) (homeWrites ring (gained gs)))).2) := by
      show fl (wr (fl (wrs (false, d) (homeWrites ring (gained gs)))) _) = _
      generalize fl (wrs (false, d) (homeWrites ring (gained gs))) = s at *
      obtain ⟨b, e⟩ := s
      simp only at h1
      subst h1
      rfl
    rw [hr]
    refine .inr ⟨rfl, h2, fun keep => ⟨a, n, gs, H, ?_, rfl, Nat.le_refl _⟩, h5⟩
    rw [h3, h4]
    exact h.toHomes _ fun x hx => hmem x (map_fw_take _ j x (Dk.kept_mem _ _ _ hx))

/-! ### A group. -/
def ringWrites (ring a : Nat) (ts : List Text) : List (Nat × Text) := ts.mapIdx fun k t => (pos ring (a + 1 + k), t)
theorem mem_ringWrites {ring a : Nat} {ts : List Text} {x : Nat × Text} : x ∈ ringWrites ring a ts ↔ ∃ k t, ts[k]? = some t ∧ x = (pos ring (a + 1 + k), t) := by
  unfold ringWrites
  rw [List.mem_mapIdx]
  constructor
  · rintro ⟨k, hk, rfl⟩; exact ⟨k, _, List.getElem?_eq_getElem hk, rfl⟩
  · rintro ⟨k, t, hk, rfl⟩
    obtain ⟨h1, h2⟩ := List.getElem?_eq_some_iff.1 hk
    exact ⟨k, h1, by rw [h2]⟩
theorem ringWrites_mod (ring a : Nat) (ts : List Text) : ringWrites ring (a % ring) ts = ringWrites ring a ts := by
  unfold ringWrites
  congr 1
  funext k t
  rw [Nat.add_assoc, Nat.add_assoc, pos_mod]
theorem Good.head_set {ring : Nat} {F : List Text} {a n : Nat} {gs : List Grp} {H : List Text} (h : Good ring F a n gs H) (g : Grp) (hg : g ≠ []) (hf : Fits H.length g) (ht : total gs + sizeOf g.length ≤ ring) (hn : n + gs.length + 1 < 1000000)
    (hp : ∀ k t, (putsTexts g)[k]? = some t → F[pos ring (a + total gs + 1 + k)]? = some (full t)) :
    Good ring (puts F [fw (pos ring (a + total gs), head (n + gs.length) g.length)]) a n (gs ++ [g]) (puts H g) := by
  have hr : 0 < ring := by have := h.r1; omega
  have hr2 := h.r2
  have hlen := h.len
  have hn1 := h.n_pos
  have hgl : 1 ≤ g.length := List.length_pos_iff.2 hg
  have hsz := sizeOf_ge g.length hgl
  have hpl := putsTexts_length hf.2
  have hpp := pos_lt hr (a + total gs)
  obtain ⟨X, hX⟩ : ∃ X, X = full (head (n + gs.length) g.length) := ⟨_, rfl⟩
  have e0 : puts F [fw (pos ring (a + total gs), head (n + gs.length) g.length)] = F.set (pos ring (a + total gs)) X := by rw [hX]; rfl
  rw [e0]
  have hX5 : X.length = 512 := by rw [hX]; exact Dk.full_length _ (by rw [head_length]; decide)
  have hXr : readHead X ring = (n + gs.length, g.length, true) := by rw [hX]; exact readHead_head _ _ _ (by omega) (by omega) hgl (by omega) (by omega) h.r2
  have hdrop : (F.set (pos ring (a + total gs)) X).drop (1 + ring) = F.drop (1 + ring) := by rw [List.drop_set, if_pos (by omega)]
  refine ⟨h.r1, h.r2, by rw [List.length_set, Dk.puts_length]; exact hlen, by rw [Dk.puts_length]; exact h.hpos, by rw [List.length_set]; exact h.hmax, ?_, ?_, h.a_lt, hn1, by rw [List.length_append]; exact hn, ?_, ?_, ?_, ?_, ?_⟩
  · intro s hs
    rcases List.mem_or_eq_of_mem_set hs with hs | rfl
    · exact h.all s hs
    · exact hX5
  · rw [List.length_set, List.getElem?_set_ne (by omega)]; exact h.first
  · refine Laid.append (h.laid.same (fun x hx => (h.fits x hx).2) fun i hi => ?_) ⟨?_, fun k t hk => ?_, trivial⟩
    · rw [List.getElem?_set_ne]
      intro e
      have := pos_inj e.symm (by omega) (by omega)
      omega
    · rw [List.getElem?_set_self (by omega), hX]
    · have hk' := (List.getElem?_eq_some_iff.1 hk).1
      rw [List.getElem?_set_ne]
      · exact hp k t hk
      · intro e
        have := pos_inj e (by omega) (by omega)
        omega
  · rw [total_append, total_one]; exact ht
  · intro x hx
    rw [Dk.puts_length]
    rcases List.mem_append.1 hx with hx | hx
    · exact h.fits x hx
    · rw [List.mem_singleton.1 hx]; exact ⟨hg, hf⟩
  · intro i hi
    by_cases e : pos ring (a + total gs) = 1 + i
    · refine ⟨X, by rw [← e, List.getElem?_set_self (by omega)], .inr (.inr ⟨_, _, hXr, ?_⟩)⟩
      rw [List.length_append]; exact Nat.lt_succ_self _
    · obtain ⟨s, h1, h2⟩ := (h.old i hi).mono (M := n + (gs ++ [g]).length) (by rw [List.length_append]; omega)
      exact ⟨s, by rw [List.getElem?_set_ne e]; exact h1, h2⟩
  · rw [hdrop, gained_append, puts_merge _ (gained_rising gs) hf.1, ← h.homes]
def recorded (ring a n : Nat) (g : Grp) (s : Bool × Disk) : Bool × Disk := fl (wr (fl (wrs s (ringWrites ring a (putsTexts g)))) (pos ring a, head n g.length))
theorem record_step {ring : Nat} {d : Disk} {a n : Nat} {gs : List Grp} {H : List Text} (h : Good ring d.firm a n gs H) (ho : d.off = false) (hl : d.loose = []) (g : Grp) (hg : g ≠ []) (hf : Fits H.length g)
    (ht : total gs + sizeOf g.length ≤ ring) (hn : n + gs.length + 1 < 1000000) :
    let r := recorded ring ((a + total gs) % ring) (n + gs.length) g (false, d)
    (r.1 = false ∧ r.2.off = false ∧ r.2.loose = [] ∧ Good ring r.2.firm a n (gs ++ [g]) (puts H g) ∧ (d.fuel < 0 → r.2.fuel < 0)) ∨
    (r.1 = true ∧ r.2.off = true ∧ Safe ring (n + gs.length + 1) r.2 (fun K => K = H ∨ K = puts H g) ∧ 0 ≤ d.fuel) := by
  intro r
  have hr0 : 0 < ring := by have := h.r1; omega
  have hlen := h.len
  have hpl := putsTexts_length hf.2
  have hr : r = fl (wr (fl (wrs (false, d) (ringWrites ring (a + total gs) (putsTexts g)))) (pos ring (a + total gs), head (n + gs.length) g.length)) := by
    show recorded _ _ _ _ _ = _
    unfold recorded
    rw [ringWrites_mod, show pos ring ((a + total gs) % ring) = pos ring (a + total gs) from by have := pos_mod ring (a + total gs) 0; simpa using this]
  have hmem : ∀ x ∈ (ringWrites ring (a + total gs) (putsTexts g)).map fw, ∃ i, x.1 = pos ring (a + total gs + i) ∧ total gs + i < ring ∧ isPuts x.2 = true ∧ x.2.length = 512 := by
    intro x hx
    obtain ⟨y, hy, rfl⟩ := List.mem_map.1 hx
    obtain ⟨k, t, hk, rfl⟩ := mem_ringWrites.1 hy
    obtain ⟨hk1, hk2⟩ := List.getElem?_eq_some_iff.1 hk
    have hin : t ∈ putsTexts g := List.mem_of_getElem? hk
    exact ⟨1 + k, by rw [← Nat.add_assoc]; rfl, by omega, putsTexts_isPuts g t hin, Dk.full_length _ (putsTexts_le g t hin)⟩
  have hok : ∀ x ∈ ringWrites ring (a + total gs) (putsTexts g), x.1 < d.firm.length ∧ x.2.length ≤ 512 := by
    intro x hx
    obtain ⟨k, t, hk, rfl⟩ := mem_ringWrites.1 hx
    have := pos_lt hr0 (a + total gs + 1 + k)
    exact ⟨by show pos _ _ < _; omega, putsTexts_le g t (List.mem_of_getElem? hk)⟩
  have hpp := pos_lt hr0 (a + total gs)
  rw [hr]
  rcases burst (ringWrites ring (a + total gs) (putsTexts g)) d ho hl hok with ⟨h1, h2, h3, h4, h5⟩ | ⟨h1, h2, h3, ⟨j, h4⟩, h5⟩
  · have hG1 := h.toRing _ hmem
    have hp : ∀ k t, (putsTexts g)[k]? = some t → (puts d.firm ((ringWrites ring (a + total gs) (putsTexts g)).map fw))[pos ring (a + total gs + 1 + k)]? = some (full t) := by
      intro k t hk
      have hk1 := (List.getElem?_eq_some_iff.1 hk).1
      have := pos_lt hr0 (a + total gs + 1 + k)
      refine puts_hit (by omega) (List.mem_map.2 ⟨_, mem_ringWrites.2 ⟨k, t, hk, rfl⟩, rfl⟩) fun t' ht' => ?_
      obtain ⟨y, hy, hye⟩ := List.mem_map.1 ht'
      obtain ⟨k', t2, hk', rfl⟩ := mem_ringWrites.1 hy
      have hk2 := (List.getElem?_eq_some_iff.1 hk').1
      unfold fw at hye
      injection hye with e1 e2
      simp only at e1 e2
      have : k' = k := by
        rcases Nat.le_total k' k with hle | hle
        · have := pos_inj e1 (by omega) (by omega); omega
        · have := pos_inj e1.symm (by omega) (by omega); omega
      subst this
      rw [hk] at hk'
      injection hk' with hk'
      rw [← e2, hk']
    rw [← h3] at hG1 hp
    have hlen1 : (fl (wrs (false, d) (ringWrites ring (a + total gs) (putsTexts g)))).2.firm.length = d.firm.length := by rw [h3, Dk.puts_length]
    generalize fl (wrs (false, d) (ringWrites ring (a + total gs) (putsTexts g))) = s at *
    obtain ⟨b, e⟩ := s
    simp only at h1 h2 h3 h4 h5 hG1 hlen1 hp
    subst h1
    have hH := hG1.head_set g hg hf ht hn hp
    have e1 : fl (wr (false, e) (pos ring (a + total gs), head (n + gs.length) g.length)) = fl (wrs (false, e) [(pos ring (a + total gs), head (n + gs.length) g.length)]) := rfl
    rw [e1]
    rcases burst [(pos ring (a + total gs), head (n + gs.length) g.length)] e h2 h4 (by
      intro x hx
      rw [List.mem_singleton.1 hx]
      exact ⟨by show pos _ _ < _; omega, by rw [head_length]; decide⟩) with ⟨k1, k2, k3, k4, k5⟩ | ⟨k1, k2, k3, ⟨j, k4⟩, k5⟩
    · refine .inl ⟨k1, k2, k4, ?_, fun hf => k5 (h5 hf)⟩
      rw [k3]
      exact hH
    · refine .inr ⟨k1, k2, fun keep => ?_, ?_⟩
      · rw [k3, k4]
        have hkk : kept keep (([(pos ring (a + total gs), head (n + gs.length) g.length)].take j).map fw) = [] ∨ kept keep (([(pos ring (a + total gs), head (n + gs.length) g.length)].take j).map fw) = [fw (pos ring (a + total gs), head (n + gs.length) g.length)] := by
          rcases take_one_map (pos ring (a + total gs), head (n + gs.length) g.length) j with e | e
          · rw [e]; exact .inl (Dk.kept_nil _)
          · rw [e]; exact kept_one _ _
        rcases hkk with e' | e'
        · rw [e', Dk.puts_nil]
          exact ⟨a, n, gs, H, hG1, .inl rfl, by omega⟩
        · rw [e']
          exact ⟨_, _, _, _, hH, .inr rfl, by rw [List.length_append]; exact Nat.le_refl _⟩
      · rcases Int.lt_or_le d.fuel 0 with hn | hn
        · have := h5 hn; omega
        · exact hn
  · have hr' : fl (wr (fl (wrs (false, d) (ringWrites ring (a + total gs) (putsTexts g)))) (pos ring (a + total gs), head (n + gs.length) g.length)) = (true, (fl (wrs (false, d) (ringWrites ring (a + total gs) (putsTexts g)))).2) := by
      generalize fl (wrs (false, d) (ringWrites ring (a + total gs) (putsTexts g))) = s at *
      obtain ⟨b, e⟩ := s
      simp only at h1
      subst h1
      rfl
    rw [hr']
    refine .inr ⟨rfl, h2, fun keep => ⟨a, n, gs, H, ?_, .inl rfl, by omega⟩, h5⟩
    rw [h3, h4]
    exact h.toRing _ fun x hx => hmem x (map_fw_take _ j x (Dk.kept_mem _ _ _ hx))
end Wl
end Go.Proofs.YtahnhhhhfioibaaGreatDoor

namespace Go.Proofs.YtahnhhhhfioibaaGreatDoor
namespace Wl
open Dk (puts kept full Disk)

structure Lg where
  ring : Nat
  homes : Nat
  place : Nat
  num : Nat
  filled : Nat
  wait : Grp
  down : Bool
  d : Disk
def Lg.off (s : Lg) : Bool := s.down || s.d.off
def Lg.with (s : Lg) (r : Bool × Disk) : Lg := { s with down := r.1, d := r.2 }
def Lg.check (s : Lg) : Int × Lg :=
  if s.off then (3, s) else if s.filled = 0 then (0, s) else
  if (checked s.ring s.d.firm.length s.place s.num s.wait (s.down, s.d)).1 then (3, s.with (checked s.ring s.d.firm.length s.place s.num s.wait (s.down, s.d)))
  else (0, { s.with (checked s.ring s.d.firm.length s.place s.num s.wait (s.down, s.d)) with filled := 0, wait := [] })
def Lg.record (s : Lg) (g : Grp) : Lg := s.with (recorded s.ring s.place s.num g (s.down, s.d))
def Lg.take (s : Lg) (g : Grp) : Lg := { s with wait := merge s.wait g, filled := s.filled + sizeOf g.length, place := (s.place + sizeOf g.length) % s.ring, num := s.num + 1 }
def Lg.ready (s : Lg) (g : Grp) : Lg := if s.ring < s.filled + sizeOf g.length then s.check.2 else s
def Lg.commit (s : Lg) (ps : List (Int × Text)) : Int × Lg :=
  if s.off then (3, s) else
  if (gather s.homes [] ps).1 ≠ 0 then ((gather s.homes [] ps).1, s) else
  if s.ring < sizeOf (gather s.homes [] ps).2.length then (5, s) else
  if (gather s.homes [] ps).2 = [] then (0, s) else
  if ((s.ready (gather s.homes [] ps).2).record (gather s.homes [] ps).2).down then (3, (s.ready (gather s.homes [] ps).2).record (gather s.homes [] ps).2)
  else (0, ((s.ready (gather s.homes [] ps).2).record (gather s.homes [] ps).2).take (gather s.homes [] ps).2)
/-- What the document answers. -/
def comm (ring : Nat) (H : List Text) (ps : List (Int × Text)) : Int × List Text :=
  if (gather H.length [] ps).1 ≠ 0 then ((gather H.length [] ps).1, H) else if ring < sizeOf (gather H.length [] ps).2.length then (5, H) else (0, puts H (gather H.length [] ps).2)
theorem comm_length (ring : Nat) (H : List Text) (ps : List (Int × Text)) : (comm ring H ps).2.length = H.length := by
  unfold comm
  split
  · rfl
  · split
    · rfl
    · exact Dk.puts_length _ _

/-- The log is up, nothing is loose, its homes hold H. -/
structure Live (ring N : Nat) (s : Lg) (H : List Text) : Prop where
  up : s.down = false
  on : s.d.off = false
  firm : s.d.loose = []
  ring_eq : s.ring = ring
  homes_eq : s.homes = H.length
  num_le : s.num ≤ N
  stands : ∃ a n gs, Good ring s.d.firm a n gs H ∧ s.place = (a + total gs) % ring ∧ s.num = n + gs.length ∧ s.filled = total gs ∧ s.wait = gained gs
structure Dead (ring N : Nat) (s : Lg) (S : List Text → Prop) : Prop where
  down : s.down = true
  off : s.d.off = true
  safe : Safe ring N s.d S
theorem Live.mono {ring N M : Nat} {s : Lg} {H : List Text} (h : Live ring N s H) (hN : N ≤ M) : Live ring M s H := ⟨h.up, h.on, h.firm, h.ring_eq, h.homes_eq, Nat.le_trans h.num_le hN, h.stands⟩
theorem Dead.mono {ring N M : Nat} {s : Lg} {S T : List Text → Prop} (h : Dead ring N s S) (hN : N ≤ M) (hS : ∀ H, S H → T H) : Dead ring M s T := ⟨h.down, h.off, h.safe.mono hN hS⟩
theorem Live.safe {ring N : Nat} {s : Lg} {H : List Text} (h : Live ring N s H) : Safe ring N s.d (· = H) := by
  obtain ⟨a, n, gs, hg, _, h2, _⟩ := h.stands
  exact (hg.safe h.firm).mono (by have := h.num_le; omega) fun _ e => e
theorem Live.off_eq {ring N : Nat} {s : Lg} {H : List Text} (h : Live ring N s H) : s.off = false := by unfold Lg.off; rw [h.up, h.on]; rfl
theorem total_zero {gs : List Grp} (h : total gs = 0) : gs = [] := by
  cases gs with
  | nil => rfl
  | cons g gs => rw [total_cons] at h; have := sizeOf_pos g.length; omega
theorem Live.read {ring N : Nat} {s : Lg} {H : List Text} (h : Live ring N s H) : (∀ x ∈ s.wait, x.1 < s.homes ∧ x.2.length = 512) ∧ Rising s.wait ∧ s.d.firm.length = 1 + ring + H.length ∧ 4 ≤ ring ∧ ring ≤ 4096 ∧ 1 ≤ H.length ∧ H.length ≤ 65536 ∧ s.filled ≤ ring ∧ s.place < ring ∧ 1 ≤ s.num ∧ s.num < 1000000 ∧ s.wait.length ≤ 65536 ∧
    ∀ j, j < H.length → H[j]? = (look j s.wait).or (s.d.now[1 + ring + j]?) := by
  obtain ⟨a, n, gs, hg, h1, h2, h3, h4⟩ := h.stands
  have hf := hg.gainedFits
  have hlen := hg.len
  have hm := hg.hmax
  have hr1 := hg.r1
  have hr2 := hg.r2
  have hnp := hg.n_pos
  have hnm := hg.n_max
  have hnow : s.d.now = s.d.firm := by unfold Disk.now; rw [h.firm, Dk.puts_nil]
  refine ⟨by rw [h4, h.homes_eq]; exact hf.2, by rw [h4]; exact hf.1, hlen, hr1, hr2, hg.hpos, by omega, by rw [h3]; exact hg.tot, by rw [h1]; exact Nat.mod_lt _ (by omega), by omega, by omega, ?_, fun j hj => ?_⟩
  · have key : ∀ (m : Grp) (b c : Nat), Rising m → (∀ x ∈ m, b ≤ x.1 ∧ x.1 < c) → m.length ≤ c - b := by
      intro m
      induction m with
      | nil => intro b c _ _; exact Nat.zero_le _
      | cons x m ih =>
        intro b c hr hb
        obtain ⟨r1, r2⟩ := List.pairwise_cons.1 hr
        have h0 := hb x List.mem_cons_self
        have := ih (x.1 + 1) c r2 fun y hy => ⟨r1 y hy, (hb y (List.mem_cons_of_mem _ hy)).2⟩
        rw [List.length_cons]; omega
    have := key s.wait 0 H.length (by rw [h4]; exact hf.1) fun x hx => ⟨Nat.zero_le _, by rw [h4] at hx; exact (hf.2 x hx).1⟩
    omega
  · have := congrArg (fun L => L[j]?) hg.homes
    rw [this, puts_look hf.1, List.length_drop, if_pos (by omega), h4, List.getElem?_drop, hnow]

theorem Live.check {ring N : Nat} {s : Lg} {H : List Text} (h : Live ring N s H) :
    (s.check.1 = 0 ∧ Live ring N s.check.2 H ∧ (s.d.fuel < 0 → s.check.2.d.fuel < 0) ∧ s.check.2.filled = 0 ∧ s.check.2.ring = s.ring ∧ s.check.2.homes = s.homes) ∨
    (s.check.1 = 3 ∧ Dead ring N s.check.2 (· = H) ∧ 0 ≤ s.d.fuel ∧ s.check.2.ring = s.ring ∧ s.check.2.homes = s.homes) := by
  obtain ⟨a, n, gs, hg, h1, h2, h3, h4⟩ := h.stands
  unfold Lg.check
  rw [h.off_eq, if_neg (by decide)]
  by_cases h0 : s.filled = 0
  · rw [if_pos h0]
    exact .inl ⟨rfl, h, id, h0, rfl, rfl⟩
  · rw [if_neg h0]
    have hs := check_step hg h.on h.firm
    simp only at hs
    rw [← h1, ← h2, ← h4, ← h.ring_eq] at hs
    rw [h.up]
    generalize checked s.ring s.d.firm.length s.place s.num s.wait (false, s.d) = r at *
    rcases hs with ⟨k1, k2, k3, k4, k5⟩ | ⟨k1, k2, k3, k4⟩
    · rw [k1, if_neg (by decide)]
      rw [h.ring_eq] at k4
      refine .inl ⟨rfl, ⟨k1, k2, k3, h.ring_eq, h.homes_eq, h.num_le, s.place, s.num, [], k4, ?_, rfl, rfl, rfl⟩, k5, rfl, rfl, rfl⟩
      show s.place = _
      rw [show total [] = 0 from rfl, Nat.add_zero, Nat.mod_eq_of_lt k4.a_lt]
    · rw [k1, if_pos rfl]
      rw [h.ring_eq] at k3
      exact .inr ⟨rfl, ⟨k1, k2, k3.mono h.num_le fun _ e => e⟩, k4, rfl, rfl⟩

theorem Live.commit {ring N : Nat} {s : Lg} {H : List Text} (h : Live ring N s H) (hN : N + 1 < 1000000) (ps : List (Int × Text)) :
    ((s.commit ps).1 = (comm ring H ps).1 ∧ Live ring (N + 1) (s.commit ps).2 (comm ring H ps).2 ∧ (s.d.fuel < 0 → (s.commit ps).2.d.fuel < 0)) ∨
    ((s.commit ps).1 = 3 ∧ Dead ring (N + 1) (s.commit ps).2 (fun K => K = H ∨ K = (comm ring H ps).2) ∧ 0 ≤ s.d.fuel) := by
  unfold Lg.commit comm
  rw [h.off_eq, if_neg (by decide), h.homes_eq, h.ring_eq]
  have hf := gather_fits H.length ps [] (fits_nil _)
  generalize gather H.length [] ps = q at *
  obtain ⟨c, g⟩ := q
  simp only
  by_cases hc : c = 0
  · subst hc
    rw [if_neg (show ¬ ((0 : Int) ≠ 0) from fun h => h rfl), if_neg (show ¬ ((0 : Int) ≠ 0) from fun h => h rfl)]
    by_cases hs : ring < sizeOf g.length
    · rw [if_pos hs, if_pos hs]
      exact .inl ⟨rfl, h.mono (by omega), id⟩
    · rw [if_neg hs, if_neg hs]
      by_cases hg0 : g = []
      · rw [if_pos hg0]
        subst hg0
        exact .inl ⟨rfl, (h.mono (by omega)), id⟩
      · rw [if_neg hg0]
        simp only at hf
        have core : ∀ s1 : Lg, Live ring N s1 H → s1.filled + sizeOf g.length ≤ ring → (s.d.fuel < 0 → s1.d.fuel < 0) →
            ((if (s1.record g).down = true then ((3 : Int), s1.record g) else (0, (s1.record g).take g)).1 = 0 ∧ Live ring (N + 1) (if (s1.record g).down = true then ((3 : Int), s1.record g) else (0, (s1.record g).take g)).2 (puts H g) ∧ (s.d.fuel < 0 → (if (s1.record g).down = true then ((3 : Int), s1.record g) else (0, (s1.record g).take g)).2.d.fuel < 0)) ∨
            ((if (s1.record g).down = true then ((3 : Int), s1.record g) else (0, (s1.record g).take g)).1 = 3 ∧ Dead ring (N + 1) (if (s1.record g).down = true then ((3 : Int), s1.record g) else (0, (s1.record g).take g)).2 (fun K => K = H ∨ K = puts H g) ∧ 0 ≤ s.d.fuel) := by
          intro s1 h1 hfit hfu
          obtain ⟨a, n, gs, hG, e1, e2, e3, e4⟩ := h1.stands
          have hle := h1.num_le
          have hs1 := record_step hG h1.on h1.firm g hg0 hf (by omega) (by omega)
          simp only at hs1
          rw [← e1, ← e2] at hs1
          unfold Lg.record
          rw [h1.up, h1.ring_eq]
          generalize recorded ring s1.place s1.num g (false, s1.d) = r at *
          rcases hs1 with ⟨k1, k2, k3, k4, k5⟩ | ⟨k1, k2, k3, k4⟩
          · have : (s1.with r).down = false := k1
            rw [this, if_neg (by decide)]
            refine .inl ⟨rfl, ⟨k1, k2, k3, h1.ring_eq, ?_, ?_, a, n, gs ++ [g], k4, ?_, ?_, ?_, ?_⟩, fun hn => k5 (hfu hn)⟩
            · show s1.homes = _
              rw [Dk.puts_length, h1.homes_eq]
            · show s1.num + 1 ≤ _
              omega
            · show (s1.place + sizeOf g.length) % s1.ring = _
              rw [h1.ring_eq, e1, total_append, total_one, Nat.mod_add_mod, Nat.add_assoc]
            · show s1.num + 1 = _
              rw [List.length_append]; show _ = n + (gs.length + 1); omega
            · show s1.filled + sizeOf g.length = _
              rw [total_append, total_one, e3]
            · show merge s1.wait g = _
              rw [gained_append, e4]
          · have : (s1.with r).down = true := k1
            rw [this, if_pos rfl]
            refine .inr ⟨rfl, ⟨k1, k2, k3.mono (by omega) fun _ e => e⟩, ?_⟩
            rcases Int.lt_or_le s.d.fuel 0 with hn | hn
            · have := hfu hn; omega
            · exact hn
        unfold Lg.ready
        rw [h.ring_eq]
        by_cases hfull : ring < s.filled + sizeOf g.length
        · rw [if_pos hfull]
          rcases h.check with ⟨_, k2, k3, k4, _, _⟩ | ⟨_, k2, k3, k4, _⟩
          · exact core _ k2 (by omega) k3
          · have hr : s.check.2.record g = s.check.2 := by
              unfold Lg.record recorded
              rw [k2.down, wrs_down, fl_down, wr_down, fl_down]
              have := k2.down
              unfold Lg.with
              generalize s.check.2 = z at *
              cases z
              simp only at this
              rw [this]
            rw [hr, k2.down, if_pos rfl]
            exact .inr ⟨rfl, k2.mono (by omega) fun K e => .inl e, k3⟩
        · rw [if_neg hfull]
          exact core s h (by omega) id
  · rw [if_pos hc, if_pos hc]
    exact .inl ⟨rfl, h.mono (by omega), id⟩

/-! ### Opening. -/
theorem Old.next {ring : Nat} {F : List Text} {i N : Nat} (h : Old ring F i N) : ∃ s, F[1 + i]? = some s ∧ ((readHead s ring).2.2 = true → (readHead s ring).1 ≠ N) := by
  obtain ⟨s, h1, h2⟩ := h
  refine ⟨s, h1, fun ho e => ?_⟩
  rcases h2 with h2 | h2 | ⟨m, n, h2, h3⟩
  · rw [readHead_other s ring (blank_other s h2)] at ho; cases ho
  · rw [readHead_other s ring (puts_other s h2)] at ho; cases ho
  · rw [h2] at e; simp only at e; omega
/-- The opened log, before its flush. -/
def opened (ring : Nat) (H : List Text) (a n : Nat) (gs : List Grp) (d : Disk) : Lg := ⟨ring, H.length, (a + total gs) % ring, n + gs.length, total gs, gained gs, false, d⟩
theorem open_step {ring : Nat} {d : Disk} {a n : Nat} {gs : List Grp} {H : List Text} (h : Good ring d.firm a n gs H) (ho : d.off = false) (hl : d.loose = []) :
    ((fl (false, d)).1 = false ∧ Live ring (n + gs.length) ((opened ring H a n gs d).with (fl (false, d))) H ∧ (d.fuel < 0 → (fl (false, d)).2.fuel < 0)) ∨
    ((fl (false, d)).1 = true ∧ Dead ring (n + gs.length) ((opened ring H a n gs d).with (fl (false, d))) (· = H) ∧ 0 ≤ d.fuel) := by
  have hnow : d.now = d.firm := by unfold Disk.now; rw [hl, Dk.puts_nil]
  rcases fl_up d ho with ⟨e, hf⟩ | ⟨e, hf⟩
  · rw [e]
    refine .inl ⟨rfl, ⟨rfl, ho, rfl, rfl, rfl, Nat.le_refl _, a, n, gs, ?_, rfl, rfl, rfl, rfl⟩, burnt_neg⟩
    show Good ring d.now a n gs H
    rw [hnow]; exact h
  · rw [e]
    exact .inr ⟨rfl, ⟨rfl, rfl, fun keep => ⟨a, n, gs, H, by show Good ring (puts d.firm (kept keep d.loose)) _ _ _ _; rw [hl, Dk.kept_nil]; exact h, rfl, Nat.le_refl _⟩⟩, by omega⟩
def noughts (n : Nat) : List Text := List.replicate n (full [])
theorem full_nil : (full []).length = 512 := Dk.full_length _ (by decide)
theorem blank_nought : blank (full []) = true := by unfold full; rw [List.nil_append]; exact blank_replicate _
theorem fresh_good (size ring : Nat) (h1 : 4 ≤ ring) (h2 : ring ≤ 4096) (h3 : ring + 2 ≤ size) (h4 : size ≤ 65536) :
    Good ring ((List.replicate size (full [])).set 0 (full (first size ring 0 1))) 0 1 [] (noughts (size - 1 - ring)) := by
  refine ⟨h1, h2, by rw [List.length_set, List.length_replicate, noughts, List.length_replicate]; omega, by rw [noughts, List.length_replicate]; omega, by rw [List.length_set, List.length_replicate]; exact h4, ?_, ?_, by omega, by decide, by decide, trivial, by simp [total], (fun g hg => by cases hg), fun i hi => ?_, ?_⟩
  · intro s hs
    rcases List.mem_or_eq_of_mem_set hs with hs | rfl
    · rw [List.eq_of_mem_replicate hs]; exact full_nil
    · exact Dk.full_length _ (by rw [first_length]; decide)
  · rw [List.length_set, List.length_replicate, List.getElem?_set_self (by rw [List.length_replicate]; omega)]
  · exact ⟨full [], by rw [List.getElem?_set_ne (by omega), List.getElem?_replicate, if_pos (by omega)], .inl blank_nought⟩
  · rw [show gained ([] : List Grp) = [] from rfl, Dk.puts_nil, List.drop_set, if_pos (by omega), List.drop_replicate, noughts]
    congr 1; omega
/-- A new log on a new disk. -/
def begun (size ring : Nat) : Lg := ⟨ring, size - 1 - ring, 0, 1, 0, [], false, ⟨(List.replicate size (full [])).set 0 (full (first size ring 0 1)), [], -1, false⟩⟩
theorem begun_live (size ring : Nat) (h1 : 4 ≤ ring) (h2 : ring ≤ 4096) (h3 : ring + 2 ≤ size) (h4 : size ≤ 65536) : Live ring 1 (begun size ring) (noughts (size - 1 - ring)) :=
  ⟨rfl, rfl, rfl, rfl, by simp [begun, noughts], Nat.le_refl _, 0, 1, [], fresh_good size ring h1 h2 h3 h4, by show 0 = _; simp [total], rfl, rfl, rfl⟩
theorem begun_with (size ring : Nat) (h3 : 0 < size) : fl (wr (false, Dk.fresh size) (0, first size ring 0 1)) = (false, (begun size ring).d) := by
  have hx : (0 : Nat) < (Dk.fresh size).firm.length := by simp [Dk.fresh, h3]
  rcases wr_up (Dk.fresh size) (0, first size ring 0 1) rfl hx (by rw [first_length]; decide) with ⟨e, _⟩ | ⟨_, e⟩
  · rw [e]
    rcases fl_up { (Dk.fresh size).burnt with loose := (Dk.fresh size).loose ++ [fw (0, first size ring 0 1)] } rfl with ⟨e', _⟩ | ⟨_, e'⟩
    · rw [e']; rfl
    · have : (-1 : Int) = 0 := e'
      omega
  · have : (-1 : Int) = 0 := e
    omega
end Wl
end Go.Proofs.YtahnhhhhfioibaaGreatDoor

namespace Go.Proofs.YtahnhhhhfioibaaGreatDoor
namespace Wl
open Dk (puts full)

/-- Puts, one behind the other. -/
def along (H : List Text) (ps : List (Int × Text)) : List Text := ps.foldl (fun H p => H.set p.1.toNat (full p.2)) H
/-- The group that puts make. -/
def grp (g : Grp) (ps : List (Int × Text)) : Grp := ps.foldl (fun g p => ins p.1.toNat (full p.2) g) g
def Fit (homes : Nat) (ps : List (Int × Text)) : Prop := ∀ p ∈ ps, 0 ≤ p.1 ∧ p.1 < homes ∧ p.2.length ≤ 512
theorem along_nil (H : List Text) : along H [] = H := rfl
theorem along_append (H : List Text) (a b : List (Int × Text)) : along H (a ++ b) = along (along H a) b := by simp [along]
theorem along_one (H : List Text) (p : Int × Text) : along H [p] = H.set p.1.toNat (full p.2) := rfl
theorem grp_append (g : Grp) (a b : List (Int × Text)) : grp g (a ++ b) = grp (grp g a) b := by simp [grp]
theorem grp_one (g : Grp) (p : Int × Text) : grp g [p] = ins p.1.toNat (full p.2) g := rfl
theorem along_length : ∀ (ps : List (Int × Text)) (H : List Text), (along H ps).length = H.length
  | [], _ => rfl
  | p :: ps, H => by show (along (H.set _ _) ps).length = _; rw [along_length ps, List.length_set]
theorem gather_fit {homes : Nat} : ∀ {ps : List (Int × Text)} {g : Grp}, (gather homes g ps).1 = 0 → Fit homes ps
  | [], _, _ => fun _ hp => by cases hp
  | p :: ps, g, h => by
    rw [gather_cons] at h
    split at h
    · cases h
    · split at h
      · cases h
      · intro q hq
        rcases List.mem_cons.1 hq with rfl | hq
        · omega
        · exact gather_fit h q hq
theorem fit_gather {homes : Nat} : ∀ {ps : List (Int × Text)} {g : Grp}, Fit homes ps → gather homes g ps = (0, grp g ps)
  | [], _, _ => rfl
  | p :: ps, g, h => by
    have h0 := h p List.mem_cons_self
    rw [gather_cons, if_neg (by omega), if_neg (by omega), fit_gather fun q hq => h q (List.mem_cons_of_mem _ hq)]
    rfl
theorem Fit.append {homes : Nat} {a b : List (Int × Text)} (ha : Fit homes a) (hb : Fit homes b) : Fit homes (a ++ b) := fun p hp => by
  rcases List.mem_append.1 hp with h | h
  · exact ha p h
  · exact hb p h
theorem Fit.nil (homes : Nat) : Fit homes [] := fun p hp => by cases hp
theorem Fit.left {homes : Nat} {a b : List (Int × Text)} (h : Fit homes (a ++ b)) : Fit homes a := fun p hp => h p (List.mem_append_left _ hp)
theorem Fit.right {homes : Nat} {a b : List (Int × Text)} (h : Fit homes (a ++ b)) : Fit homes b := fun p hp => h p (List.mem_append_right _ hp)
theorem Fit.one {homes : Nat} {p : Int × Text} (h1 : 0 ≤ p.1) (h2 : p.1 < homes) (h3 : p.2.length ≤ 512) : Fit homes [p] := fun q hq => by
  obtain rfl := List.mem_singleton.1 hq
  exact ⟨h1, h2, h3⟩
theorem grp_rising : ∀ (ps : List (Int × Text)) {g : Grp}, Rising g → Rising (grp g ps)
  | [], _, h => h
  | _ :: ps, _, h => grp_rising ps (ins_rising _ _ h)
theorem puts_ins (H : List Text) {g : Grp} (hr : Rising g) (k : Nat) (t : Text) : puts H (ins k t g) = (puts H g).set k t := by
  refine List.ext_getElem? fun j => ?_
  rw [puts_look (ins_rising k t hr), look_ins, List.getElem?_set, Dk.puts_length, puts_look hr]
  by_cases hj : j < H.length
  · rw [if_pos hj, if_pos hj]
    by_cases hk : k = j
    · subst hk; simp [hj]
    · rw [if_neg (Ne.symm hk), if_neg hk]
  · rw [if_neg hj, if_neg hj]
    split
    · rename_i e; subst e; rw [if_neg hj]
    · rfl
theorem puts_grp : ∀ (ps : List (Int × Text)) (H : List Text) {g : Grp}, Rising g → puts H (grp g ps) = along (puts H g) ps
  | [], _, _, _ => rfl
  | p :: ps, H, g, h => by
    show puts H (grp (ins _ _ g) ps) = along ((puts H g).set _ _) ps
    rw [puts_grp ps H (ins_rising _ _ h), puts_ins H h]
theorem rising_nil : Rising ([] : Grp) := List.Pairwise.nil
theorem ins_length (k : Nat) (t : Text) : ∀ {m : Grp}, Rising m → (ins k t m).length = if (look k m).isSome then m.length else m.length + 1
  | [], _ => rfl
  | x :: m, hr => by
    obtain ⟨h1, h2⟩ := List.pairwise_cons.1 hr
    unfold ins
    by_cases hk : k < x.1
    · rw [if_pos hk]
      have : look k (x :: m) = none := look_none.2 fun y hy => by
        rcases List.mem_cons.1 hy with rfl | hy
        · omega
        · have := h1 y hy; omega
      rw [this]; rfl
    · rw [if_neg hk]
      unfold look
      by_cases he : k = x.1
      · rw [if_pos he, if_pos he.symm]; rfl
      · rw [if_neg he, if_neg (Ne.symm he), List.length_cons, ins_length k t h2]
        split <;> rfl
theorem grp_mem {x : Nat × Text} : ∀ {ps : List (Int × Text)} {g : Grp}, x ∈ grp g ps → x ∈ g ∨ ∃ p ∈ ps, p.1.toNat = x.1
  | [], _, h => .inl h
  | p :: ps, g, h => by
    rcases grp_mem (ps := ps) (g := ins p.1.toNat (full p.2) g) h with h | ⟨q, hq, e⟩
    · rcases ins_mem h with rfl | h
      · exact .inr ⟨p, List.mem_cons_self, rfl⟩
      · exact .inl h
    · exact .inr ⟨q, List.mem_cons_of_mem _ hq, e⟩
theorem look_grp_keeps {k : Nat} : ∀ (ps : List (Int × Text)) {g : Grp}, (look k g).isSome → (look k (grp g ps)).isSome
  | [], _, h => h
  | p :: ps, g, h => look_grp_keeps ps (g := ins p.1.toNat (full p.2) g) (by rw [look_ins]; split <;> simp_all)
theorem look_grp {p : Int × Text} : ∀ {ps : List (Int × Text)} {g : Grp}, p ∈ ps → (look p.1.toNat (grp g ps)).isSome
  | q :: ps, g, h => by
    rcases List.mem_cons.1 h with rfl | h
    · exact look_grp_keeps ps (g := ins p.1.toNat (full p.2) g) (by rw [look_ins, if_pos rfl]; rfl)
    · exact look_grp (ps := ps) (g := ins q.1.toNat (full q.2) g) h
theorem rising_without {k : Nat} : ∀ {m : Grp}, Rising m → m.length ≤ (m.filter (fun x => decide (x.1 ≠ k))).length + 1
  | [], _ => by simp
  | x :: m, hr => by
    obtain ⟨h1, h2⟩ := List.pairwise_cons.1 hr
    rw [List.filter_cons]
    by_cases hx : x.1 = k
    · rw [if_neg (by simp [hx])]
      have : m.filter (fun x => decide (x.1 ≠ k)) = m := List.filter_eq_self.2 fun y hy => by
        have := h1 y hy
        simp; omega
      rw [this]; simp
    · rw [if_pos (by simpa using hx), List.length_cons, List.length_cons]
      have := rising_without (k := k) h2
      omega
theorem covers_length : ∀ (m' m : Grp), Rising m → (∀ x ∈ m, ∃ y ∈ m', y.1 = x.1) → m.length ≤ m'.length
  | [], m, _, h => by
    cases m with
    | nil => exact Nat.le_refl _
    | cons x m => obtain ⟨y, hy, _⟩ := h x List.mem_cons_self; cases hy
  | z :: m', m, hr, h => by
    have h1 := rising_without (k := z.1) hr
    have h2 := covers_length m' (m.filter (fun x => decide (x.1 ≠ z.1))) (List.Pairwise.filter _ hr) fun x hx => by
      obtain ⟨hx1, hx2⟩ := List.mem_filter.1 hx
      obtain ⟨y, hy, e⟩ := h x hx1
      rcases List.mem_cons.1 hy with rfl | hy
      · simp at hx2; omega
      · exact ⟨y, hy, e⟩
    rw [List.length_cons]; omega
/-- Of some of the puts the group isn't longer. -/
theorem grp_part {ps qs : List (Int × Text)} (h : ∀ p ∈ ps, p ∈ qs) : (grp [] ps).length ≤ (grp [] qs).length := by
  refine covers_length _ _ (grp_rising ps rising_nil) fun x hx => ?_
  rcases grp_mem hx with hx | ⟨p, hp, e⟩
  · cases hx
  · have := look_grp (g := []) (h p hp)
    rw [e] at this
    obtain ⟨t, ht⟩ := Option.isSome_iff_exists.1 this
    exact ⟨(x.1, t), look_mem ht, rfl⟩
theorem grp_same {ps qs : List (Int × Text)} (h : ∀ p ∈ ps, p ∈ qs) (h' : ∀ p ∈ qs, p ∈ ps) : (grp [] ps).length = (grp [] qs).length := Nat.le_antisymm (grp_part h) (grp_part h')
theorem grp_len_le : ∀ (ps : List (Int × Text)) {g : Grp}, Rising g → (grp g ps).length ≤ g.length + ps.length
  | [], _, _ => Nat.le_refl _
  | p :: ps, g, h => by
    have h1 := grp_len_le ps (g := ins p.1.toNat (full p.2) g) (ins_rising _ _ h)
    have h2 := ins_length p.1.toNat (full p.2) h
    show (grp (ins _ _ g) ps).length ≤ g.length + (ps.length + 1)
    split at h2 <;> omega
theorem sizeOf_mono {a b : Nat} (h : a ≤ b) : sizeOf a ≤ sizeOf b := by unfold sizeOf; omega
/-- The document's answer where all puts fit. -/
theorem comm_fit {ring : Nat} {H : List Text} {ps : List (Int × Text)} (h : Fit H.length ps) : comm ring H ps = if ring < sizeOf (grp [] ps).length then (5, H) else (0, along H ps) := by
  unfold comm
  rw [fit_gather h]
  simp only
  rw [if_neg (by decide), puts_grp ps H rising_nil, Dk.puts_nil]
theorem comm_ok {ring : Nat} {H : List Text} {ps : List (Int × Text)} (h : (comm ring H ps).1 = 0) : Fit H.length ps ∧ sizeOf (grp [] ps).length ≤ ring ∧ (comm ring H ps).2 = along H ps := by
  have hf : Fit H.length ps := by
    unfold comm at h
    split at h
    · rename_i hc; exact absurd h hc
    · rename_i hc
      exact gather_fit (g := []) (by omega)
  rw [comm_fit hf] at h ⊢
  split at h
  · cases h
  · rename_i hs
    rw [if_neg hs]
    exact ⟨hf, by omega, rfl⟩
theorem comm_no {ring : Nat} {H : List Text} {ps : List (Int × Text)} (h : (comm ring H ps).1 ≠ 0) : (comm ring H ps).2 = H := by
  unfold comm at h ⊢
  split
  · rfl
  · split
    · rfl
    · rename_i h1 h2
      rw [if_neg h1, if_neg h2] at h
      exact absurd rfl h
theorem comm_code (ring : Nat) (H : List Text) (ps : List (Int × Text)) : (comm ring H ps).1 = 0 ∨ (comm ring H ps).1 = 2 ∨ (comm ring H ps).1 = 5 := by
  unfold comm
  split
  · exact gather_code _ _ _
  · split
    · exact .inr (.inr rfl)
    · exact .inl rfl
/-- Part by part. -/
theorem comm_parts {ring : Nat} {H : List Text} {a b c : List (Int × Text)} (h : (comm ring H (a ++ (b ++ c))).1 = 0) : comm ring (along H a) b = (0, along H (a ++ b)) := by
  obtain ⟨h1, h2, _⟩ := comm_ok h
  have hb : Fit (along H a).length b := by rw [along_length]; exact h1.right.left
  rw [comm_fit hb, if_neg, along_append]
  have := sizeOf_mono (grp_part (ps := b) (qs := a ++ (b ++ c)) fun p hp => List.mem_append_right _ (List.mem_append_left _ hp))
  omega
end Wl
end Go.Proofs.YtahnhhhhfioibaaGreatDoor

namespace Go.Proofs.YtahnhhhhfioibaaGreatDoor
open Go.RowKit Lib

section
variable {P : Program}
theorem run_append_one_room (w : World) (t ty e : TypeId) (i : TypeInfo) (ht : P.underlying t = some (.slice e)) (hi : P.info? e = some i) (hs1 : i.size = 1)
    (g sLen sCap : Nat) (cur : Array Value) (fz : Nat × Nat) (hg : w.heap[g]? = some (.cells cur e fz)) (hfz : ¬ (fz.1 ≤ sLen ∧ sLen < fz.2))
    (a : Addr) (u : Value) (hu : w.cell? a = some u) (h1 : u.oneCell' = true) (hroom : sLen + 1 ≤ sCap) (hfit : sLen < cur.size) :
    (Builtin.append_ #[t, t] ty #[.slice (some ⟨g, 0, none⟩) sLen sCap, .slice (some a) 1 1]).run P w = .ok (.slice (some ⟨g, 0, none⟩) (sLen + 1) sCap) (w.setRow g (cur.setIfInBounds sLen u)) := by
  have hf := run_firstCells_some (P := P) w i.size 1 a 1 1 [u] (by simp [hs1]) (fun j v hj => by
    cases j with
    | zero => simp at hj; subst hj; simpa [Addr.add] using hu
    | succ j => simp at hj)
  have hcell : w.cell? ⟨g, sLen, none⟩ = some cur[sLen] := by simp [World.cell?, hg, hfit]
  have hfro : w.frozen? ⟨g, sLen, none⟩ = false := by
    unfold World.frozen?
    rw [hg]
    simp only [Bool.and_eq_false_iff, decide_eq_false_iff_not]
    by_cases h : fz.1 ≤ sLen
    · exact .inr fun h2 => hfz ⟨h, h2⟩
    · exact .inl h
  have hadd : (⟨g, sLen, none⟩ : Addr).add 0 = ⟨g, sLen, none⟩ := by simp [Addr.add]
  have hst : (storeCells ⟨g, sLen, none⟩ [u]).run P w = .ok () (w.setRow g (cur.setIfInBounds sLen u)) := by
    simp only [storeCells, Sem.run_bind]
    rw [hadd, run_store P w _ u _ h1, hcell]
    simp [hfro, setCell_eq_setRow w g sLen cur e fz u hg]
  simp [Builtin.append_, run_underlying ht, sizeOf, typeInfo, hi, hs1, Builtin.lenOf, hroom, hs1 ▸ hf, Addr.add_lit, hst]
end

theorem below_setRow' {B g : Nat} {w0 w : World} (hb : Below B w0 w) (hBg : B ≤ g) (cs : Array Value) : Below B w0 (w.setRow g cs) :=
  hb.trans ⟨rfl, rfl, rfl, by simp [World.setRow], fun k hk => setRow_other w g k cs (by omega)⟩
/-- v holds the bytes l, in a row of the call's own, from block B on; a mark may stand behind it. -/
def OwnG (B : Nat) (w : World) (v : Value) (l : List UInt8) : Prop :=
  ∃ g cap cur fz, v = .slice (some ⟨g, 0, none⟩) l.length cap ∧ B ≤ g ∧ w.heap[g]? = some (.cells cur 5 fz) ∧ (∀ j, j < cur.size → ¬ (fz.1 ≤ j ∧ j < fz.2)) ∧ l.length ≤ cap ∧ cap ≤ maxLen ∧ cur.size = cap ∧ cur.toList.take l.length = l.map bcell
theorem OwnG.below {B B' : Nat} {w w' : World} {v : Value} {l : List UInt8} (h : OwnG B w v l) (hb : Below B' w w') (hB : w.heap.size ≤ B') : OwnG B w' v l := by
  obtain ⟨g, cap, cur, fz, rfl, h1, h2, h3⟩ := h
  exact ⟨g, cap, cur, fz, rfl, h1, by rw [hb.block g (by have := (Array.getElem?_eq_some_iff.1 h2).1; omega)]; exact h2, h3⟩
theorem OwnG.alloc {B : Nat} {w : World} {v : Value} {l : List UInt8} (h : OwnG B w v l) (o : Obj) : OwnG B (w.alloc o) v l := h.below ((Below.refl _ w).alloc (Nat.le_refl _) o) (Nat.le_refl _)
theorem OwnG.slice {B : Nat} {w : World} {v : Value} {l : List UInt8} (h : OwnG B w v l) : ∃ g cap, v = .slice (some ⟨g, 0, none⟩) l.length cap ∧ B ≤ g := by
  obtain ⟨g, cap, cur, fz, rfl, h1, _⟩ := h
  exact ⟨g, cap, rfl, h1⟩
theorem OwnG.cell {B : Nat} {w : World} {g n cap : Nat} {l : List UInt8} (h : OwnG B w (.slice (some ⟨g, 0, none⟩) n cap) l) (j : Nat) (hj : j < l.length) : w.cell? ⟨g, j, none⟩ = some (bcell l[j]) := by
  obtain ⟨g', cap', cur, fz, e, h1, h2, _, _, _, _, h3⟩ := h
  injection e with e1 e2 e3
  injection e1 with e1
  injection e1 with e1
  subst e1
  rw [cell_of_row w g j cur _ fz h2]
  have : (cur.toList.take l.length)[j]? = some (bcell l[j]) := by rw [h3, List.getElem?_map, List.getElem?_eq_getElem hj]; rfl
  rw [List.getElem?_take, if_pos hj] at this
  simpa using this
/-- []byte(s). -/
theorem own_of_string (w : World) (s : ByteArray) (hs : s.size ≤ 1000000) : ∃ v o, (convert 9 110 (.string s)).run Tryz.prog w = .ok v (w.drew.alloc o) ∧ OwnG w.heap.size (w.drew.alloc o) v s.data.toList := by
  refine ⟨_, _, run_bytes_of_string (P := Tryz.prog) w 9 110 5 s Tryz.underlying9 Tryz.underlying110 Tryz.underlying5, ?_⟩
  have hge := grownCap_ge w s.size 0 5
  have hle := grownCap_le_maxLen w s.size 0 5 (by unfold maxLen; omega)
  have hsz : (bytesRow s (grownCap w s.size 0 5)).size = grownCap w s.size 0 5 := by
    have hd : s.data.size = s.size := rfl
    simp [bytesRow, hd]; omega
  have hl : s.data.toList.length = s.size := Array.length_toList
  refine ⟨w.heap.size, grownCap w s.size 0 5, bytesRow s (grownCap w s.size 0 5), _, by rw [hl], Nat.le_refl _, heap_alloc_new w.drew _, fun j hj h => by have := h.1; simp only at this; omega, by rw [hl]; exact hge, hle, hsz, ?_⟩
  unfold bytesRow
  rw [Array.toList_append, List.take_append_of_le_length (by simp), List.take_of_length_le (by simp), Array.toList_map]
  rfl
/-- append(b, c). -/
theorem wpList_app_byte {B : Nat} {w : World} {v : Value} {l : List UInt8} {ops : Array Oper} {rest : List Oper} {o : Oper} {a : Act} {Q : Exit → Act → World → Prop} (hgd : o.guard = none) (s x : Operand)
    (ho : o.op = .call { callee := .builtin .append, args := #[s, x], argTypes := #[110, 110] })
    (hs : a.eval s = v) (hown : OwnG B w v l) (hB : B ≤ w.heap.size) (g : Nat) (c : UInt8) (hx : a.eval x = .slice (some ⟨g, 0, none⟩) 1 1) (hc : w.cell? ⟨g, 0, none⟩ = some (bcell c)) (hlen : l.length ≤ 1000000)
    (h : ∀ v' w', OwnG B w' v' (l ++ [c]) → Below B w w' → wpList Tryz.prog ops Q rest (a.put o.dst v') w') : wpList Tryz.prog ops Q (o :: rest) a w := by
  obtain ⟨i, hi, hz, hsz, hby⟩ := info_of (P := Tryz.prog) (E := 5) (size := 1) (bytes := 1) (z := .int .u8 0) (by kernel_rfl)
  obtain ⟨gv, cap, cur, fz, rfl, h1, h2, h3, h4, h5, h6, h7⟩ := hown
  have hrun : ∃ v' w', (Builtin.append_ #[110, 110] o.type #[.slice (some ⟨gv, 0, none⟩) l.length cap, .slice (some ⟨g, 0, none⟩) 1 1]).run Tryz.prog w = .ok v' w' ∧ OwnG B w' v' (l ++ [c]) ∧ Below B w w' := by
    by_cases hroom : l.length + 1 ≤ cap
    · refine ⟨_, _, run_append_one_room w 110 o.type 5 i Tryz.underlying110 hi hsz gv l.length cap cur fz h2 (h3 _ (by omega)) ⟨g, 0, none⟩ (bcell c) hc rfl hroom (by omega), ⟨gv, cap, cur.setIfInBounds l.length (bcell c), fz, by simp, h1, setRow_heap w gv cur _ _ fz h2, by simpa using h3, by simpa using hroom, h5, by simpa using h6, ?_⟩, below_setRow' (Below.refl _ _) h1 _⟩
      rw [Array.toList_setIfInBounds, List.length_append, List.length_singleton, List.take_succ_eq_append_getElem (by simp; omega), List.getElem_set_self, List.take_set, List.map_append]
      rw [List.set_eq_of_length_le (by rw [List.length_take]; omega), h7]
      rfl
    · have holds : ∀ j u, (l.map bcell)[j]? = some u → w.cell? ((⟨gv, 0, none⟩ : Addr).add j) = some u := by
        intro j u hu
        rw [show (⟨gv, 0, none⟩ : Addr).add j = ⟨gv, j, none⟩ by unfold Addr.add; split <;> simp_all, cell_of_row w gv j cur _ fz h2]
        rw [← h7] at hu
        by_cases hj : j < l.length
        · rw [List.getElem?_take, if_pos hj] at hu; simpa using hu
        · rw [List.getElem?_take, if_neg hj] at hu; cases hu
      have hr := run_append_grow (P := Tryz.prog) w 110 o.type 5 i (.int .u8 0) Tryz.underlying110 hi hz ⟨gv, 0, none⟩ l.length cap (l.map bcell) (by rw [hsz]; simp) holds ⟨g, 0, none⟩ 1 1 [bcell c] (by rw [hsz]; rfl) (fun j u hu => by
        cases j with
        | zero => simp at hu; subst hu; simpa [Addr.add] using hc
        | succ j => simp at hu) (by omega) (by omega) (growslice_fits (by omega) (by rw [hby]; omega))
      have hge := grownCap_ge w (l.length + 1) cap 5
      have hle := grownCap_le_maxLen w (l.length + 1) cap 5 (by unfold maxLen; omega)
      refine ⟨_, _, hr, ⟨w.heap.size, grownCap w (l.length + 1) cap 5, _, (0, 0), by simp, hB, heap_alloc_new w.drew _, fun j _ h => by have := h.2; simp only at this; omega, by simpa using hge, hle, ?_, ?_⟩, ⟨rfl, rfl, rfl, by simp, fun k hk => Below.heap_alloc w.drew _ k (by show k < w.heap.size; omega)⟩⟩
      · simp only [Array.size_append, List.size_toArray, List.length_map, size_zeroCells, List.length_singleton]
        show l.length + 1 + (grownCap w (l.length + 1) cap 5 - (l.length + 1)) * 1 = _
        omega
      · simp only [Array.toList_append, List.length_append, List.length_singleton, List.map_append]
        rw [List.take_left' (by simp)]
        rfl
  obtain ⟨v', w', hr, h8, h9⟩ := hrun
  refine wpList_plain hgd fun K hK => ?_
  unfold Oper.wp execOp
  simp only [ho, resolve, invoke, builtin, Sem.run_bind, Sem.run_pure, Result.andThen_ok, List.map_toArray, List.map_cons, List.map_nil, hs, hx, hr]
  exact hK _ _ (h v' w' h8 h9)
theorem OwnG.back {B : Nat} {w : World} {g n cap : Nat} {l : List UInt8} (h : OwnG B w (.slice (some ⟨g, 0, none⟩) n cap) l) (hn : n = l.length) : (convert 110 9 (.slice (some ⟨g, 0, none⟩) n cap)).run Tryz.prog w = .ok (.string (bs l)) w := by
  subst hn
  exact run_convert_bytes_back (P := Tryz.prog) w 110 9 5 ⟨g, 0, none⟩ cap l (by kernel_rfl) (by kernel_rfl) (by kernel_rfl) (by
    intro i hi
    rw [show (⟨g, 0, none⟩ : Addr).add i = ⟨g, i, none⟩ by unfold Addr.add; split <;> simp_all]
    exact h.cell i hi)
end Go.Proofs.YtahnhhhhfioibaaGreatDoor

namespace Go.Proofs.YtahnhhhhfioibaaGreatDoor
open Go.RowKit Lib

def byteElem : Elem UInt8 := oneElem bcell (fun _ => rfl)
theorem byteST : SliceT Tryz.prog 110 5 byteElem.size := SliceT.of (size := 1) (bytes := 1) (z := .int .u8 0) Tryz.underlying110 (by kernel_rfl) rfl (by decide)
abbrev OwnY (B : Nat) (w : World) (v : Value) (l : List UInt8) : Prop := Own byteElem 5 B w v l
theorem But.ofGrown {w w' : World} {row : Option Nat} (hg : w.grownBy w' row) : But (fun x => row = some x) w w' := ⟨hg.os, hg.tape, hg.output, hg.size, fun x hx hn => hg.block x hx (fun e => hn e.symm)⟩
def OwnZ (z : Bool) (B : Nat) (w : World) (v : Value) (l : List UInt8) : Prop :=
  ∃ g cap cur fz, v = .slice (some ⟨g, 0, none⟩) l.length cap ∧ B ≤ g ∧ w.heap[g]? = some (.cells cur 5 fz) ∧ (∀ j, j < cur.size → ¬ (fz.1 ≤ j ∧ j < fz.2)) ∧ l.length ≤ cap ∧ cap ≤ maxLen ∧ cur.size = cap ∧ cur.toList.take l.length = l.map bcell ∧ (z = true → fz = (0, 0))
variable {z : Bool}
theorem OwnZ.but {B : Nat} {S : Nat → Prop} {w w' : World} {v : Value} {l : List UInt8} (h : OwnZ z B w v l) (hb : But S w w') (hn : ∀ g, v.ownBlock = some g → ¬ S g) : OwnZ z B w' v l := by
  obtain ⟨g, cap, cur, fz, rfl, h1, h2, h3⟩ := h
  exact ⟨g, cap, cur, fz, rfl, h1, by rw [hb.block g (Array.getElem?_eq_some_iff.1 h2).1 (hn g rfl)]; exact h2, h3⟩
theorem OwnZ.alloc {B : Nat} {w : World} {v : Value} {l : List UInt8} (h : OwnZ z B w v l) (o : Obj) : OwnZ z B (w.alloc o) v l := h.but ((But.refl (fun _ => False) w).alloc o) (fun _ _ h => h)
theorem OwnZ.slice {B : Nat} {w : World} {v : Value} {l : List UInt8} (h : OwnZ z B w v l) : ∃ g cap, v = .slice (some ⟨g, 0, none⟩) l.length cap ∧ B ≤ g ∧ g < w.heap.size ∧ l.length ≤ cap := by
  obtain ⟨g, cap, cur, fz, rfl, h1, h2, _, h4, _⟩ := h
  exact ⟨g, cap, rfl, h1, (Array.getElem?_eq_some_iff.1 h2).1, h4⟩
theorem OwnZ.cell {B : Nat} {w : World} {g n cap : Nat} {l : List UInt8} (h : OwnZ z B w (.slice (some ⟨g, 0, none⟩) n cap) l) (j : Nat) (hj : j < l.length) : w.cell? ⟨g, j, none⟩ = some (bcell l[j]) := by
  obtain ⟨g', cap', cur, fz, e, h1, h2, _, _, _, _, h3, _⟩ := h
  injection e with e1 e2 e3
  injection e1 with e1
  injection e1 with e1
  subst e1
  rw [cell_of_row w g j cur _ fz h2]
  have : (cur.toList.take l.length)[j]? = some (bcell l[j]) := by rw [h3, List.getElem?_map, List.getElem?_eq_getElem hj]; rfl
  rw [List.getElem?_take, if_pos hj] at this
  simpa using this
theorem OwnZ.block {B : Nat} {w : World} {v : Value} {l : List UInt8} (h : OwnZ z B w v l) : ∀ k, v.ownBlock = some k → B ≤ k ∧ k < w.heap.size := by
  obtain ⟨g, cap, rfl, h1, h2, _⟩ := h.slice
  intro k hk
  simp [Value.ownBlock] at hk
  omega
theorem OwnZ.typed {B : Nat} {w : World} {v : Value} {l : List UInt8} (h : OwnZ z B w v l) {k : Nat} (hk : v.ownBlock = some k) : ∃ cur fz, w.heap[k]? = some (.cells cur 5 fz) := by
  obtain ⟨g, cap, cur, fz, rfl, _, h2, _⟩ := h
  simp [Value.ownBlock] at hk
  subst hk
  exact ⟨cur, fz, h2⟩
theorem OwnZ.own {B : Nat} {w : World} {v : Value} {l : List UInt8} (h : OwnZ true B w v l) : OwnY B w v l := by
  obtain ⟨g, cap, cur, fz, rfl, h1, h2, _, h4, h5, h6, h7, h8⟩ := h
  rw [h8 rfl] at h2
  refine ⟨by rw [byteElem.cells_length], .inr ⟨g, cap, cur, rfl, h1, h2, h4, h5, ?_, ?_⟩⟩
  · rw [show byteElem.size = 1 from rfl, Nat.mul_one]; exact h6
  · rw [show byteElem.cells l = l.map bcell from oneElem_cells _ _ _, show byteElem.size = 1 from rfl, Nat.mul_one]; exact h7
theorem OwnZ.ofOwn {B : Nat} {w : World} {g n cap : Nat} {l : List UInt8} (h : OwnY B w (.slice (some ⟨g, 0, none⟩) n cap) l) : OwnZ true B w (.slice (some ⟨g, 0, none⟩) n cap) l := by
  rcases h.2 with ⟨e, _⟩ | ⟨g', cap', cur, e, hg, hh, hc, hm, hs, ht⟩
  · cases e
  · injection e with e1 e2 e3
    injection e1 with e1
    injection e1 with e1
    subst e1 e2 e3
    refine ⟨g, cap, cur, (0, 0), rfl, hg, hh, fun j _ h => by have := h.2; simp only at this; omega, hc, hm, ?_, ?_, fun _ => rfl⟩
    · rw [show byteElem.size = 1 from rfl, Nat.mul_one] at hs; exact hs
    · rw [show byteElem.cells l = l.map bcell from oneElem_cells _ _ _, show byteElem.size = 1 from rfl, Nat.mul_one] at ht; exact ht
/-- []byte of a constant: a row that bears a mark. -/
theorem OwnZ.const (w : World) (l : List UInt8) (hn : l.length ≤ 1000000) : OwnZ false 0 (w.alloc (.cells (l.map bcell).toArray 5 (l.length, l.length + 1))) (.slice (some ⟨w.heap.size, 0, none⟩) l.length l.length) l :=
  ⟨w.heap.size, l.length, (l.map bcell).toArray, (l.length, l.length + 1), rfl, Nat.zero_le _, heap_alloc_new w _, fun j hj h => by have := h.1; simp at hj; simp only at this; omega, Nat.le_refl _, by unfold maxLen; omega, by simp, by rw [List.take_of_length_le (by simp)], fun h => by cases h⟩
/-- append(b, c). -/
theorem wpList_app_byteZ {B : Nat} {w : World} {v : Value} {l : List UInt8} {ops : Array Oper} {rest : List Oper} {o : Oper} {a : Act} {Q : Exit → Act → World → Prop} (hgd : o.guard = none) (s x : Operand)
    (ho : o.op = .call { callee := .builtin .append, args := #[s, x], argTypes := #[110, 110] })
    (hs : a.eval s = v) (hown : OwnZ z B w v l) (hB : B ≤ w.heap.size) (g : Nat) (c : UInt8) (hx : a.eval x = .slice (some ⟨g, 0, none⟩) 1 1) (hc : w.cell? ⟨g, 0, none⟩ = some (bcell c)) (hlen : l.length ≤ 900000000)
    (h : ∀ v' w', OwnZ z B w' v' (l ++ [c]) → But (fun k => v.ownBlock = some k) w w' → (v'.ownBlock = v.ownBlock ∨ ∀ k, v'.ownBlock = some k → w.heap.size ≤ k) → wpList Tryz.prog ops Q rest (a.put o.dst v') w') : wpList Tryz.prog ops Q (o :: rest) a w := by
  obtain ⟨i, hi, hz, hsz, hby⟩ := info_of (P := Tryz.prog) (E := 5) (size := 1) (bytes := 1) (z := .int .u8 0) (by kernel_rfl)
  obtain ⟨gv, cap, cur, fz, rfl, h1, h2, h3, h4, h5, h6, h7, h7z⟩ := hown
  have hrun : ∃ v' w', (Builtin.append_ #[110, 110] o.type #[.slice (some ⟨gv, 0, none⟩) l.length cap, .slice (some ⟨g, 0, none⟩) 1 1]).run Tryz.prog w = .ok v' w' ∧ OwnZ z B w' v' (l ++ [c]) ∧ But (fun k => some gv = some k) w w' ∧ (v'.ownBlock = some gv ∨ ∀ k, v'.ownBlock = some k → w.heap.size ≤ k) := by
    by_cases hroom : l.length + 1 ≤ cap
    · refine ⟨_, _, run_append_one_room w 110 o.type 5 i Tryz.underlying110 hi hsz gv l.length cap cur fz h2 (h3 _ (by omega)) ⟨g, 0, none⟩ (bcell c) hc rfl hroom (by omega), ⟨gv, cap, cur.setIfInBounds l.length (bcell c), fz, by simp, h1, setRow_heap w gv cur _ _ fz h2, by simpa using h3, by simpa using hroom, h5, by simpa using h6, ?_, h7z⟩, (But.refl _ w).setRow gv _ (fun _ => rfl), .inl rfl⟩
      rw [Array.toList_setIfInBounds, List.length_append, List.length_singleton, List.take_succ_eq_append_getElem (by simp; omega), List.getElem_set_self, List.take_set, List.map_append]
      rw [List.set_eq_of_length_le (by rw [List.length_take]; omega), h7]
      rfl
    · have holds : ∀ j u, (l.map bcell)[j]? = some u → w.cell? ((⟨gv, 0, none⟩ : Addr).add j) = some u := by
        intro j u hu
        rw [show (⟨gv, 0, none⟩ : Addr).add j = ⟨gv, j, none⟩ by unfold Addr.add; split <;> simp_all, cell_of_row w gv j cur _ fz h2]
        rw [← h7] at hu
        by_cases hj : j < l.length
        · rw [List.getElem?_take, if_pos hj] at hu; simpa using hu
        · rw [List.getElem?_take, if_neg hj] at hu; cases hu
      have hr := run_append_grow (P := Tryz.prog) w 110 o.type 5 i (.int .u8 0) Tryz.underlying110 hi hz ⟨gv, 0, none⟩ l.length cap (l.map bcell) (by rw [hsz]; simp) holds ⟨g, 0, none⟩ 1 1 [bcell c] (by rw [hsz]; rfl) (fun j u hu => by
        cases j with
        | zero => simp at hu; subst hu; simpa [Addr.add] using hc
        | succ j => simp at hu) (by omega) (by omega) (growslice_fits (by omega) (by rw [hby]; omega))
      have hge := grownCap_ge w (l.length + 1) cap 5
      have hle := grownCap_le_maxLen w (l.length + 1) cap 5 (by unfold maxLen; omega)
      refine ⟨_, _, hr, ⟨w.heap.size, grownCap w (l.length + 1) cap 5, _, (0, 0), by simp, hB, heap_alloc_new w.drew _, fun j _ h => by have := h.2; simp only at this; omega, by simpa using hge, hle, ?_, ?_, fun _ => rfl⟩, (But.refl _ w).drew.alloc _, .inr fun k hk => by simp [Value.ownBlock] at hk; omega⟩
      · simp only [Array.size_append, List.size_toArray, List.length_map, size_zeroCells, List.length_singleton]
        show l.length + 1 + (grownCap w (l.length + 1) cap 5 - (l.length + 1)) * 1 = _
        omega
      · simp only [Array.toList_append, List.length_append, List.length_singleton, List.map_append]
        rw [List.take_left' (by simp)]
        rfl
  obtain ⟨v', w', hr, h8, h9, h10⟩ := hrun
  refine wpList_plain hgd fun K hK => ?_
  unfold Oper.wp execOp
  simp only [ho, resolve, invoke, builtin, Sem.run_bind, Sem.run_pure, Result.andThen_ok, List.map_toArray, List.map_cons, List.map_nil, hs, hx, hr]
  exact hK _ _ (h v' w' h8 h9 h10)
theorem OwnZ.back {B : Nat} {w : World} {v : Value} {l : List UInt8} (h : OwnZ z B w v l) : (convert 110 9 v).run Tryz.prog w = .ok (.string (bs l)) w := by
  obtain ⟨g, cap, rfl, _⟩ := h.slice
  exact run_convert_bytes_back (P := Tryz.prog) w 110 9 5 ⟨g, 0, none⟩ cap l (by kernel_rfl) (by kernel_rfl) (by kernel_rfl) (by
    intro i hi
    rw [show (⟨g, 0, none⟩ : Addr).add i = ⟨g, i, none⟩ by unfold Addr.add; split <;> simp_all]
    exact h.cell i hi)
end Go.Proofs.YtahnhhhhfioibaaGreatDoor

namespace Go.Proofs.YtahnhhhhfioibaaGreatDoor
open Go.RowKit Lib

theorem enc_step (w j n : Nat) (hj : j < w) : Wl.enc (j + 1) (n / 256 ^ (w - (j + 1))) = Wl.enc j (n / 256 ^ (w - j)) ++ [UInt8.ofNat (n / 256 ^ (w - (j + 1)))] := by
  rw [Wl.enc, Nat.div_div_eq_div_mul, ← Nat.pow_succ, show (w - (j + 1)).succ = w - j by omega]
theorem shift_val (n k : Nat) : (n : Int) / 2 ^ (8 * k) % 256 = ((UInt8.ofNat (n / 256 ^ k)).toNat : Int) := by
  have e : (n : Int) / 2 ^ (8 * k) = ((n / 256 ^ k : Nat) : Int) := by
    rw [Int.natCast_ediv]
    congr 1
    rw [show (256 : Nat) = 2 ^ 8 from rfl, ← Nat.pow_mul, Int.natCast_pow]
    rfl
  rw [e, UInt8.toNat_ofNat']
  omega
set_option maxHeartbeats 1000000 in
theorem appendNumber_any (z : Bool) (B : Nat) (w : World) (v : Value) (l : List UInt8) (n width : Nat) (hown : OwnZ z B w v l) (hB : B ≤ w.heap.size) (hl : l.length ≤ 800000000) (hn : n < 2 ^ 64) (hw : width ≤ 8) :
    Calls Tryz.prog 105 #[v, .int .u64 n, .int .i64 width] w fun e w' => ∃ v', e = .returned v' ∧ OwnZ z B w' v' (l ++ Wl.enc width n) ∧ But (fun k => v.ownBlock = some k) w w' ∧ (v'.ownBlock = v.ownBlock ∨ ∀ k, v'.ownBlock = some k → w.heap.size ≤ k) := by
  have hwI : (width : Int) ≤ 8 := by omega
  have HO := Lib.hid hown
  have HB := Lib.hid hB
  have HN := Lib.hid hn
  clear hown hB hn
  go_enter Tryz.func105, Tryz.ntmps105
  go_wp2
  go_loopw [0, 7] (fun u i wr => ∃ j : Nat, j ≤ width ∧ i = .int .i64 ((width : Int) - 1 - j) ∧ Hid (OwnZ z B wr u (l ++ Wl.enc j (n / 256 ^ (width - j)))) ∧ Hid (But (fun k => v.ownBlock = some k) w wr) ∧ Hid (u.ownBlock = v.ownBlock ∨ ∀ k, u.ownBlock = some k → w.heap.size ≤ k)) (fun _ i _ => ((intOf i) + 1).toNat)
  case atStart =>
    refine ⟨0, Nat.zero_le _, by simp, Lib.hid ?_, Lib.hid (But.refl _ _), Lib.hid (.inl rfl)⟩
    rw [Wl.enc, List.append_nil]; exact HO.out
  case round =>
    obtain ⟨j, hj, rfl, ho, hb, hwh⟩ := hrel
    by_cases hlt : j < width
    · obtain ⟨k, hk⟩ : ∃ k : Nat, (width : Int) - 1 - j = k := ⟨width - 1 - j, by omega⟩
      have hk7 : (k : Int) ≤ 7 := by omega
      have hk0 : (0 : Int) ≤ k := by omega
      have HK := Lib.hid (show k = width - (j + 1) by omega)
      have HJ := Lib.hid (And.intro hlt hj)
      rw [hk]
      have HKK := Lib.hid hk
      clear hk hlt hj hwI
      have HSH := Lib.hid (shift_val n k)
      go_wp2_with (at_builtin; refine Hid.out ?_)
      refine Lib.hid ?_
      rw [HSH.out]
      refine wpList_app_byteZ rfl _ _ rfl rfl (ho.out.alloc _) (by have := HB.out; have := hb.out.size; simp; omega) wr.heap.size (UInt8.ofNat (n / 256 ^ k)) rfl ((Blk.new wr #[.int .u8 ((UInt8.ofNat (n / 256 ^ k)).toNat : Int)] 5).cell rfl) (by rw [List.length_append, Wl.enc_length]; have := HJ.out; omega) ?_
      intro v' w4 hown4 hg4 hat4
      have HR := Lib.hid (show OwnZ z B w4 v' (l ++ Wl.enc (j + 1) (n / 256 ^ (width - (j + 1)))) ∧ But (fun k => v.ownBlock = some k) w w4 ∧ (v'.ownBlock = v.ownBlock ∨ ∀ k, v'.ownBlock = some k → w.heap.size ≤ k) by
        have hsz := hb.out.size
        refine ⟨?_, ?_, ?_⟩
        · rw [enc_step width j n HJ.out.1, ← List.append_assoc, ← HK.out]; exact hown4
        · refine (hb.out.alloc _).trans hg4 fun i hi e => ?_
          rcases hwh.out with h | h
          · rw [← h]; exact e
          · have := h i e; omega
        · rcases hat4 with h | h
          · rw [h]; exact hwh.out
          · exact .inr fun k hk => by have := h k hk; simp at this; omega)
      clear hown4 hg4 hat4
      go_wp2
      go_roundw
      case rel => exact ⟨j + 1, HJ.out.1, congrArg (Value.int .i64) (by have := HKK.out; omega), Lib.hid HR.out.1, Lib.hid HR.out.2.1, Lib.hid HR.out.2.2⟩
      case measure => have := HKK.out; simp [intOf] <;> omega
    · have hje : j = width := by omega
      subst hje
      have hneg : (j : Int) - 1 - j = -1 := by omega
      rw [hneg]
      go_wp2
      go_ret
      refine ⟨_, rfl, ?_, hb.out, hwh.out⟩
      have := ho.out
      rwa [Nat.sub_self, Nat.pow_zero, Nat.div_one] at this
end Go.Proofs.YtahnhhhhfioibaaGreatDoor

namespace Go.Proofs.YtahnhhhhfioibaaGreatDoor
open Go.RowKit Lib

theorem take_snoc (s : ByteArray) (k : Nat) (h : k < s.size) : s.data.toList.take (k + 1) = s.data.toList.take k ++ [s[k]] := by
  rw [List.take_succ_eq_append_getElem (by simpa using h)]; rfl
theorem or_byte (a b : Nat) (ha : a < 2 ^ 56) (hb : b < 256) : bits .or .u64 ((a : Int) * 256) (b : Int) = ((a * 256 + b : Nat) : Int) := by
  have h1 : (BitVec.ofInt 64 ((a : Int) * 256)).toNat = a * 256 := by
    rw [BitVec.toNat_ofInt]; omega
  have h2 : (BitVec.ofInt 64 (b : Int)).toNat = b := by
    rw [BitVec.toNat_ofInt]; omega
  have key : (BitVec.ofInt 64 ((a : Int) * 256) ||| BitVec.ofInt 64 (b : Int)).toNat = a * 256 + b := by
    rw [BitVec.toNat_or, h1, h2, show a * 256 = a <<< 8 from by rw [Nat.shiftLeft_eq], ← Nat.shiftLeft_add_eq_or_of_lt (by omega : b < 2 ^ 8)]
  show IntKind.u64.wrap ((BitVec.ofInt 64 ((a : Int) * 256) ||| BitVec.ofInt 64 (b : Int)).toNat : Nat) = _
  rw [key, IntKind.wrap_u64]
  omega
set_option maxHeartbeats 1000000 in
theorem numberOf_any (s : ByteArray) (w : World) (hs : s.size ≤ 8) :
    Calls Tryz.prog 106 #[.string s] w fun e w' => e = .returned (.int .u64 (Wl.dec s.data.toList : Nat)) ∧ w' = w := by
  have hsI : (s.size : Int) ≤ 8 := by omega
  go_enter Tryz.func106, Tryz.ntmps106
  go_wp2
  go_loop [3, 4] (fun n i => ∃ k : Nat, k ≤ s.size ∧ i = .int .i64 k ∧ n = .int .u64 (Wl.dec (s.data.toList.take k) : Nat)) (fun _ i => s.size - (intOf i).toNat)
  case atStart => exact ⟨0, Nat.zero_le _, rfl, rfl⟩
  case round =>
    obtain ⟨k, hk, rfl, rfl⟩ := hrel
    by_cases hlt : k < s.size
    · have hb := s[k].toNat_lt
      have hd : Wl.dec (s.data.toList.take k) < 2 ^ 56 := by
        have h1 := Wl.dec_snoc_lt (s.data.toList.take k)
        have h2 : (s.data.toList.take k).length = k := by rw [List.length_take, Array.length_toList]; exact Nat.min_eq_left hk
        rw [h2] at h1
        have h3 : 256 ^ k ≤ 256 ^ 7 := Nat.pow_le_pow_right (by decide) (by omega)
        have h4 : (256 : Nat) ^ 7 = 2 ^ 56 := by decide
        omega
      have HS := Lib.hid (show Wl.dec (s.data.toList.take (k + 1)) = Wl.dec (s.data.toList.take k) * 256 + s[k].toNat by rw [take_snoc s k hlt, Wl.dec_append])
      have HO := Lib.hid (or_byte _ _ hd hb)
      generalize Wl.dec (s.data.toList.take k) = a at *
      have haI : (a : Int) < 72057594037927936 := by omega
      have ha0 : (0 : Int) ≤ a := by omega
      clear hd
      go_wp2
      go_round
      case rel => exact ⟨k + 1, by omega, by go_num, by rw [HO.out, HS.out]⟩
      case measure => simp [intOf]; omega
    · have hke : k = s.size := by omega
      subst hke
      go_wp2
      go_ret
      refine ⟨?_, rfl⟩
      rw [List.take_of_length_le (by rw [Array.length_toList]; exact Nat.le_refl _)]
      rfl

/-! ### Beginnings and ends. -/
def Wl.starts (s p : Wl.Text) : Bool := p.isPrefixOf s
theorem starts_take (s p : ByteArray) : ((s.extract 0 p.size).toList == p.toList) = Wl.starts s.data.toList p.data.toList := by
  rw [ByteArray.toList_eq, ByteArray.toList_eq, ByteArray.data_extract, Array.toList_extract, List.extract_eq_take_drop, Bool.eq_iff_iff, beq_iff_eq]
  unfold Wl.starts
  rw [List.isPrefixOf_iff_prefix, List.prefix_iff_eq_take, Nat.sub_zero, List.drop_zero, Array.length_toList]
  exact ⟨fun h => h.symm, fun h => h.symm⟩
def strLen : Value → Nat
  | .string t => t.size
  | _ => 0
theorem hasPrefix0_any (s p : ByteArray) (w : World) :
    Calls Tryz.prog 142 #[.string s, .string p] w fun e w' => e = .returned (.bool (Wl.starts s.data.toList p.data.toList)) ∧ w' = w := by
  by_cases h : p.size ≤ s.size
  · have hI : (p.size : Int) ≤ s.size := by omega
    go_enter Tryz.func142, Tryz.ntmps142
    go_wp2
    go_ret
    exact ⟨ret_bool' (starts_take s p), rfl⟩
  · have hI : ¬ (p.size : Int) ≤ s.size := by omega
    have HP : Wl.starts s.data.toList p.data.toList = false := by
      rw [Bool.eq_false_iff]
      unfold Wl.starts
      intro hp
      have := (List.isPrefixOf_iff_prefix.1 hp).length_le
      rw [Array.length_toList, Array.length_toList] at this
      exact h this
    rw [HP]
    clear HP
    go_enter Tryz.func142, Tryz.ntmps142
    go_wp2
    go_ret
    exact ⟨rfl, rfl⟩
theorem hasPrefix_any (s p : ByteArray) (w : World) :
    Calls Tryz.prog 131 #[.string s, .string p] w fun e w' => e = .returned (.bool (Wl.starts s.data.toList p.data.toList)) ∧ w' = w := by
  go_enter Tryz.func131, Tryz.ntmps131
  go_wp2_with fail
  refine (hasPrefix0_any s p _).mono ?_
  rintro e w1 ⟨rfl, rfl⟩
  go_wp2
  go_ret
  exact ⟨rfl, rfl⟩
theorem isPuts_any (s : ByteArray) (w : World) :
    Calls Tryz.prog 111 #[.string s] w fun e w' => e = .returned (.bool (Wl.isPuts s.data.toList)) ∧ w' = w := by
  go_enter Tryz.func111, Tryz.ntmps111
  go_wp2_with fail
  refine (hasPrefix_any s _ _).mono ?_
  rintro e w1 ⟨rfl, rfl⟩
  go_wp2
  go_ret
  exact ⟨rfl, rfl⟩
/-- t is l without the c's behind it; before it. -/
def CutR (l : List UInt8) (c : UInt8) (t : List UInt8) : Prop := ∃ m, m ≤ l.length ∧ t = l.take m ∧ (∀ i, m ≤ i → i < l.length → l[i]? = some c) ∧ (0 < m → l[m - 1]? ≠ some c)
def CutL (l : List UInt8) (c : UInt8) (t : List UInt8) : Prop := ∃ m, m ≤ l.length ∧ t = l.drop m ∧ (∀ i, i < m → l[i]? = some c) ∧ (m < l.length → l[m]? ≠ some c)
theorem cut_both {l t u : List UInt8} (h1 : CutR l 0 t) (h2 : CutL t 0 u) : u = [] ↔ Wl.blank l = true := by
  obtain ⟨m, hm, rfl, ha, hb⟩ := h1
  obtain ⟨j, hj, rfl, hc, hd⟩ := h2
  rw [List.length_take, Nat.min_eq_left hm] at hj hd
  unfold Wl.blank
  rw [List.all_eq_true, List.drop_eq_nil_iff, List.length_take, Nat.min_eq_left hm]
  constructor
  · intro hmj
    have hm0 : m = 0 := by
      rcases Nat.eq_zero_or_pos m with h | h
      · exact h
      · exfalso
        have := hc (m - 1) (by omega)
        rw [List.getElem?_take_of_lt (by omega)] at this
        exact hb h this
    intro x hx
    obtain ⟨i, hi, rfl⟩ := List.mem_iff_getElem.1 hx
    have := ha i (by omega) hi
    rw [List.getElem?_eq_getElem hi] at this
    injection this with this
    rw [this]; rfl
  · intro hall
    have hz : ∀ i, i < l.length → l[i]? = some 0 := fun i hi => by
      rw [List.getElem?_eq_getElem hi]
      have := hall _ (List.getElem_mem hi)
      rw [beq_iff_eq] at this
      rw [this]
    have hm0 : m = 0 := by
      rcases Nat.eq_zero_or_pos m with h | h
      · exact h
      · exact absurd (hz (m - 1) (by omega)) (hb h)
    omega
theorem get_eq (t : ByteArray) (k : Nat) (h : k < t.size) : t.data.toList[k]? = some t[k] := by
  rw [List.getElem?_eq_getElem (by rw [Array.length_toList]; exact h)]; rfl
theorem byte_eq {a b : UInt8} (h : ((a.toNat : Int) == (b.toNat : Int)) = true) : a = b := by
  rw [beq_iff_eq] at h
  exact UInt8.toNat_inj.1 (by omega)
theorem byte_ne {a b : UInt8} (h : ((a.toNat : Int) == (b.toNat : Int)) = false) : a ≠ b := by
  rintro rfl
  rw [beq_self_eq_true] at h
  cases h
set_option maxHeartbeats 1000000 in
theorem trimRight_any (s : ByteArray) (c : UInt8) (w : World) (hs : s.size ≤ 9223372036854775807) :
    Calls Tryz.prog 125 #[.string s, .int .u8 c.toNat] w fun e w' => (∃ t : ByteArray, e = .returned (.string t) ∧ CutR s.data.toList c t.data.toList) ∧ w' = w := by
  go_enter Tryz.func125, Tryz.ntmps125
  go_wp2
  go_loop [0] (fun v => ∃ t : ByteArray, v = .string t ∧ Hid (t.data.toList = s.data.toList.take t.size) ∧ t.size ≤ s.size ∧ Hid (∀ i, t.size ≤ i → i < s.size → s.data.toList[i]? = some c)) strLen
  case atStart => exact ⟨s, rfl, Lib.hid (by rw [List.take_of_length_le (by rw [Array.length_toList]; exact Nat.le_refl _)]), Nat.le_refl _, Lib.hid fun i h1 h2 => by omega⟩
  case round =>
    obtain ⟨t, rfl, ht, hts, hc⟩ := hrel
    by_cases h0 : 0 < t.size
    · have h0I : (0 : Int) < t.size := by omega
      have hk : t.size - 1 < t.size := by omega
      have hkI : (t.size : Int) - 1 = ((t.size - 1 : Nat) : Int) := by omega
      have hti : (t.size : Int) ≤ 9223372036854775807 := by omega
      have HG := Lib.hid (get_eq t (t.size - 1) hk)
      go_wp2
      · have he := byte_eq ‹_›
        have hsz : (t.extract 0 (t.size - 1)).size = t.size - 1 := by rw [ext_take, bs_size, List.length_take, Array.length_toList]; show min _ t.size = _; omega
        refine ⟨⟨_, rfl, Lib.hid ?_, by omega, Lib.hid fun i h1 h2 => ?_⟩, by change (t.extract 0 (t.size - 1)).size < t.size; omega⟩
        · rw [hsz, ext_take, bs_list, ht.out, List.take_take, Nat.min_eq_left (by omega)]
        · rcases Nat.lt_or_ge i t.size with hi | hi
          · have hie : i = t.size - 1 := by omega
            have h5 := HG.out
            rw [ht.out, List.getElem?_take_of_lt hk] at h5
            rw [hie, h5, he]
          · exact hc.out i hi h2
      · have hne := byte_ne ‹_›
        go_ret
        refine ⟨⟨t, rfl, t.size, by rw [Array.length_toList]; exact hts, ht.out, fun i h1 h2 => hc.out i h1 (by rw [Array.length_toList] at h2; exact h2), fun _ h5 => hne ?_⟩, rfl⟩
        have h6 := HG.out
        rw [ht.out, List.getElem?_take_of_lt hk, h5] at h6
        injection h6 with h6
        exact h6.symm
    · have h0I : ¬ (0 : Int) < t.size := by omega
      go_wp2
      go_ret
      exact ⟨⟨t, rfl, t.size, by rw [Array.length_toList]; exact hts, ht.out, fun i h1 h2 => hc.out i h1 (by rw [Array.length_toList] at h2; exact h2), fun h => absurd h h0⟩, rfl⟩
set_option maxHeartbeats 1000000 in
theorem trimLeft_any (s : ByteArray) (c : UInt8) (w : World) (hs : s.size ≤ 9223372036854775807) :
    Calls Tryz.prog 124 #[.string s, .int .u8 c.toNat] w fun e w' => (∃ t : ByteArray, e = .returned (.string t) ∧ CutL s.data.toList c t.data.toList) ∧ w' = w := by
  go_enter Tryz.func124, Tryz.ntmps124
  go_wp2
  go_loop [0] (fun v => ∃ t : ByteArray, v = .string t ∧ Hid (t.data.toList = s.data.toList.drop (s.size - t.size)) ∧ t.size ≤ s.size ∧ Hid (∀ i, i < s.size - t.size → s.data.toList[i]? = some c)) strLen
  case atStart => exact ⟨s, rfl, Lib.hid (by rw [Nat.sub_self, List.drop_zero]), Nat.le_refl _, Lib.hid fun i h1 => by omega⟩
  case round =>
    obtain ⟨t, rfl, ht, hts, hc⟩ := hrel
    by_cases h0 : 0 < t.size
    · have h0I : (0 : Int) < t.size := by omega
      have h1I : (1 : Int) ≤ t.size := by omega
      have HG := Lib.hid (get_eq t 0 h0)
      go_wp2
      · have he := byte_eq ‹_›
        have hdl : (t.extract 1 t.size).data.toList = t.data.toList.drop 1 := ext_drop t 1
        have hsz : (t.extract 1 t.size).size = t.size - 1 := by rw [ByteArray.size_extract]; omega
        refine ⟨⟨_, rfl, Lib.hid ?_, by omega, Lib.hid fun i h1 => ?_⟩, by change (t.extract 1 t.size).size < t.size; omega⟩
        · rw [hdl, hsz, ht.out, List.drop_drop]
          congr 1
          omega
        · rcases Nat.lt_or_ge i (s.size - t.size) with hi | hi
          · exact hc.out i hi
          · have hie : i = s.size - t.size := by omega
            have h5 := HG.out
            rw [ht.out, List.getElem?_drop, Nat.add_zero] at h5
            rw [hie, h5, he]
      · have hne := byte_ne ‹_›
        go_ret
        refine ⟨⟨t, rfl, s.size - t.size, by rw [Array.length_toList]; exact Nat.sub_le _ _, ht.out, fun i h1 => hc.out i h1, fun _ h5 => hne ?_⟩, rfl⟩
        have h6 := HG.out
        rw [ht.out, List.getElem?_drop, Nat.add_zero, h5] at h6
        injection h6 with h6
        exact h6.symm
    · have h0I : ¬ (0 : Int) < t.size := by omega
      go_wp2
      go_ret
      refine ⟨⟨t, rfl, s.size - t.size, by rw [Array.length_toList]; exact Nat.sub_le _ _, ht.out, fun i h1 => hc.out i h1, fun h => ?_⟩, rfl⟩
      rw [Array.length_toList] at h
      have : s.size = s.data.size := rfl
      omega
end Go.Proofs.YtahnhhhhfioibaaGreatDoor

namespace Go.Proofs.YtahnhhhhfioibaaGreatDoor
open Go.RowKit Lib

theorem CutR.le {l t : List UInt8} {c : UInt8} (h : CutR l c t) : t.length ≤ l.length := by
  obtain ⟨m, _, rfl, _⟩ := h
  rw [List.length_take]; exact Nat.min_le_right _ _
set_option maxRecDepth 100000 in
set_option maxHeartbeats 1000000 in
theorem trim_any (s : ByteArray) (w : World) (hs : s.size ≤ 9223372036854775807) :
    Calls Tryz.prog 103 #[.string s, .string ⟨#[0]⟩] w fun e w' => (∃ t : ByteArray, e = .returned (.string t) ∧ (t.data.toList = [] ↔ Wl.blank s.data.toList = true)) ∧ ∃ n, w' = w.drewN n := by
  by_cases h0 : s.size = 0
  · have hd : s.data.toList = [] := List.eq_nil_of_length_eq_zero (by rw [Array.length_toList]; exact h0)
    have hs1 : s.toList.isEmpty = true := by rw [ByteArray.toList_eq, hd]; rfl
    have hs2 : s.toList = [] := by rw [ByteArray.toList_eq, hd]
    have HD := Lib.hid hd
    clear hd h0
    go_enter Tryz.func103, Tryz.ntmps103
    go_wp2
    go_ret
    refine ⟨⟨s, rfl, ?_⟩, 0, rfl⟩
    rw [HD.out]; exact ⟨fun _ => rfl, fun _ => rfl⟩
  · have hs1 : s.toList.isEmpty = false := by
      rw [ByteArray.toList_eq, List.isEmpty_eq_false_iff]
      intro h
      apply h0
      have := congrArg List.length h
      rw [Array.length_toList] at this
      exact this
    have hs2 : (!s.toList.isEmpty) = true := by rw [hs1]; rfl
    go_enter Tryz.func103, Tryz.ntmps103
    go_wp2
    go_region_held3 (fun _ => True) (exact trivial)
      (first
        | (go_at_call 125; refine (trimRight_any s 0 _ hs).mono ?_; rintro e w1 ⟨⟨t, rfl, ht⟩, rfl⟩)
        | (go_at_call 124; refine (trimLeft_any t 0 _ ?_).mono ?_; (have := ht.le; rw [Array.length_toList, Array.length_toList] at this; exact Nat.le_trans this hs); rintro e w2 ⟨⟨u, rfl, hu⟩, rfl⟩))
    all_goals (go_wp2; go_ret; exact ⟨⟨u, rfl, cut_both ht hu⟩, 1, rfl⟩)
theorem wblank_any (s : ByteArray) (w : World) (hs : s.size ≤ 9223372036854775807) :
    Calls Tryz.prog 69 #[.string s] w fun e w' => e = .returned (.bool (Wl.blank s.data.toList)) ∧ ∃ n, w' = w.drewN n := by
  go_enter Tryz.func69, Tryz.ntmps69
  go_wp2_with fail
  refine (trim_any s w hs).mono ?_
  rintro e w1 ⟨⟨t, rfl, ht⟩, n, rfl⟩
  have HB := Lib.hid (show t.toList.isEmpty = Wl.blank s.data.toList by
    rw [ByteArray.toList_eq, Bool.eq_iff_iff, List.isEmpty_iff]; exact ht)
  clear ht
  go_wp2
  go_ret
  refine ⟨ret_bool' ?_, n, rfl⟩
  rw [← HB.out]
theorem holds_any (s t : ByteArray) (w : World) (hs : s.size ≤ 9223372036854775807) :
    Calls Tryz.prog 107 #[.string s, .string t] w fun e w' => e = .returned (.bool (Wl.holds s.data.toList t.data.toList)) ∧ ∃ n, w' = w.drewN n := by
  have HH := Lib.hid (show Wl.holds s.data.toList t.data.toList = (Wl.starts s.data.toList t.data.toList && Wl.blank (s.data.toList.drop t.size)) from rfl)
  cases hp : Wl.starts s.data.toList t.data.toList
  · have HP := Lib.hid hp
    clear hp
    go_enter Tryz.func107, Tryz.ntmps107
    go_wp2_with fail
    refine (hasPrefix_any s t w).mono ?_
    rintro e w1 ⟨rfl, rfl⟩
    rw [HP.out]
    go_wp2
    go_ret
    refine ⟨ret_bool' ?_, 0, rfl⟩
    rw [HH.out, HP.out]; rfl
  · have hle : t.size ≤ s.size := by
      have := (List.isPrefixOf_iff_prefix.1 (show t.data.toList.isPrefixOf s.data.toList = true from hp)).length_le
      rwa [Array.length_toList, Array.length_toList] at this
    have hleI : (t.size : Int) ≤ s.size := by omega
    have HP := Lib.hid hp
    have hsz : (s.extract t.size s.size).size ≤ 9223372036854775807 := by rw [ByteArray.size_extract]; omega
    clear hp
    go_enter Tryz.func107, Tryz.ntmps107
    go_wp2_with fail
    refine (hasPrefix_any s t w).mono ?_
    rintro e w1 ⟨rfl, rfl⟩
    rw [HP.out]
    go_wp2_with fail
    refine (wblank_any _ w1 hsz).mono ?_
    rintro e w2 ⟨rfl, n, rfl⟩
    rw [ext_drop]
    go_wp2
    go_ret
    refine ⟨ret_bool' ?_, n, rfl⟩
    rw [HH.out, HP.out, Bool.true_and]
end Go.Proofs.YtahnhhhhfioibaaGreatDoor

namespace Go.Proofs.YtahnhhhhfioibaaGreatDoor
open Go.RowKit Lib

theorem But.belowNew {w w' w'' : World} {v : Value} (h : Below w.heap.size w w') (hb : But (fun k => v.ownBlock = some k) w' w'') (hv : ∀ k, v.ownBlock = some k → w.heap.size ≤ k) : Below w.heap.size w w'' :=
  h.trans (hb.below h.size (fun k hk e => by have := hv k e; omega))
set_option maxRecDepth 100000 in
set_option maxHeartbeats 1000000 in
theorem headText_any (num n : Nat) (w : World) (hn : num < 2 ^ 64) (hn2 : n ≤ 1000000) :
    Calls Tryz.prog 116 #[.int .u64 num, .int .i64 n] w fun e w' => e = .returned (.string (bs (Wl.head num n))) ∧ Below w.heap.size w w' := by
  have HN := Lib.hid hn
  clear hn
  have hnI : (n : Int) ≤ 1000000 := by omega
  have hn0 : (0 : Int) ≤ n := by omega
  have kc := fun (w : World) (C : Array Value) (n c : Nat) => Lib.run_convert_bytes_const (P := Tryz.prog) w 110 5 C n c Tryz.underlying110 Tryz.underlying5
  go_enter Tryz.func116, Tryz.ntmps116
  go_wp2_with fail
  obtain ⟨V, hV⟩ : ∃ V, V = w.alloc (.cells #[.int .u8 104] 5 (1, 2)) := ⟨_, rfl⟩
  rw [← hV]
  have hb0 : Below w.heap.size w V := by rw [hV]; exact (Below.refl _ _).alloc (Nat.le_refl _) _
  have ho0 : OwnZ false 0 V (.slice (some ⟨w.heap.size, 0, none⟩) 1 1) [104] := by rw [hV]; exact OwnZ.const w [104] (by decide)
  refine (appendNumber_any false 0 V _ [104] num 8 ho0 (Nat.zero_le _) (by decide) HN.out (by decide)).mono ?_
  rintro e w1 ⟨v1, rfl, ho1, hbt1, hat1⟩
  have hv1 : ∀ k, v1.ownBlock = some k → w.heap.size ≤ k := fun k hk => by
    rcases hat1 with h | h
    · rw [h] at hk
      simp [Value.ownBlock] at hk
      omega
    · exact Nat.le_trans hb0.size (h k hk)
  have hb1 : Below w.heap.size w w1 := But.belowNew hb0 hbt1 (fun k hk => by simp [Value.ownBlock] at hk; omega)
  have H1 := Lib.hid (And.intro ho1 (And.intro hv1 hb1))
  clear hb0 ho0 hbt1 hat1 hv1 hb1 ho1 hV
  go_wp2_with fail
  refine (appendNumber_any false 0 w1 _ _ n 4 H1.out.1 (Nat.zero_le _) (by rw [List.length_append, Wl.enc_length]; decide) (by omega) (by decide)).mono ?_
  rintro e w2 ⟨v2, rfl, ho2, hbt2, hat2⟩
  have hb2 : Below w.heap.size w w2 := But.belowNew H1.out.2.2 hbt2 H1.out.2.1
  have hk := ho2.back
  have hh : [104] ++ Wl.enc 8 num ++ Wl.enc 4 n = Wl.head num n := by simp [Wl.head]
  rw [hh] at hk
  have HB := Lib.hid hb2
  clear ho2 hbt2 hat2 hb2 hh
  go_wp2
  go_ret
  exact ⟨rfl, HB.out⟩
theorem first_take (size ring at_ num : Nat) : Wl.title ++ (([size, ring, at_, num] : List Nat).take 4).flatMap (Wl.enc 8) = Wl.first size ring at_ num := by
  simp [Wl.first]
theorem take_flat (l : List Nat) (k : Nat) (h : k < l.length) : (l.take (k + 1)).flatMap (Wl.enc 8) = (l.take k).flatMap (Wl.enc 8) ++ Wl.enc 8 l[k] := by
  rw [List.take_succ_eq_append_getElem h, List.flatMap_append]; simp
theorem flat_len (l : List Nat) : (l.flatMap (Wl.enc 8)).length = 8 * l.length := by
  induction l with
  | nil => rfl
  | cons a l ih => rw [List.flatMap_cons, List.length_append, ih, Wl.enc_length, List.length_cons]; omega
set_option maxRecDepth 100000 in
set_option maxHeartbeats 1000000 in
theorem firstText_any (size ring at_ num : Nat) (w : World) (h1 : size ≤ 1000000) (h2 : ring ≤ 1000000) (h3 : at_ ≤ 1000000) (h4 : num < 2 ^ 64) :
    Calls Tryz.prog 72 #[.int .i64 size, .int .i64 ring, .agg #[.int .i64 at_, .int .u64 num]] w fun e w' => e = .returned (.string (bs (Wl.first size ring at_ num))) ∧ Below w.heap.size w w' := by
  have HN := Lib.hid (And.intro h1 (And.intro h2 (And.intro h3 h4)))
  have i1 : (size : Int) ≤ 1000000 := by omega
  have i2 : (ring : Int) ≤ 1000000 := by omega
  have i3 : (at_ : Int) ≤ 1000000 := by omega
  clear h1 h2 h3 h4
  have kc : (convert 110 110 (.slice (some ⟨w.heap.size + 1, 0, none⟩) 14 14)).run Tryz.prog ((w.alloc (.cells #[.int .i64 at_, .int .u64 num] 91)).alloc (.cells #[.int .u8 99, .int .u8 111, .int .u8 111, .int .u8 112, .int .u8 101, .int .u8 114, .int .u8 97, .int .u8 103, .int .u8 101, .int .u8 32, .int .u8 108, .int .u8 111, .int .u8 103, .int .u8 10] 5)) = .ok (.slice (some ⟨w.heap.size + 1, 0, none⟩) 14 14) ((w.alloc (.cells #[.int .i64 at_, .int .u64 num] 91)).alloc (.cells #[.int .u8 99, .int .u8 111, .int .u8 111, .int .u8 112, .int .u8 101, .int .u8 114, .int .u8 97, .int .u8 103, .int .u8 101, .int .u8 32, .int .u8 108, .int .u8 111, .int .u8 103, .int .u8 10] 5 (14, 15))) := by
    have := Lib.run_convert_bytes_const (P := Tryz.prog) (w.alloc (.cells #[.int .i64 at_, .int .u64 num] 91)) 110 5 #[.int .u8 99, .int .u8 111, .int .u8 111, .int .u8 112, .int .u8 101, .int .u8 114, .int .u8 97, .int .u8 103, .int .u8 101, .int .u8 32, .int .u8 108, .int .u8 111, .int .u8 103, .int .u8 10] 14 14 Tryz.underlying110 Tryz.underlying5
    rw [World.size_alloc] at this
    exact this
  go_enter Tryz.func72, Tryz.ntmps72
  go_wp2
  obtain ⟨V, hV⟩ : ∃ V, V = (((w.alloc (.cells #[.int .i64 at_, .int .u64 num] 91)).alloc (.cells #[.int .u8 99, .int .u8 111, .int .u8 111, .int .u8 112, .int .u8 101, .int .u8 114, .int .u8 97, .int .u8 103, .int .u8 101, .int .u8 32, .int .u8 108, .int .u8 111, .int .u8 103, .int .u8 10] 5 (14, 15))).alloc (.cells #[.int .u64 size, .int .u64 ring, .int .u64 at_, .int .u64 num] 89)) := ⟨_, rfl⟩
  rw [← hV]
  have HW := Lib.hid (show Below w.heap.size w V by rw [hV]; exact (((Below.refl _ _).alloc (Nat.le_refl _) _).alloc (by simp) _).alloc (by simp; omega) _)
  have HO := Lib.hid (show OwnZ false 0 V (.slice (some ⟨w.heap.size + 1, 0, none⟩) 14 14) Wl.title by
    have := (OwnZ.const (w.alloc (.cells #[.int .i64 at_, .int .u64 num] 91)) Wl.title (by decide)).alloc (.cells #[.int .u64 size, .int .u64 ring, .int .u64 at_, .int .u64 num] 89)
    rw [World.size_alloc] at this
    rw [hV]; exact this)
  have HB := Lib.hid (show Blk V (w.heap.size + 1 + 1) 89 ([size, ring, at_, num].map fun (n : Nat) => Value.int .u64 (n : Int)) by
    have := Blk.new ((w.alloc (.cells #[.int .i64 at_, .int .u64 num] 91)).alloc (.cells #[.int .u8 99, .int .u8 111, .int .u8 111, .int .u8 112, .int .u8 101, .int .u8 114, .int .u8 97, .int .u8 103, .int .u8 101, .int .u8 32, .int .u8 108, .int .u8 111, .int .u8 103, .int .u8 10] 5 (14, 15))) #[.int .u64 size, .int .u64 ring, .int .u64 at_, .int .u64 num] 89
    rw [World.size_alloc, World.size_alloc] at this
    rw [hV]; exact this)
  have HL := Lib.hid (show ∀ n ∈ [size, ring, at_, num], n < 2 ^ 64 by
    intro n hn
    obtain ⟨h1, h2, h3, h4⟩ := HN.out
    simp only [List.mem_cons, List.not_mem_nil, or_false] at hn
    rcases hn with rfl | rfl | rfl | rfl <;> omega)
  have HS := Lib.hid (show V.heap.size = w.heap.size + 3 by rw [hV]; simp)
  clear hV kc
  go_loopw [7, 23] (fun u i wr => ∃ k : Nat, k ≤ 4 ∧ i = .int .i64 k ∧ Hid (OwnZ false 0 wr u (Wl.title ++ ([size, ring, at_, num].take k).flatMap (Wl.enc 8))) ∧ Hid (∀ x, u.ownBlock = some x → w.heap.size ≤ x) ∧ Hid (Below w.heap.size w wr) ∧ Hid (Blk wr (w.heap.size + 1 + 1) 89 ([size, ring, at_, num].map fun (n : Nat) => Value.int .u64 (n : Int))) ∧ Hid (w.heap.size + 3 ≤ wr.heap.size)) (fun _ i _ => 4 - (intOf i).toNat)
  case atStart => exact ⟨0, by decide, rfl, Lib.hid (by rw [List.take_zero, List.flatMap_nil, List.append_nil]; exact HO.out), Lib.hid (fun x hx => by simp [Value.ownBlock] at hx; omega), HW, HB, Lib.hid (by have := HS.out; omega)⟩
  case round =>
    obtain ⟨k, hk, rfl, ho, hx, hw, hb, hsz⟩ := hrel
    by_cases hlt : k < 4
    · have hI : (k : Int) < 4 := by omega
      have hcell : wr.cell? ⟨w.heap.size + 1 + 1, k, none⟩ = some (.int .u64 (([size, ring, at_, num] : List Nat)[k] : Int)) := hb.out.cell (by rw [List.getElem?_map, List.getElem?_eq_getElem hlt]; rfl)
      have HLk := Lib.hid (HL.out _ (List.getElem_mem hlt))
      have HT := Lib.hid (take_flat [size, ring, at_, num] k hlt)
      have HFL := Lib.hid (flat_len (([size, ring, at_, num] : List Nat).take k))
      generalize ([size, ring, at_, num] : List Nat)[k] = n at *
      go_wp2_with fail
      refine (appendNumber_any false 0 wr _ _ n 8 ho.out (Nat.zero_le _) (by rw [List.length_append, HFL.out, List.length_take]; have : Wl.title.length = 14 := rfl; omega) HLk.out (by decide)).mono ?_
      rintro e w1 ⟨v1, rfl, ho1, hbt1, hat1⟩
      have HR := Lib.hid (show OwnZ false 0 w1 v1 (Wl.title ++ ([size, ring, at_, num].take (k + 1)).flatMap (Wl.enc 8)) ∧ (∀ x, v1.ownBlock = some x → w.heap.size ≤ x) ∧ Below w.heap.size w w1 ∧ Blk w1 (w.heap.size + 1 + 1) 89 ([size, ring, at_, num].map fun (n : Nat) => Value.int .u64 (n : Int)) ∧ w.heap.size + 3 ≤ w1.heap.size from ⟨by rw [HT.out, ← List.append_assoc]; exact ho1, fun x hx' => by
          rcases hat1 with h | h
          · rw [h] at hx'; exact hx.out x hx'
          · have := h x hx'; have := hsz.out; omega, But.belowNew hw.out hbt1 hx.out, hb.out.but hbt1 (fun e => by
            obtain ⟨cur, fz, h5⟩ := ho.out.typed e
            have := hb.out
            unfold Blk at this
            rw [this] at h5
            injection h5 with h5
            injection h5 with _ h5
            cases h5), Nat.le_trans hsz.out hbt1.size⟩)
      clear ho1 hbt1 hat1 hcell
      go_wp2
      go_roundw
      case rel => exact ⟨k + 1, by omega, by go_num, Lib.hid HR.out.1, Lib.hid HR.out.2.1, Lib.hid HR.out.2.2.1, Lib.hid HR.out.2.2.2.1, Lib.hid HR.out.2.2.2.2⟩
      case measure => simp [intOf]; omega
    · have hke : k = 4 := by omega
      subst hke
      have hbk := ho.out.back
      rw [first_take] at hbk
      go_wp2
      go_ret
      exact ⟨rfl, hw.out⟩
end Go.Proofs.YtahnhhhhfioibaaGreatDoor
