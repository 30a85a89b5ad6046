/- A log on a disk: numbers in bytes, heads, puts, groups: mathematics (no function of the program is named here). -/
import Derived.Test.YtlpillpfahkjdaaDiskMath
namespace Go.Proofs.Ytlpillpfahkjdaa
namespace Wl

abbrev Text := List UInt8

/-! ### Numbers in bytes, the greatest first. -/
def enc : Nat → Nat → Text
  | 0, _ => []
  | w + 1, n => enc w (n / 256) ++ [UInt8.ofNat n]
def dec (l : Text) : Nat := l.foldl (fun a b => a * 256 + b.toNat) 0
theorem enc_length : ∀ w n, (enc w n).length = w
  | 0, _ => rfl
  | w + 1, n => by rw [enc, List.length_append, enc_length w]; rfl
theorem dec_append (l : Text) (b : UInt8) : dec (l ++ [b]) = dec l * 256 + b.toNat := by unfold dec; rw [List.foldl_append]; rfl
theorem dec_enc : ∀ w n, n < 256 ^ w → dec (enc w n) = n
  | 0, n, h => by simp at h; subst h; rfl
  | w + 1, n, h => by
    rw [enc, dec_append, dec_enc w (n / 256) (Nat.div_lt_of_lt_mul (by rw [Nat.mul_comm, ← Nat.pow_succ]; exact h)), UInt8.toNat_ofNat']
    omega
theorem dec_snoc_lt (l : Text) : dec l < 256 ^ l.length := by
  induction h : l.length generalizing l with
  | zero => rw [List.length_eq_zero_iff.1 h]; decide
  | succ n ih =>
    rcases List.eq_nil_or_concat l with rfl | ⟨m, b, rfl⟩
    · cases h
    · rw [List.concat_eq_append, List.length_append] at h
      have := ih m (by simpa using h)
      have hb := b.toNat_lt
      rw [List.concat_eq_append, dec_append, Nat.pow_succ]
      have : dec m * 256 + 256 ≤ 256 ^ n * 256 := by
        omega
      omega

/-! ### What stands in sectors. -/
def title : Text := [99, 111, 111, 112, 101, 114, 97, 103, 101, 32, 108, 111, 103, 10]
def first (size ring at_ num : Nat) : Text := title ++ (enc 8 size ++ (enc 8 ring ++ (enc 8 at_ ++ enc 8 num)))
def head (num n : Nat) : Text := 104 :: (enc 8 num ++ enc 4 n)
def sizeOf (n : Nat) : Nat := 1 + (516 * n + 510) / 511
theorem first_length (size ring at_ num : Nat) : (first size ring at_ num).length = 46 := by simp [first, enc_length, title]
theorem head_length (num n : Nat) : (head num n).length = 13 := by simp [head, enc_length]
def blank (s : Text) : Bool := s.all (· == 0)
def holds (s t : Text) : Bool := t.isPrefixOf s && blank (s.drop t.length)
def readHead (s : Text) (ring : Nat) : Nat × Nat × Bool :=
  if dec ((s.drop 1).take 8) = 0 ∨ dec ((s.drop 9).take 4) = 0 ∨ ring < dec ((s.drop 9).take 4) ∨ ring < sizeOf (dec ((s.drop 9).take 4)) then (0, 0, false)
  else (dec ((s.drop 1).take 8), dec ((s.drop 9).take 4), holds s (head (dec ((s.drop 1).take 8)) (dec ((s.drop 9).take 4))))
def isPuts (s : Text) : Bool := ([112] : Text).isPrefixOf s
theorem blank_replicate (n : Nat) : blank (List.replicate n 0) = true := by simp [blank]
theorem isPrefixOf_append (a b : Text) : a.isPrefixOf (a ++ b) = true := by
  grind
theorem holds_full (t : Text) : holds (Dk.full t) t = true := by
  unfold holds Dk.full
  rw [isPrefixOf_append, List.drop_left]
  simp [blank_replicate]
theorem head_read (num n : Nat) (h1 : num < 2 ^ 64) (h2 : n < 2 ^ 32) : dec (((Dk.full (head num n)).drop 1).take 8) = num ∧ dec (((Dk.full (head num n)).drop 9).take 4) = n := by
  have e1 : ((Dk.full (head num n)).drop 1).take 8 = enc 8 num := by
    unfold Dk.full head
    rw [List.cons_append, List.drop_succ_cons, List.drop_zero, List.append_assoc, List.take_left' (enc_length 8 num)]
  have e2 : ((Dk.full (head num n)).drop 9).take 4 = enc 4 n := by
    unfold Dk.full head
    rw [List.cons_append, List.drop_succ_cons, List.append_assoc, List.drop_left' (enc_length 8 num), List.take_left' (enc_length 4 n)]
  rw [e1, e2]
  exact ⟨dec_enc 8 num (by omega), dec_enc 4 n (by omega)⟩
theorem readHead_head (num n ring : Nat) (h1 : 1 ≤ num) (h1' : num < 2 ^ 64) (h2 : 1 ≤ n) (h3 : n ≤ ring) (h4 : sizeOf n ≤ ring) (h5 : ring ≤ 4096) : readHead (Dk.full (head num n)) ring = (num, n, true) := by
  obtain ⟨e1, e2⟩ := head_read num n h1' (by omega)
  unfold readHead
  rw [e1, e2, if_neg (by omega), holds_full]
theorem readHead_other (s : Text) (ring : Nat) (h : ([104] : Text).isPrefixOf s = false) : (readHead s ring).2.2 = false := by
  unfold readHead
  split
  · rfl
  · show holds s _ = false
    unfold holds
    cases s with
    | nil => rfl
    | cons a s =>
      have : (104 : UInt8) ≠ a := by
        grind
      simp [head, List.isPrefixOf, this]
theorem blank_other (s : Text) (hb : blank s = true) : ([104] : Text).isPrefixOf s = false := by
  cases s with
  | nil => rfl
  | cons a s =>
    simp only [blank, List.all_cons, Bool.and_eq_true, beq_iff_eq] at hb
    simp [List.isPrefixOf, hb.1]
theorem puts_other (s : Text) (hb : isPuts s = true) : ([104] : Text).isPrefixOf s = false := by
  cases s with
  | nil => rfl
  | cons a s =>
    simp only [isPuts, List.isPrefixOf, Bool.and_true, beq_iff_eq] at hb
    subst hb
    simp [List.isPrefixOf]

/-! ### Groups: homes' numbers, rising, each with its text. -/
abbrev Grp := List (Nat × Text)
def ins (k : Nat) (t : Text) : Grp → Grp
  | [] => [(k, t)]
  | x :: m => if k < x.1 then (k, t) :: x :: m else if k = x.1 then (k, t) :: m else x :: ins k t m
def look (k : Nat) : Grp → Option Text
  | [] => none
  | x :: m => if x.1 = k then some x.2 else look k m
def Rising (m : Grp) : Prop := m.Pairwise fun x y => x.1 < y.1
theorem look_mem {k : Nat} {t : Text} : ∀ {m : Grp}, look k m = some t → (k, t) ∈ m
  | x :: m, h => by
    unfold look at h
    split at h
    · grind
    · exact List.mem_cons_of_mem _ (look_mem h)
theorem look_of_mem {k : Nat} {t : Text} : ∀ {m : Grp}, Rising m → (k, t) ∈ m → look k m = some t
  | x :: m, hr, h => by
    obtain ⟨h1, h2⟩ := List.pairwise_cons.1 hr
    unfold look
    rcases List.mem_cons.1 h with rfl | h
    · rw [if_pos rfl]
    · have := h1 _ h
      rw [if_neg (by simp only at this; omega), look_of_mem h2 h]
theorem look_none {k : Nat} : ∀ {m : Grp}, look k m = none ↔ ∀ x ∈ m, x.1 ≠ k
  | [] => by simp [look]
  | x :: m => by
    unfold look
    split
    · rename_i e
      simp [e]
    · simp_all [look_none]
theorem look_ins (k : Nat) (t : Text) (j : Nat) : ∀ m : Grp, look j (ins k t m) = if j = k then some t else look j m
  | [] => by simp only [ins, look]; split <;> split <;> simp_all
  | x :: m => by
    unfold ins
    split
    · grind [look]
    · split
      · grind [look]
      · rename_i h1 h2
        simp only [look, look_ins k t j m]
        by_cases hj : j = k
        · grind
        · simp [hj]
theorem ins_mem {k : Nat} {t : Text} {x : Nat × Text} : ∀ {m : Grp}, x ∈ ins k t m → x = (k, t) ∨ x ∈ m
  | [], h => by simp only [ins, List.mem_singleton] at h; exact .inl h
  | y :: m, h => by
    unfold ins at h
    split at h
    · grind
    · split at h
      · grind
      · rcases List.mem_cons.1 h with h | h
        · grind
        · rcases ins_mem h with h | h
          · exact .inl h
          · grind
theorem ins_rising (k : Nat) (t : Text) : ∀ {m : Grp}, Rising m → Rising (ins k t m)
  | [], _ => by simp [ins, Rising]
  | y :: m, h => by
    obtain ⟨h1, h2⟩ := List.pairwise_cons.1 h
    unfold ins
    split
    · rename_i hk
      refine List.pairwise_cons.2 ⟨fun z hz => ?_, h⟩
      rcases List.mem_cons.1 hz with rfl | hz
      · exact hk
      · grind
    · split
      · rename_i _ hk
        exact List.pairwise_cons.2 ⟨fun z hz => by have := h1 z hz; simp only; omega, h2⟩
      · refine List.pairwise_cons.2 ⟨fun z hz => ?_, ins_rising k t h2⟩
        rcases ins_mem hz with rfl | hz
        · simp only; omega
        · exact h1 z hz
theorem ext : ∀ {m n : Grp}, Rising m → Rising n → (∀ k, look k m = look k n) → m = n
  | [], [], _, _, _ => rfl
  | [], y :: n, _, _, h => by have := h y.1; simp [look] at this
  | x :: m, [], _, _, h => by have := h x.1; simp [look] at this
  | x :: m, y :: n, hm, hn, h => by
    obtain ⟨m1, m2⟩ := List.pairwise_cons.1 hm
    obtain ⟨n1, n2⟩ := List.pairwise_cons.1 hn
    have low : ∀ (z : Nat × Text) (l : Grp), (∀ a ∈ l, z.1 < a.1) → ∀ j, j ≤ z.1 → look j l = none := fun z l hl j hj => look_none.2 fun a ha e => by have := hl a ha; omega
    have hxy : x.1 = y.1 := by
      rcases Nat.lt_trichotomy x.1 y.1 with hlt | he | hlt
      · have := h x.1
        simp only [look] at this
        rw [if_true, if_neg (by omega), low y n n1 _ (by omega)] at this
        cases this
      · exact he
      · have := h y.1
        simp only [look] at this
        rw [if_true, if_neg (by omega), low x m m1 _ (by omega)] at this
        cases this
    have hx2 : x.2 = y.2 := by
      have := h x.1
      simp only [look] at this
      rw [if_true, if_pos hxy.symm] at this
      injection this
    have he : x = y := Prod.ext hxy hx2
    subst he
    refine congrArg _ (ext m2 n2 fun k => ?_)
    by_cases hk : k ≤ x.1
    · grind
    · have := h k
      simp only [look] at this
      rwa [if_neg (by omega), if_neg (by omega)] at this
/-- All that g says, over m. -/
def merge (m g : Grp) : Grp := g.foldl (fun m x => ins x.1 x.2 m) m
theorem merge_rising : ∀ (g : Grp) {m : Grp}, Rising m → Rising (merge m g)
  | [], _, h => h
  | x :: g, _, h => merge_rising g (ins_rising x.1 x.2 h)
theorem look_merge : ∀ (g : Grp) (m : Grp) (k : Nat), Rising g → look k (merge m g) = (look k g).or (look k m)
  | [], m, k, _ => rfl
  | x :: g, m, k, hr => by
    obtain ⟨h1, h2⟩ := List.pairwise_cons.1 hr
    show look k (merge (ins x.1 x.2 m) g) = _
    rw [look_merge g _ k h2, look_ins]
    simp only [look]
    by_cases hk : x.1 = k
    · subst hk
      have : look x.1 g = none := look_none.2 fun a ha e => by have := h1 a ha; omega
      simp [this]
    · grind
/-- What a group puts, put to a list. -/
theorem puts_look {L : List Text} : ∀ {g : Grp} (_ : Rising g) (j : Nat), (Dk.puts L g)[j]? = if j < L.length then (look j g).or L[j]? else none := by
  intro g hr
  induction g generalizing L with
  | nil =>
    intro j
    rw [Dk.puts_nil]
    split
    · rfl
    · grind
  | cons x g ih =>
    intro j
    obtain ⟨h1, h2⟩ := List.pairwise_cons.1 hr
    rw [Dk.puts_cons, ih h2, List.length_set]
    by_cases hj : j < L.length
    · rw [if_pos hj, if_pos hj]
      simp only [look]
      by_cases hk : x.1 = j
      · subst hk
        have : look x.1 g = none := look_none.2 fun a ha e => by have := h1 a ha; omega
        simp [this, hj]
      · grind
    · grind
theorem puts_merge (L : List Text) {m g : Grp} (hm : Rising m) (hg : Rising g) : Dk.puts L (merge m g) = Dk.puts (Dk.puts L m) g := by
  refine List.ext_getElem? fun j => ?_
  rw [puts_look (merge_rising g hm), puts_look hg, Dk.puts_length, puts_look hm, look_merge g m j hg]
  split
  · grind
  · rfl

/-! ### A group's puts, in sectors. -/
def pack (g : Grp) : Text := g.flatMap fun x => enc 4 x.1 ++ x.2
def pieces (l : Text) : List Text := (List.range ((l.length + 510) / 511)).map fun k => (l.drop (511 * k)).take 511
def putsTexts (g : Grp) : List Text := (pieces (pack g)).map fun p => 112 :: p
def Fits (homes : Nat) (g : Grp) : Prop := Rising g ∧ ∀ x ∈ g, x.1 < homes ∧ x.2.length = 512
theorem pack_nil : pack [] = [] := rfl
theorem pack_cons (x : Nat × Text) (g : Grp) : pack (x :: g) = enc 4 x.1 ++ (x.2 ++ pack g) := by simp [pack]
theorem pack_append (a b : Grp) : pack (a ++ b) = pack a ++ pack b := by simp [pack]
theorem pack_length {homes : Nat} : ∀ {g : Grp}, (∀ x ∈ g, x.1 < homes ∧ x.2.length = 512) → (pack g).length = 516 * g.length
  | [], _ => rfl
  | x :: g, h => by
    rw [pack_cons, List.length_append, List.length_append, enc_length, (h x List.mem_cons_self).2, pack_length fun y hy => h y (List.mem_cons_of_mem _ hy), List.length_cons]
    omega
theorem pieces_length (l : Text) : (pieces l).length = (l.length + 510) / 511 := by simp [pieces]
theorem piece_length (l : Text) (k : Nat) : ((l.drop (511 * k)).take 511).length = min 511 (l.length - 511 * k) := by simp
theorem putsTexts_length {homes : Nat} {g : Grp} (h : ∀ x ∈ g, x.1 < homes ∧ x.2.length = 512) : 1 + (putsTexts g).length = sizeOf g.length := by
  rw [putsTexts, List.length_map, pieces_length, pack_length h]; rfl
theorem putsTexts_le (g : Grp) : ∀ s ∈ putsTexts g, s.length ≤ 512 := by
  grind [putsTexts, pieces]
theorem putsTexts_isPuts (g : Grp) : ∀ s ∈ putsTexts g, isPuts (Dk.full s) = true := by
  intro s hs
  simp only [putsTexts, List.mem_map] at hs
  obtain ⟨p, _, rfl⟩ := hs
  simp [Dk.full, isPuts, List.isPrefixOf]
/-- Behind what each sector is: the bytes of all of them, and noughts. -/
theorem sectors_join (l : Text) : (((pieces l).map fun p => (Dk.full (112 :: p)).drop 1)).flatten = l ++ List.replicate (511 * ((l.length + 510) / 511) - l.length) 0 := by
  have key : ∀ m, m ≤ (l.length + 510) / 511 → ((((List.range m).map fun k => (l.drop (511 * k)).take 511).map fun p => (Dk.full (112 :: p)).drop 1)).flatten = l.take (511 * m) ++ List.replicate (511 * m - l.length) 0 := by
    intro m
    induction m with
    | zero => intro _; simp
    | succ m ih =>
      intro hm
      rw [List.range_succ, List.map_append, List.map_append, List.flatten_append, ih (by omega)]
      have e0 : 511 * m - l.length = 0 := by omega
      rw [e0, List.replicate_zero, List.append_nil]
      simp only [List.map_cons, List.map_nil, List.flatten_cons, List.flatten_nil, List.append_nil, Dk.full, List.cons_append, List.drop_succ_cons, List.drop_zero]
      rw [show 511 * (m + 1) = 511 * m + 511 by omega, List.take_add, List.append_assoc]
      congr 2
      simp only [List.length_cons, List.length_take, List.length_drop]
      congr 1
      omega
  have := key _ (Nat.le_refl _)
  rw [show l.take (511 * ((l.length + 510) / 511)) = l from List.take_of_length_le (by omega)] at this
  exact this

/-! ### What lists of puts come to. -/
def gather (homes : Nat) : Grp → List (Int × Text) → Int × Grp
  | g, [] => (0, g)
  | g, p :: ps => if p.1 < 0 ∨ (homes : Int) ≤ p.1 then (2, []) else if 512 < p.2.length then (5, []) else gather homes (ins p.1.toNat (Dk.full p.2) g) ps
theorem gather_cons (homes : Nat) (g : Grp) (p : Int × Text) (ps : List (Int × Text)) : gather homes g (p :: ps) = if p.1 < 0 ∨ (homes : Int) ≤ p.1 then (2, []) else if 512 < p.2.length then (5, []) else gather homes (ins p.1.toNat (Dk.full p.2) g) ps := rfl
theorem gather_append (homes : Nat) : ∀ (a b : List (Int × Text)) (g : Grp), gather homes g (a ++ b) = if (gather homes g a).1 = 0 then gather homes (gather homes g a).2 b else gather homes g a
  | [], b, g => by simp [gather]
  | p :: ps, b, g => by
    rw [List.cons_append, gather_cons, gather_cons]
    split
    · rfl
    · split
      · rfl
      · exact gather_append homes ps b _
theorem fits_ins {homes k : Nat} {t : Text} {g : Grp} (h : Fits homes g) (hk : k < homes) (ht : t.length = 512) : Fits homes (ins k t g) :=
  ⟨ins_rising k t h.1, fun x hx => by
    rcases ins_mem hx with rfl | hx
    · exact ⟨hk, ht⟩
    · exact h.2 x hx⟩
theorem gather_fits (homes : Nat) : ∀ (ps : List (Int × Text)) (g : Grp), Fits homes g → Fits homes (gather homes g ps).2
  | [], g, h => h
  | p :: ps, g, h => by
    unfold gather
    split
    · exact ⟨List.Pairwise.nil, fun x hx => by cases hx⟩
    · split
      · exact ⟨List.Pairwise.nil, fun x hx => by cases hx⟩
      · exact gather_fits homes ps _ (fits_ins h (by omega) (Dk.full_length _ (by omega)))
theorem gather_code (homes : Nat) : ∀ (ps : List (Int × Text)) (g : Grp), (gather homes g ps).1 = 0 ∨ (gather homes g ps).1 = 2 ∨ (gather homes g ps).1 = 5
  | [], g => .inl rfl
  | p :: ps, g => by
    unfold gather
    split
    · exact .inr (.inl rfl)
    · split
      · exact .inr (.inr rfl)
      · exact gather_code homes ps _
theorem fits_nil (homes : Nat) : Fits homes [] := ⟨List.Pairwise.nil, fun x hx => by cases hx⟩
theorem fits_merge {homes : Nat} : ∀ {g _m : Grp}, Fits homes _m → (∀ x ∈ g, x.1 < homes ∧ x.2.length = 512) → Fits homes (merge _m g)
  | [], _, h, _ => h
  | x :: g, _, h, hg => fits_merge (g := g) (fits_ins h (hg x List.mem_cons_self).1 (hg x List.mem_cons_self).2) fun y hy => hg y (List.mem_cons_of_mem _ hy)
end Wl
end Go.Proofs.Ytlpillpfahkjdaa
