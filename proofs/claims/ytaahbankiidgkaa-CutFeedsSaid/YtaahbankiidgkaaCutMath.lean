/- Texts cut into chunks: what a cutter holds, byte by byte. -/
import Derived.Test.YtaahbankiidgkaaTurnMath
namespace Go.Proofs.Ytaahbankiidgkaa
namespace Ct

/-- The last window of what is held. -/
def last8 (h : List UInt8) : List UInt8 := h.drop (h.length - 8)
/-- The cell of a text's sum. -/
def cell (l : List UInt8) : Int := ((Tn.sum l).1 + 3 * (Tn.sum l).2) % 16
/-- Does a chunk end behind these bytes (whatever stands behind them)? -/
def ends (h : List UInt8) : Bool := decide (h.length = 128) || (decide (16 ≤ h.length) && decide (cell (last8 h) = 0))
/-- One byte more: the chunks that have ended, and what is held. -/
def step (st : List (List UInt8) × List UInt8) (b : UInt8) : List (List UInt8) × List UInt8 :=
  if ends (st.2 ++ [b]) = true then (st.1 ++ [st.2 ++ [b]], []) else (st.1, st.2 ++ [b])
def feed (h : List UInt8) (l : List UInt8) : List (List UInt8) × List UInt8 := l.foldl step ([], h)
/-- What is held, as the last chunk. -/
def rest (h : List UInt8) : List (List UInt8) := if h = [] then [] else [h]
def chunks (l : List UInt8) : List (List UInt8) := (feed [] l).1 ++ rest (feed [] l).2

theorem ends_nil : ends [] = false := by decide
theorem ends_len {h : List UInt8} (he : ends h = true) : 16 ≤ h.length ∧ (h.length = 128 ∨ cell (last8 h) = 0) := by
  unfold ends at he
  simp only [Bool.or_eq_true, Bool.and_eq_true, decide_eq_true_eq] at he
  omega
theorem fold_out (l : List UInt8) : ∀ (o : List (List UInt8)) (h : List UInt8), l.foldl step (o, h) = (o ++ (feed h l).1, (feed h l).2) := by
  induction l with
  | nil => intro o h; simp [feed]
  | cons b l ih =>
    intro o h
    unfold feed
    simp only [List.foldl_cons, step, List.nil_append]
    by_cases e : ends (h ++ [b]) = true
    · rw [if_pos e, if_pos e, ih, ih [h ++ [b]] []]
      simp
    · rw [if_neg e, if_neg e, ih, ih [] (h ++ [b])]
      simp
theorem feed_nil (h : List UInt8) : feed h [] = ([], h) := rfl
theorem feed_cons (h : List UInt8) (b : UInt8) (l : List UInt8) :
    feed h (b :: l) = if ends (h ++ [b]) = true then ((h ++ [b]) :: (feed [] l).1, (feed [] l).2) else feed (h ++ [b]) l := by
  show (b :: l).foldl step ([], h) = _
  rw [List.foldl_cons]
  have hs : step ([], h) b = if ends (h ++ [b]) = true then ([h ++ [b]], []) else ([], h ++ [b]) := rfl
  rw [hs]
  by_cases e : ends (h ++ [b]) = true
  · rw [if_pos e, if_pos e, fold_out]; rfl
  · rw [if_neg e, if_neg e]; rfl
theorem feed_append (h a b : List UInt8) : feed h (a ++ b) = ((feed h a).1 ++ (feed (feed h a).2 b).1, (feed (feed h a).2 b).2) := by
  unfold feed
  rw [List.foldl_append]
  have := fold_out b (a.foldl step ([], h)).1 (a.foldl step ([], h)).2
  rw [show ((a.foldl step ([], h)).1, (a.foldl step ([], h)).2) = a.foldl step ([], h) from rfl] at this
  rw [this]; rfl
theorem feed_snoc (h l : List UInt8) (b : UInt8) : feed h (l ++ [b]) =
    if ends ((feed h l).2 ++ [b]) = true then ((feed h l).1 ++ [(feed h l).2 ++ [b]], []) else ((feed h l).1, (feed h l).2 ++ [b]) := by
  rw [feed_append, feed_cons]
  by_cases e : ends ((feed h l).2 ++ [b]) = true
  · rw [if_pos e, if_pos e]; rfl
  · rw [if_neg e, if_neg e, feed_nil]; simp

/-! What a cutter holds never ends a chunk; no beginning of it does. -/
def Held (h : List UInt8) : Prop := ∀ m, m ≤ h.length → ends (h.take m) = false
theorem Held.nil : Held [] := fun m _ => by rw [List.take_nil]; exact ends_nil
theorem Held.snoc {h : List UInt8} {b : UInt8} (hh : Held h) (he : ¬ ends (h ++ [b]) = true) : Held (h ++ [b]) := by
  intro m hm
  rw [List.length_append, List.length_singleton] at hm
  rcases Nat.lt_or_ge h.length m with h1 | h1
  · rw [List.take_of_length_le (by rw [List.length_append, List.length_singleton]; omega)]
    simpa using he
  · rw [List.take_append_of_le_length h1]
    exact hh m h1
theorem Held.lt {h : List UInt8} (hh : Held h) : h.length < 128 := by
  rcases Nat.lt_or_ge h.length 128 with h1 | h1
  · exact h1
  · have := hh 128 h1
    unfold ends at this
    rw [List.length_take, Nat.min_eq_left h1] at this
    simp at this
theorem feed_held (l : List UInt8) : ∀ h, Held h → Held (feed h l).2 := by
  induction l with
  | nil => intro h hh; exact hh
  | cons b l ih =>
    intro h hh
    rw [feed_cons]
    by_cases e : ends (h ++ [b]) = true
    · rw [if_pos e]; exact ih [] Held.nil
    · rw [if_neg e]; exact ih _ (hh.snoc e)
/-- Chunks that have ended have 16 to 128 bytes. -/
theorem feed_sizes (l : List UInt8) : ∀ h, Held h → ∀ c ∈ (feed h l).1, 16 ≤ c.length ∧ c.length ≤ 128 := by
  induction l with
  | nil => intro h _ c hc; cases hc
  | cons b l ih =>
    intro h hh c hc
    rw [feed_cons] at hc
    by_cases e : ends (h ++ [b]) = true
    · rw [if_pos e] at hc
      rcases List.mem_cons.1 hc with rfl | hc
      · have h1 := (ends_len e).1
        have h2 := hh.lt
        rw [List.length_append, List.length_singleton] at h1 ⊢
        omega
      · exact ih [] Held.nil c hc
    · rw [if_neg e] at hc
      exact ih _ (hh.snoc e) c hc
/-- Put together again. -/
theorem feed_join (l : List UInt8) : ∀ h, (feed h l).1.flatten ++ (feed h l).2 = h ++ l := by
  induction l with
  | nil => intro h; simp [feed_nil]
  | cons b l ih =>
    intro h
    rw [feed_cons]
    by_cases e : ends (h ++ [b]) = true
    · rw [if_pos e]
      simp only [List.flatten_cons, List.append_assoc]
      rw [ih []]
      simp
    · rw [if_neg e, ih]
      simp
theorem rest_join (h : List UInt8) : (rest h).flatten = h := by
  unfold rest
  by_cases e : h = []
  · rw [if_pos e, e]; rfl
  · rw [if_neg e]; simp
theorem chunks_join (l : List UInt8) : (chunks l).flatten = l := by
  unfold chunks
  rw [List.flatten_append, rest_join, feed_join]; rfl
theorem chunks_nil : chunks [] = [] := rfl

/-- As long as no beginning ends a chunk, all is held. -/
theorem feed_all (l : List UInt8) (n : Nat) (h : ∀ m, m ≤ n → ends (l.take m) = false) : feed [] (l.take n) = ([], l.take n) := by
  induction n with
  | zero => simp [feed_nil]
  | succ n ih =>
    rcases Nat.lt_or_ge n l.length with hn | hn
    · rw [List.take_succ_eq_append_getElem hn, feed_snoc, ih (fun m hm => h m (by omega))]
      have he := h (n + 1) (Nat.le_refl _)
      rw [List.take_succ_eq_append_getElem hn] at he
      simp only [he, Bool.false_eq_true, if_false]
    · rw [List.take_of_length_le (by omega)]
      have := ih (fun m hm => h m (by omega))
      rwa [List.take_of_length_le hn] at this
/-- The first chunk, and the rest as a text of its own. -/
theorem chunks_first (l : List UInt8) (n : Nat) (h1 : 1 ≤ n) (h2 : n ≤ l.length) (hno : ∀ m, m < n → ends (l.take m) = false) (hend : ends (l.take n) = true ∨ n = l.length) :
    chunks l = l.take n :: chunks (l.drop n) := by
  obtain ⟨k, rfl⟩ : ∃ k, n = k + 1 := ⟨n - 1, by omega⟩
  have hall := feed_all l k (fun m hm => hno m (by omega))
  have hsn := feed_snoc [] (l.take k) (l[k]'(by omega))
  rw [hall] at hsn
  simp only [List.nil_append] at hsn
  have htk : l.take (k + 1) = l.take k ++ [l[k]'(by omega)] := List.take_succ_eq_append_getElem (by omega)
  rw [← htk] at hsn
  by_cases e : ends (l.take (k + 1)) = true
  · rw [if_pos e] at hsn
    have hd := feed_append [] (l.take (k + 1)) (l.drop (k + 1))
    rw [List.take_append_drop, hsn] at hd
    unfold chunks
    rw [hd]
    simp
  · rw [if_neg e] at hsn
    rcases hend with h' | h'
    · exact absurd h' e
    · have e1 : l.take (k + 1) = l := List.take_of_length_le (by omega)
      have e2 : l.drop (k + 1) = [] := List.drop_eq_nil_of_le (by omega)
      rw [e1] at hsn
      rw [e1, e2, chunks_nil]
      unfold chunks
      rw [hsn]
      unfold rest
      rw [if_neg (show ¬ l = [] from fun h => by rw [h] at h'; simp at h')]
      rfl

/-- Fed in parts: what has come out, and what is held. -/
theorem chunks_parts (a b : List UInt8) : chunks (a ++ b) = (feed [] a).1 ++ ((feed (feed [] a).2 b).1 ++ rest (feed (feed [] a).2 b).2) := by
  unfold chunks
  rw [feed_append, List.append_assoc]

/-- Sizes: all but the last one 16 to 128, the last one 1 to 128. -/
theorem chunks_sizes (l : List UInt8) (i : Nat) (hi : i < (chunks l).length) : 1 ≤ ((chunks l).getD i []).length ∧ ((chunks l).getD i []).length ≤ 128 ∧ (i + 1 < (chunks l).length → 16 ≤ ((chunks l).getD i []).length) := by
  have hs := feed_sizes l [] Held.nil
  have hh := (feed_held l [] Held.nil).lt
  have hlen : (chunks l).length = (feed [] l).1.length + (rest (feed [] l).2).length := by unfold chunks; rw [List.length_append]
  have hget : (chunks l).getD i [] = ((feed [] l).1 ++ rest (feed [] l).2).getD i [] := rfl
  rw [hlen] at hi ⊢
  rw [hget]
  generalize feed [] l = f at *
  obtain ⟨o, h⟩ := f
  simp only at *
  rw [List.getD_eq_getElem?_getD]
  by_cases h1 : i < o.length
  · rw [List.getElem?_append_left h1, List.getElem?_eq_getElem h1]
    have := hs _ (List.getElem_mem h1)
    simp only [Option.getD_some]
    omega
  · rw [List.getElem?_append_right (by omega)]
    by_cases e : h = []
    · rw [rest, if_pos e] at hi
      simp at hi
      omega
    · have hr : rest h = [h] := by unfold rest; rw [if_neg e]
      rw [hr] at hi ⊢
      rw [List.length_singleton] at hi
      have : h.length ≠ 0 := fun h' => e (List.eq_nil_of_length_eq_zero h')
      rw [show i - o.length = 0 by omega]
      simp only [List.getElem?_cons_zero, Option.getD_some, List.length_singleton]
      omega
/-- Behind the first chunk. -/
theorem chunks_tail (l c : List UInt8) (r : List (List UInt8)) (h : chunks l = c :: r) : chunks (l.drop c.length) = r := by
  -- the first beginning that ends a chunk, or the whole
  have hj := chunks_join l
  rw [h, List.flatten_cons] at hj
  have hne : l ≠ [] := fun e => by rw [e, chunks_nil] at h; cases h
  have hpos : 0 < l.length := List.length_pos_iff.2 hne
  -- the least n
  have ex : ∃ n, 1 ≤ n ∧ n ≤ l.length ∧ (∀ m, m < n → ends (l.take m) = false) ∧ (ends (l.take n) = true ∨ n = l.length) := by
    have key : ∀ k, k ≤ l.length → (∀ m, m ≤ k → ends (l.take m) = false) ∨ ∃ n, 1 ≤ n ∧ n ≤ k ∧ (∀ m, m < n → ends (l.take m) = false) ∧ ends (l.take n) = true := by
      intro k
      induction k with
      | zero => intro _; left; intro m hm; rw [show m = 0 by omega, List.take_zero]; exact ends_nil
      | succ k ih =>
        intro hk
        rcases ih (by omega) with h' | ⟨n, a1, a2, a3, a4⟩
        · by_cases e : ends (l.take (k + 1)) = true
          · exact .inr ⟨k + 1, by omega, Nat.le_refl _, fun m hm => h' m (by omega), e⟩
          · refine .inl fun m hm => ?_
            rcases Nat.lt_or_ge k m with hkm | hkm
            · rw [show m = k + 1 by omega]; simpa using e
            · exact h' m hkm
        · exact .inr ⟨n, a1, by omega, a3, a4⟩
    rcases key l.length (Nat.le_refl _) with h' | ⟨n, a1, a2, a3, a4⟩
    · exact ⟨l.length, hpos, Nat.le_refl _, fun m hm => h' m (by omega), .inr rfl⟩
    · exact ⟨n, a1, a2, a3, .inl a4⟩
  obtain ⟨n, a1, a2, a3, a4⟩ := ex
  have hf := chunks_first l n a1 a2 a3 a4
  rw [h] at hf
  injection hf with e1 e2
  rw [e2, e1, List.length_take, Nat.min_eq_left a2]

/-- What stands behind a text changes none of its chunks but the last one. -/
theorem chunks_behind (a b : List UInt8) (k : Nat) (hk : (chunks a).length = k + 1) :
    k < (chunks (a ++ b)).length ∧ (chunks (a ++ b)).take k = (chunks a).take k ∧ ∃ x, (chunks (a ++ b)).getD k [] = (chunks a).getD k [] ++ x := by
  have hp := chunks_parts a b
  have ha : chunks a = (feed [] a).1 ++ rest (feed [] a).2 := rfl
  generalize feed [] a = f at *
  obtain ⟨o, h⟩ := f
  simp only at *
  by_cases e : h = []
  · have hr : rest h = [] := by unfold rest; rw [if_pos e]
    rw [hr, List.append_nil] at ha
    rw [ha] at hk
    refine ⟨by rw [hp, List.length_append]; omega, ?_, [], ?_⟩
    · rw [hp, ha, List.take_append_of_le_length (by omega)]
    · rw [hp, ha, List.getD_eq_getElem?_getD, List.getElem?_append_left (by omega), ← List.getD_eq_getElem?_getD, List.append_nil]
  · have hr : rest h = [h] := by unfold rest; rw [if_neg e]
    rw [hr] at ha
    rw [ha, List.length_append, List.length_singleton] at hk
    have hko : k = o.length := by omega
    -- the first one that comes out behind it begins with what was held
    have key : ∀ (b h : List UInt8), h ≠ [] → ∃ x r, (feed h b).1 ++ rest (feed h b).2 = (h ++ x) :: r := by
      intro b
      induction b with
      | nil => intro h hh; exact ⟨[], [], by rw [feed_nil]; unfold rest; rw [if_neg hh]; simp⟩
      | cons c b ih =>
        intro h _
        rw [feed_cons]
        by_cases e' : ends (h ++ [c]) = true
        · rw [if_pos e']; exact ⟨[c], _, rfl⟩
        · rw [if_neg e']
          obtain ⟨x, r, hx⟩ := ih (h ++ [c]) (by simp)
          exact ⟨c :: x, r, by rw [hx]; simp⟩
    obtain ⟨x, r, hx⟩ := key b h e
    rw [hx] at hp
    refine ⟨by rw [hp, List.length_append, List.length_cons]; omega, ?_, x, ?_⟩
    · rw [hp, ha, hko, List.take_append_of_le_length (Nat.le_refl _), List.take_append_of_le_length (Nat.le_refl _)]
    · rw [hp, ha, hko]
      simp only [List.getD_eq_getElem?_getD]
      rw [List.getElem?_append_right (Nat.le_refl _), List.getElem?_append_right (Nat.le_refl _), Nat.sub_self]
      rfl

/-! The sum of the last window, byte by byte. -/
theorem last8_short (h : List UInt8) (b : UInt8) (hl : h.length < 8) : last8 (h ++ [b]) = h ++ [b] := by
  unfold last8
  rw [List.length_append, List.length_singleton, show h.length + 1 - 8 = 0 by omega, List.drop_zero]
theorem last8_all (h : List UInt8) (hl : h.length ≤ 8) : last8 h = h := by
  unfold last8; rw [show h.length - 8 = 0 by omega, List.drop_zero]
theorem last8_len (h : List UInt8) (hl : 8 ≤ h.length) : (last8 h).length = 8 := by
  unfold last8; rw [List.length_drop]; omega
theorem last8_long (h : List UInt8) (b : UInt8) (hl : 8 ≤ h.length) : ∃ m, m.length = 7 ∧ last8 h = h[h.length - 8]'(by omega) :: m ∧ last8 (h ++ [b]) = m ++ [b] := by
  refine ⟨h.drop (h.length - 8 + 1), by rw [List.length_drop]; omega, ?_, ?_⟩
  · unfold last8; rw [List.drop_eq_getElem_cons (by omega)]
  · unfold last8
    rw [List.length_append, List.length_singleton, show h.length + 1 - 8 = h.length - 8 + 1 by omega, List.drop_append_of_le_length (by omega)]
/-- Rolled on. -/
theorem sum_long (h : List UInt8) (b : UInt8) (hl : 8 ≤ h.length) :
    Tn.sum (last8 (h ++ [b])) = ((b.toNat : Int) - ((Tn.sum (last8 h)).2 - (Tn.cmul ((h[h.length - 8]'(by omega)).toNat, 0) (Tn.ipow 7)).2),
      (Tn.sum (last8 h)).1 - (Tn.cmul ((h[h.length - 8]'(by omega)).toNat, 0) (Tn.ipow 7)).1) := by
  obtain ⟨m, h7, e1, e2⟩ := last8_long h b hl
  rw [e2, e1, Tn.sum_snoc, Tn.sum_cons, h7]
  simp only [Tn.step]
  show (_, _) = (_, _)
  have h7' : ((7 : Nat) : Int) = 7 := rfl
  rw [h7']
  congr 1 <;> omega
theorem sum_short (h : List UInt8) (b : UInt8) (hl : h.length < 8) : Tn.sum (last8 (h ++ [b])) = Tn.step (Tn.sum (last8 h)) b := by
  rw [last8_short h b hl, last8_all h (by omega), Tn.sum_snoc]
end Ct
end Go.Proofs.Ytaahbankiidgkaa
