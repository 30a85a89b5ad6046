/- Records as bytes, parts of keys, numbers that fall: mathematics (no function of the program is named here). -/
import Derived.Test.YtlpillpfahkjdaaDoorLogMath
namespace Go.Proofs.YtlpillpfahkjdaaDoor
namespace Pk
open Wl (enc dec enc_length dec_enc dec_append)
abbrev Text := List UInt8

/-! ### Numbers. -/
theorem dec_lt (l : Text) : dec l < 256 ^ l.length := Wl.dec_snoc_lt l
theorem snoc_cases (l : Text) (n : Nat) (h : l.length = n + 1) : ∃ m b, l = m ++ [b] ∧ m.length = n := by
  rcases List.eq_nil_or_concat l with rfl | ⟨m, b, rfl⟩
  · cases h
  · exact ⟨m, b, by rw [List.concat_eq_append], by simpa using h⟩
theorem enc_dec : ∀ (w : Nat) (l : Text), l.length = w → enc w (dec l) = l
  | 0, l, h => by rw [List.length_eq_zero_iff.1 h]; rfl
  | w + 1, l, h => by
    obtain ⟨m, b, rfl, hm⟩ := snoc_cases l w h
    rw [dec_append, enc]
    have hb := b.toNat_lt
    rw [show (dec m * 256 + b.toNat) / 256 = dec m by omega, enc_dec w m hm]
    congr 2
    apply UInt8.toNat.inj
    rw [UInt8.toNat_ofNat']
    omega
def lt : Text → Text → Bool
  | _, [] => false
  | [], _ :: _ => true
  | a :: x, b :: y => a < b || (a == b && lt x y)
theorem lt_snoc : ∀ (x y : Text) (a b : UInt8), x.length = y.length → lt (x ++ [a]) (y ++ [b]) = (lt x y || (x == y && decide (a < b)))
  | [], [], a, b, _ => by simp [lt]
  | [], _ :: _, _, _, h => by simp at h
  | _ :: _, [], _, _, h => by simp at h
  | c :: x, d :: y, a, b, h => by
    have ih := lt_snoc x y a b (by simpa using h)
    rw [List.cons_append, List.cons_append, lt, lt, ih]
    by_cases hcd : c = d
    · subst hcd
      simp [UInt8.lt_irrefl]
    · have h1 : (c == d) = false := by simpa using hcd
      have h2 : ((c :: x) == (d :: y)) = false := by simp [hcd]
      rw [h1, h2]
      simp
theorem enc_inj : ∀ (w a b : Nat), a < 256 ^ w → b < 256 ^ w → enc w a = enc w b → a = b := by
  intro w a b ha hb h
  rw [← dec_enc w a ha, h, dec_enc w b hb]
theorem lt_enc : ∀ (w a b : Nat), a < 256 ^ w → b < 256 ^ w → lt (enc w a) (enc w b) = decide (a < b)
  | 0, a, b, ha, hb => by
    simp at ha hb
    subst ha hb
    rfl
  | w + 1, a, b, ha, hb => by
    have ha' : a / 256 < 256 ^ w := Nat.div_lt_of_lt_mul (by rw [Nat.mul_comm, ← Nat.pow_succ]; exact ha)
    have hb' : b / 256 < 256 ^ w := Nat.div_lt_of_lt_mul (by rw [Nat.mul_comm, ← Nat.pow_succ]; exact hb)
    rw [enc, enc, lt_snoc _ _ _ _ (by rw [enc_length, enc_length]), lt_enc w _ _ ha' hb']
    have he : (enc w (a / 256) == enc w (b / 256)) = decide (a / 256 = b / 256) := by
      rw [Bool.eq_iff_iff, beq_iff_eq, decide_eq_true_eq]
      exact ⟨fun h => enc_inj w _ _ ha' hb' h, fun h => by rw [h]⟩
    have hd : decide (UInt8.ofNat a < UInt8.ofNat b) = decide (a % 256 < b % 256) := by
      rw [Bool.eq_iff_iff, decide_eq_true_eq, decide_eq_true_eq, UInt8.lt_iff_toNat_lt, UInt8.toNat_ofNat', UInt8.toNat_ofNat']
    rw [he, hd, Bool.eq_iff_iff, Bool.or_eq_true, Bool.and_eq_true, decide_eq_true_eq, decide_eq_true_eq, decide_eq_true_eq, decide_eq_true_eq]
    omega

/-! ### Kinds, fields. -/
def width (c : UInt8) : Nat := if c = 110 then 8 else if c = 104 then 4 else if c = 98 then 1 else 0
theorem width_le (c : UInt8) : width c ≤ 8 := by unfold width; split <;> (try split) <;> (try split) <;> omega
def letter (c : UInt8) (last : Bool) : Bool := decide (width c ≠ 0) || decide (c = 116) || (decide (c = 114) && last)
def right : Text → Bool
  | [] => true
  | c :: r => letter c r.isEmpty && right r
structure Fd where
  n : Nat
  s : Text
deriving DecidableEq
instance : Inhabited Fd := ⟨⟨0, []⟩⟩
def ftext (c : UInt8) (f : Fd) : Option Text :=
  if width c ≠ 0 then (if f.s = [] ∧ f.n < 256 ^ width c then some (enc (width c) f.n) else none)
  else if f.n ≠ 0 then none
  else if c = 114 then some f.s
  else if f.s.length > 65535 then none else some (enc 2 f.s.length ++ f.s)
def wrs : Text → Text → List Fd → Option Text
  | acc, [], [] => some acc
  | acc, c :: k, f :: l => match ftext c f with
    | none => none
    | some a => wrs (acc ++ a) k l
  | _, _, _ => none
def write (k : Text) (l : List Fd) : Option Text := if right k = true ∧ k.length = l.length then wrs [] k l else none
def fieldOf (c : UInt8) (s : Text) : Option (Fd × Text) :=
  if c = 114 then some (⟨0, s⟩, [])
  else if c = 116 then (if s.length < 2 then none else if (s.drop 2).length < dec (s.take 2) then none else some (⟨0, (s.drop 2).take (dec (s.take 2))⟩, (s.drop 2).drop (dec (s.take 2))))
  else if s.length < width c then none else some (⟨dec (s.take (width c)), []⟩, s.drop (width c))
def rds : List Fd → Text → Text → Option (List Fd)
  | acc, [], s => if s = [] then some acc else none
  | acc, c :: k, s => match fieldOf c s with
    | none => none
    | some (f, s') => rds (acc ++ [f]) k s'
def read (k s : Text) : Option (List Fd) := if right k = true then rds [] k s else none
theorem letter_cases {c : UInt8} {b : Bool} (h : letter c b = true) : (width c ≠ 0 ∧ c ≠ 114 ∧ c ≠ 116) ∨ (c = 116 ∧ width c = 0) ∨ (c = 114 ∧ width c = 0 ∧ b = true) := by
  unfold letter at h
  simp only [Bool.or_eq_true, decide_eq_true_eq, Bool.and_eq_true] at h
  rcases h with (h | rfl) | ⟨rfl, h⟩
  · refine .inl ⟨h, ?_, ?_⟩ <;> (rintro rfl; exact h (by decide))
  · exact .inr (.inl ⟨rfl, by decide⟩)
  · exact .inr (.inr ⟨rfl, by decide, h⟩)
theorem fieldOf_ftext {c : UInt8} {b : Bool} {f : Fd} {a t : Text} (hc : letter c b = true) (hb : b = true → t = []) (h : ftext c f = some a) : fieldOf c (a ++ t) = some (f, t) := by
  obtain ⟨n, s⟩ := f
  rcases letter_cases hc with ⟨h0, h1, h2⟩ | ⟨rfl, h0⟩ | ⟨rfl, h0, h1⟩
  · unfold ftext at h
    rw [if_pos h0] at h
    split at h
    · next h3 =>
      obtain ⟨h3, h4⟩ := h3
      simp only at h3 h4
      subst h3
      injection h with h
      subst h
      unfold fieldOf
      rw [if_neg h1, if_neg h2, if_neg (by rw [List.length_append, enc_length]; omega), List.take_left' (enc_length _ _), List.drop_left' (enc_length _ _), dec_enc _ _ h4]
    · cases h
  · unfold ftext at h
    rw [if_neg (by omega)] at h
    split at h
    · cases h
    · next h3 =>
      rw [if_neg (by decide)] at h
      split at h
      · cases h
      · next h4 =>
        injection h with h
        subst h
        have hn : n = 0 := by simpa using h3
        subst hn
        unfold fieldOf
        have hd : dec (enc 2 s.length) = s.length := dec_enc 2 _ (by simp only at h4; omega)
        rw [if_neg (by decide), if_pos rfl, if_neg (by rw [List.length_append, List.length_append, enc_length]; omega), List.append_assoc, List.take_left' (enc_length _ _), List.drop_left' (enc_length _ _)]
        simp only [hd]
        rw [if_neg (by rw [List.length_append]; omega), List.take_left, List.drop_left]
  · unfold ftext at h
    rw [if_neg (by omega)] at h
    split at h
    · cases h
    · next h3 =>
      rw [if_pos rfl] at h
      injection h with h
      subst h
      have hn : n = 0 := by simpa using h3
      subst hn
      unfold fieldOf
      rw [if_pos rfl, hb h1, List.append_nil]
theorem ftext_fieldOf {c : UInt8} {b : Bool} {f : Fd} {s t : Text} (hc : letter c b = true) (h : fieldOf c s = some (f, t)) : ∃ a, ftext c f = some a ∧ s = a ++ t := by
  rcases letter_cases hc with ⟨h0, h1, h2⟩ | ⟨rfl, h0⟩ | ⟨rfl, h0, h1⟩
  · unfold fieldOf at h
    rw [if_neg h1, if_neg h2] at h
    split at h
    · cases h
    · next h3 =>
      injection h with h
      injection h with e1 e2
      subst e1 e2
      have hl : (s.take (width c)).length = width c := by rw [List.length_take]; omega
      refine ⟨s.take (width c), ?_, (List.take_append_drop _ _).symm⟩
      unfold ftext
      have := dec_lt (s.take (width c))
      rw [hl] at this
      rw [if_pos h0, if_pos ⟨rfl, this⟩, enc_dec _ _ hl]
  · unfold fieldOf at h
    rw [if_neg (by decide), if_pos rfl] at h
    split at h
    · cases h
    · next h3 =>
      split at h
      · cases h
      · next h4 =>
        injection h with h
        injection h with e1 e2
        subst e1 e2
        have hl : (s.take 2).length = 2 := by rw [List.length_take]; omega
        have hd := dec_lt (s.take 2)
        rw [hl] at hd
        have h5 : ((s.drop 2).take (dec (s.take 2))).length = dec (s.take 2) := by rw [List.length_take]; omega
        refine ⟨s.take 2 ++ (s.drop 2).take (dec (s.take 2)), ?_, ?_⟩
        · unfold ftext
          rw [if_neg (by omega), if_neg (by simp), if_neg (by decide)]
          simp only [h5]
          rw [if_neg (by omega), enc_dec _ _ hl]
        · rw [List.append_assoc, List.take_append_drop, List.take_append_drop]
  · unfold fieldOf at h
    rw [if_pos rfl] at h
    injection h with h
    injection h with e1 e2
    subst e1 e2
    refine ⟨s, ?_, by simp⟩
    unfold ftext
    rw [if_neg (by omega), if_neg (by simp), if_pos rfl]
theorem wrs_rds : ∀ (k : Text) (l : List Fd) (acc t : Text), right k = true → wrs acc k l = some t → ∃ b, t = acc ++ b ∧ ∀ acc', rds acc' k b = some (acc' ++ l)
  | [], [], acc, t, _, h => by
    simp only [wrs, Option.some.injEq] at h
    subst h
    exact ⟨[], by simp, fun acc' => by simp [rds]⟩
  | [], _ :: _, _, _, _, h => by simp [wrs] at h
  | _ :: _, [], _, _, _, h => by simp [wrs] at h
  | c :: k, f :: l, acc, t, hr, h => by
    simp only [right, Bool.and_eq_true] at hr
    rw [wrs] at h
    split at h
    · cases h
    · next a ha =>
      obtain ⟨b, rfl, hb⟩ := wrs_rds k l (acc ++ a) t hr.2 h
      refine ⟨a ++ b, by rw [List.append_assoc], fun acc' => ?_⟩
      rw [rds, fieldOf_ftext hr.1 (fun hk => ?_) ha]
      · simp only
        rw [hb, List.append_assoc]; rfl
      · have hk' : k = [] := by simpa using hk
        subst hk'
        cases l with
        | nil =>
          simp only [wrs, Option.some.injEq] at h
          exact List.append_cancel_left (by rw [← h, List.append_nil])
        | cons _ _ => simp [wrs] at h
theorem rds_acc : ∀ (k : Text) (acc l : List Fd) (s : Text), rds acc k s = some l → ∃ m, l = acc ++ m ∧ m.length = k.length
  | [], acc, l, s, h => by
    simp only [rds] at h
    split at h
    · injection h with h; exact ⟨[], by simp [h], rfl⟩
    · cases h
  | c :: k, acc, l, s, h => by
    rw [rds] at h
    split at h
    · cases h
    · obtain ⟨m, rfl, hm⟩ := rds_acc k _ l _ h
      exact ⟨_ :: m, by rw [List.append_assoc]; rfl, by simp [hm]⟩
theorem rds_wrs : ∀ (k : Text) (acc m : List Fd) (s : Text), right k = true → rds acc k s = some (acc ++ m) → ∀ acc', wrs acc' k m = some (acc' ++ s)
  | [], acc, m, s, _, h, acc' => by
    simp only [rds] at h
    split at h
    · next h0 =>
      injection h with h
      have : m = [] := List.append_cancel_left (by rw [← h, List.append_nil])
      subst this h0
      simp [wrs]
    · cases h
  | c :: k, acc, m, s, hr, h, acc' => by
    simp only [right, Bool.and_eq_true] at hr
    rw [rds] at h
    split at h
    · cases h
    · next f s' hf =>
      obtain ⟨m', hm, _⟩ := rds_acc k _ _ _ h
      have hm' : m = f :: m' := by
        rw [List.append_assoc] at hm
        exact List.append_cancel_left hm
      subst hm'
      obtain ⟨a, ha, rfl⟩ := ftext_fieldOf hr.1 hf
      have := rds_wrs k (acc ++ [f]) m' s' hr.2 (by rw [h, List.append_assoc]; rfl) (acc' ++ a)
      rw [wrs, ha]
      simp only
      rw [this, List.append_assoc]
theorem rds_len : ∀ (k : Text) (acc l : List Fd) (s : Text), right k = true → rds acc k s = some l → k.length ≤ s.length + 1
  | [], _, _, _, _, _ => by simp
  | c :: k, acc, l, s, hr, h => by
    simp only [right, Bool.and_eq_true] at hr
    rw [rds] at h
    split at h
    · cases h
    · next f s' hf =>
      have ih := rds_len k _ l s' hr.2 h
      have hl : (c = 114 ∧ k = []) ∨ s'.length + 1 ≤ s.length := by
        rcases letter_cases hr.1 with ⟨h0, h1, h2⟩ | ⟨rfl, h0⟩ | ⟨rfl, h0, h1⟩
        · right
          unfold fieldOf at hf
          rw [if_neg h1, if_neg h2] at hf
          split at hf
          · cases hf
          · injection hf with hf
            injection hf with e1 e2
            subst e2
            rw [List.length_drop]; omega
        · right
          unfold fieldOf at hf
          rw [if_neg (by decide), if_pos rfl] at hf
          split at hf
          · cases hf
          · split at hf
            · cases hf
            · injection hf with hf
              injection hf with e1 e2
              subst e2
              rw [List.length_drop, List.length_drop]; omega
        · exact .inl ⟨rfl, by simpa using h1⟩
      rcases hl with ⟨_, rfl⟩ | hl
      · simp
      · simp only [List.length_cons]; omega
theorem read_write {k : Text} {l : List Fd} {t : Text} (h : write k l = some t) : read k t = some l := by
  unfold write at h
  split at h
  · next hr =>
    obtain ⟨b, rfl, hb⟩ := wrs_rds k l [] t hr.1 h
    unfold read
    rw [if_pos hr.1]
    simpa using hb []
  · cases h
theorem write_read {k s : Text} {l : List Fd} (h : read k s = some l) : write k l = some s := by
  unfold read at h
  split at h
  · next hr =>
    obtain ⟨m, hm0, hm⟩ := rds_acc k [] l s h
    rw [List.nil_append] at hm0
    subst hm0
    unfold write
    rw [if_pos ⟨hr, by simpa using hm.symm⟩]
    have := rds_wrs k [] l s hr h []
    simpa using this
  · cases h
theorem read_len {k s : Text} {l : List Fd} (h : read k s = some l) : k.length ≤ s.length + 1 ∧ l.length = k.length := by
  unfold read at h
  split at h
  · next hr =>
    refine ⟨rds_len k [] l s hr h, ?_⟩
    obtain ⟨m, rfl, hm⟩ := rds_acc k [] l s h
    simpa using hm
  · cases h
theorem wrs_acc : ∀ (k : Text) (l : List Fd) (acc t : Text), wrs acc k l = some t → ∃ b, t = acc ++ b ∧ ∀ acc', wrs acc' k l = some (acc' ++ b)
  | [], [], acc, t, h => by
    simp only [wrs, Option.some.injEq] at h
    exact ⟨[], by simp [h], fun _ => by simp [wrs]⟩
  | [], _ :: _, _, _, h => by simp [wrs] at h
  | _ :: _, [], _, _, h => by simp [wrs] at h
  | c :: k, f :: l, acc, t, h => by
    rw [wrs] at h
    split at h
    · cases h
    · next a ha =>
      obtain ⟨b, rfl, hb⟩ := wrs_acc k l _ _ h
      exact ⟨a ++ b, by rw [List.append_assoc], fun acc' => by rw [wrs, ha]; simp only; rw [hb, List.append_assoc]⟩
theorem wrs_join : ∀ (k : Text) (l : List Fd) (acc t : Text), wrs acc k l = some t → ∀ k' l', wrs acc (k ++ k') (l ++ l') = wrs t k' l'
  | [], [], acc, t, h, k', l' => by
    simp only [wrs, Option.some.injEq] at h
    subst h; rfl
  | [], _ :: _, _, _, h, _, _ => by simp [wrs] at h
  | _ :: _, [], _, _, h, _, _ => by simp [wrs] at h
  | c :: k, f :: l, acc, t, h, k', l' => by
    rw [wrs] at h
    split at h
    · cases h
    · next a ha =>
      rw [List.cons_append, List.cons_append, wrs, ha]
      exact wrs_join k l _ t h k' l'
theorem right_join : ∀ (k k' : Text), right k = true → right k' = true → (∀ c ∈ k, c ≠ 114) → right (k ++ k') = true
  | [], _, _, h, _ => h
  | c :: k, k', h, h', hn => by
    simp only [right, Bool.and_eq_true] at h
    simp only [List.cons_append, right, Bool.and_eq_true]
    refine ⟨?_, right_join k k' h.2 h' fun c hc => hn c (List.mem_cons_of_mem _ hc)⟩
    have h1 := h.1
    unfold letter at h1 ⊢
    have : decide (c = 114) = false := by simpa using hn c (List.mem_cons_self ..)
    rw [this] at h1 ⊢
    simpa using h1
theorem write_join {k k' : Text} {l l' : List Fd} {t t' : Text} (h : write k l = some t) (h' : write k' l' = some t') (hn : ∀ c ∈ k, c ≠ 114) : write (k ++ k') (l ++ l') = some (t ++ t') := by
  unfold write at h h'
  split at h
  · next hr =>
    split at h'
    · next hr' =>
      unfold write
      rw [if_pos ⟨right_join k k' hr.1 hr'.1 hn, by simp [hr.2, hr'.2]⟩, wrs_join k l [] t h]
      obtain ⟨b, hb, hb'⟩ := wrs_acc k' l' [] t' h'
      rw [List.nil_append] at hb
      subst hb
      exact hb' t
    · cases h'
  · cases h

/-! ### Parts. -/
def cut : Text → Option (Text × Text)
  | [] => none
  | c :: r => if c = 0 then some ([], r) else match cut r with
    | none => none
    | some (x, y) => some (c :: x, y)
theorem cut_none : ∀ (s : Text), cut s = none ↔ (0 : UInt8) ∉ s
  | [] => by simp [cut]
  | c :: r => by
    have ih := cut_none r
    rw [cut]
    by_cases hc : c = 0
    · rw [if_pos hc]; simp [hc]
    · rw [if_neg hc]
      have hc' : ¬ (0 : UInt8) = c := fun e => hc e.symm
      cases h : cut r with
      | none => simp [hc', ih.1 h]
      | some p =>
        have : (0 : UInt8) ∈ r := by
          apply Classical.byContradiction
          intro hn
          rw [ih.2 hn] at h; cases h
        simp [this]
theorem cut_at : ∀ (s : Text) (k : Nat), (0 : UInt8) ∉ s.take k → k < s.length → s[k]? = some 0 → cut s = some (s.take k, s.drop (k + 1))
  | [], _, _, h, _ => by simp at h
  | c :: r, 0, _, _, h => by
    have hc : c = 0 := by simpa using h
    rw [cut, if_pos hc]; rfl
  | c :: r, k + 1, h, hk, h0 => by
    rw [List.take_succ_cons] at h ⊢
    have hc : ¬ c = 0 := fun e => h (by rw [e]; exact List.mem_cons_self ..)
    rw [cut, if_neg hc, cut_at r k (fun hm => h (List.mem_cons_of_mem _ hm)) (by simpa using hk) (by simpa using h0)]
    rfl
theorem cut_part (a r : Text) (h : (0 : UInt8) ∉ a) : cut (a ++ [0] ++ r) = some (a, r) := by
  have := cut_at (a ++ [0] ++ r) a.length (by rw [List.append_assoc, List.take_left]; exact h) (by simp) (by simp)
  rw [this, List.append_assoc, List.take_left]
  congr 2
  rw [← List.append_assoc, List.drop_left' (by simp)]
theorem lt_part : ∀ (a b x y : Text), (0 : UInt8) ∉ a → (0 : UInt8) ∉ b → a ≠ b → lt (a ++ [0] ++ x) (b ++ [0] ++ y) = lt a b
  | [], [], _, _, _, _, h => absurd rfl h
  | [], d :: b, x, y, _, hb, _ => by
    have hd : (0 : UInt8) < d := by
      have : ¬ (0 : UInt8) = d := fun e => hb (by rw [e]; exact List.mem_cons_self ..)
      rw [UInt8.lt_iff_toNat_lt]
      have h0 : ¬ d.toNat = 0 := fun e => this (UInt8.toNat.inj e.symm)
      exact Nat.pos_of_ne_zero h0
    simp [lt, hd]
  | c :: a, [], x, y, ha, _, _ => by
    have hd : (0 : UInt8) < c := by
      have : ¬ (0 : UInt8) = c := fun e => ha (by rw [e]; exact List.mem_cons_self ..)
      rw [UInt8.lt_iff_toNat_lt]
      have h0 : ¬ c.toNat = 0 := fun e => this (UInt8.toNat.inj e.symm)
      exact Nat.pos_of_ne_zero h0
    have h1 : ¬ c < 0 := by rw [UInt8.lt_iff_toNat_lt] at hd ⊢; omega
    have h2 : ¬ c = 0 := fun e => by rw [e] at hd; exact UInt8.lt_irrefl _ hd
    simp [lt, h1, h2]
  | c :: a, d :: b, x, y, ha, hb, h => by
    simp only [List.cons_append, lt]
    by_cases hcd : c = d
    · subst hcd
      rw [lt_part a b x y (fun hm => ha (List.mem_cons_of_mem _ hm)) (fun hm => hb (List.mem_cons_of_mem _ hm)) (fun e => h (by rw [e]))]
    · have h1 : (c == d) = false := by simpa using hcd
      rw [h1]; simp
end Pk
end Go.Proofs.YtlpillpfahkjdaaDoor
