/- A disk as the document has it: firm sectors, loose writes, fuel (no function of the program is named here). -/
import Derived.Test.YtlpillpfahkjdaaDoorChecked
import Derived.WalkKit
namespace Go.Proofs.YtlpillpfahkjdaaDoor
namespace Dk

/-- Writes, one behind the other. -/
def puts {α : Type} (L : List α) (ws : List (Nat × α)) : List α := ws.foldl (fun L x => L.set x.1 x.2) L
theorem puts_nil {α : Type} (L : List α) : puts L [] = L := rfl
theorem puts_cons {α : Type} (L : List α) (x : Nat × α) (ws : List (Nat × α)) : puts L (x :: ws) = puts (L.set x.1 x.2) ws := rfl
theorem puts_append {α : Type} (L : List α) (a b : List (Nat × α)) : puts L (a ++ b) = puts (puts L a) b := by simp [puts]
theorem puts_one {α : Type} (L : List α) (i : Nat) (x : α) : puts L [(i, x)] = L.set i x := rfl
theorem puts_length {α : Type} (ws : List (Nat × α)) : ∀ L : List α, (puts L ws).length = L.length := by
  induction ws with
  | nil => intro L; rfl
  | cons x ws ih => intro L; rw [puts_cons, ih, List.length_set]
theorem puts_map {α β : Type} (T : α → β) (ws : List (Nat × α)) : ∀ L : List α, (puts L ws).map T = puts (L.map T) (ws.map fun x => (x.1, T x.2)) := by
  induction ws with
  | nil => intro L; rfl
  | cons x ws ih => intro L; rw [puts_cons, ih, List.map_set, List.map_cons, puts_cons]
theorem puts_mem {α : Type} (ws : List (Nat × α)) : ∀ (L : List α) (c : α), c ∈ puts L ws → c ∈ L ∨ ∃ i, (i, c) ∈ ws := by
  induction ws with
  | nil => intro L c h; exact .inl h
  | cons x ws ih =>
    intro L c h
    rcases ih _ _ h with h | ⟨i, h⟩
    · grind
    · grind
theorem puts_other {α : Type} (ws : List (Nat × α)) (j : Nat) : ∀ L : List α, (∀ x ∈ ws, x.1 ≠ j) → (puts L ws)[j]? = L[j]? := by
  induction ws with
  | nil => intro L _; rfl
  | cons x ws ih =>
    intro L h
    rw [puts_cons, ih _ (fun y hy => h y (List.mem_cons_of_mem _ hy)), List.getElem?_set_ne (h x List.mem_cons_self)]
theorem puts_take {α : Type} (L : List α) (ws : List (Nat × α)) (k : Nat) (hk : k < ws.length) : puts L (ws.take (k + 1)) = (puts L (ws.take k)).set (ws[k]).1 (ws[k]).2 := by
  rw [List.take_succ_eq_append_getElem hk, puts_append]; rfl

/-- Of the writes those for which keep says true. -/
def kept {α : Type} : List Bool → List α → List α
  | _, [] => []
  | [], _ :: _ => []
  | b :: k, w :: ws => if b then w :: kept k ws else kept k ws
theorem kept_nil {α : Type} (k : List Bool) : kept k ([] : List α) = [] := by cases k <;> rfl
theorem kept_none {α : Type} (ws : List α) : kept [] ws = [] := by cases ws <;> rfl
theorem kept_map {α β : Type} (T : α → β) : ∀ (k : List Bool) (ws : List α), kept k (ws.map T) = (kept k ws).map T
  | k, [] => by simp [kept_nil]
  | [], _ :: _ => rfl
  | true :: k, w :: ws => by simp [kept, kept_map T k ws]
  | false :: k, w :: ws => by simp [kept, kept_map T k ws]
theorem kept_mem {α : Type} : ∀ (k : List Bool) (ws : List α) (x : α), x ∈ kept k ws → x ∈ ws
  | k, [], x, h => by rw [kept_nil] at h; exact h
  | [], _ :: _, x, h => by cases h
  | true :: k, w :: ws, x, h => by
    simp only [kept, if_true, List.mem_cons] at h
    rcases h with rfl | h
    · grind
    · exact List.mem_cons_of_mem _ (kept_mem k ws x h)
  | false :: k, w :: ws, x, h => List.mem_cons_of_mem _ (kept_mem k ws x (by simpa [kept] using h))
theorem kept_take {α : Type} : ∀ (keep : List Bool) (ws : List α) (k : Nat) (hk : k < ws.length), kept keep (ws.take (k + 1)) = kept keep (ws.take k) ++ (if keep.getD k false then [ws[k]] else [])
  | keep, [], k, hk => by simp at hk
  | [], w :: ws, k, hk => by
    rw [kept_none, kept_none]; simp
  | b :: keep, w :: ws, 0, hk => by
    cases b <;> simp [kept, kept_nil]
  | b :: keep, w :: ws, k + 1, hk => by
    have := kept_take keep ws k (by simpa using hk)
    rw [List.take_succ_cons, List.take_succ_cons]
    cases b <;> simp [kept, this]
theorem kept_length {α : Type} : ∀ (keep : List Bool) (ws : List α), (kept keep ws).length ≤ ws.length
  | k, [] => by rw [kept_nil]; exact Nat.le_refl _
  | [], _ :: _ => Nat.zero_le _
  | true :: k, w :: ws => by simp only [kept, if_true, List.length_cons]; have := kept_length k ws; omega
  | false :: k, w :: ws => by have := kept_length k ws; simp only [kept, List.length_cons]; simpa using Nat.le_succ_of_le this

/-- L's places that writes are of are set to what stands there in M. -/
def setOne {α : Type} (M L : List α) (x : Nat × α) : List α := match M[x.1]? with | some c => L.set x.1 c | none => L
theorem setOne_lt {α : Type} (M L : List α) (x : Nat × α) (h : x.1 < M.length) : setOne M L x = L.set x.1 M[x.1] := by
  unfold setOne; rw [List.getElem?_eq_getElem h]
theorem setOne_ge {α : Type} (M L : List α) (x : Nat × α) (h : M.length ≤ x.1) : setOne M L x = L := by
  unfold setOne; rw [List.getElem?_eq_none h]
def sets {α : Type} (M L : List α) (ws : List (Nat × α)) : List α := ws.foldl (setOne M) L
theorem sets_take {α : Type} (M L : List α) (ws : List (Nat × α)) (k : Nat) (hk : k < ws.length) (h : (ws[k]).1 < M.length) : sets M L (ws.take (k + 1)) = (sets M L (ws.take k)).set (ws[k]).1 (M[(ws[k]).1]) := by
  rw [List.take_succ_eq_append_getElem hk]
  unfold sets
  rw [List.foldl_append, List.foldl_cons, List.foldl_nil, setOne_lt _ _ _ h]
theorem sets_length {α : Type} (M : List α) (ws : List (Nat × α)) : ∀ L : List α, (sets M L ws).length = L.length := by
  induction ws with
  | nil => intro L; rfl
  | cons x ws ih =>
    intro L
    show (sets M (setOne M L x) ws).length = _
    rw [ih]
    unfold setOne
    split <;> simp
theorem sets_at {α : Type} (M : List α) (ws : List (Nat × α)) (j : Nat) : ∀ L : List α, L.length = M.length → ((∃ x ∈ ws, x.1 = j) ∨ L[j]? = M[j]?) → (sets M L ws)[j]? = M[j]? := by
  induction ws with
  | nil =>
    intro L _ h
    rcases h with ⟨x, h, _⟩ | h
    · cases h
    · exact h
  | cons x ws ih =>
    intro L hl h
    show (sets M (setOne M L x) ws)[j]? = _
    rcases Nat.lt_or_ge x.1 M.length with hlt | hge
    · rw [setOne_lt _ _ _ hlt]
      refine ih _ (by simpa using hl) ?_
      by_cases he : x.1 = j
      · grind
      · grind
    · rw [setOne_ge _ _ _ hge]
      refine ih _ hl ?_
      rcases h with ⟨y, hy, e⟩ | h
      · grind
      · exact .inr h
/-- Behind a fall what is latest is what is firm. -/
theorem sets_all {α : Type} (P : List α) (ws ks : List (Nat × α)) (hk : ∀ x ∈ ks, x ∈ ws) : sets (puts P ks) (puts P ws) ws = puts P ks := by
  refine List.ext_getElem? fun j => ?_
  refine sets_at _ ws j _ (by rw [puts_length, puts_length]) ?_
  by_cases h : ∃ x ∈ ws, x.1 = j
  · exact .inl h
  · right
    have h' : ∀ x ∈ ws, x.1 ≠ j := fun x hx e => h ⟨x, hx, e⟩
    rw [puts_other ws j _ h', puts_other ks j _ (fun x hx => h' x (hk x hx))]

theorem setOne_map {α β : Type} (T : α → β) (M L : List α) (x : Nat × α) : (setOne M L x).map T = setOne (M.map T) (L.map T) (x.1, T x.2) := by
  unfold setOne
  rw [List.getElem?_map]
  cases M[x.1]? with
  | none => rfl
  | some c => simp
theorem sets_map {α β : Type} (T : α → β) (M : List α) (ws : List (Nat × α)) : ∀ L : List α, (sets M L ws).map T = sets (M.map T) (L.map T) (ws.map fun x => (x.1, T x.2)) := by
  induction ws with
  | nil => intro L; rfl
  | cons x ws ih =>
    intro L
    show (sets M (setOne M L x) ws).map T = _
    rw [ih, setOne_map]
    rfl
theorem sets_mem {α : Type} (M : List α) (ws : List (Nat × α)) : ∀ (L : List α) (c : α), c ∈ sets M L ws → c ∈ L ∨ c ∈ M := by
  induction ws with
  | nil => intro L c h; exact .inl h
  | cons x ws ih =>
    intro L c h
    rcases ih _ _ h with h | h
    · grind [setOne, List.mem_or_eq_of_mem_set, List.mem_of_getElem?]
    · exact .inr h

/-! ### The disk. -/
structure Disk where
  firm : List (List UInt8)
  loose : List (Nat × List UInt8)
  fuel : Int
  off : Bool

def full (s : List UInt8) : List UInt8 := s ++ List.replicate (512 - s.length) 0
theorem full_length (s : List UInt8) (h : s.length ≤ 512) : (full s).length = 512 := by simp [full]; omega
def fresh (n : Nat) : Disk := ⟨List.replicate n (full []), [], -1, false⟩
def Disk.now (d : Disk) : List (List UInt8) := puts d.firm d.loose
def Disk.burnt (d : Disk) : Disk := { d with fuel := if 0 < d.fuel then d.fuel - 1 else d.fuel }
def Disk.dead (d : Disk) : Disk := { d with off := true }
def Disk.has (d : Disk) (i : Int) : Bool := decide (0 ≤ i) && decide (i < d.firm.length)
/-- What Read answers: a text and a number. -/
def Disk.read (d : Disk) (i : Int) : List UInt8 × Int :=
  if d.off then ([], 3) else if d.has i then (d.now.getD i.toNat [], 0) else ([], 2)
def Disk.write (d : Disk) (i : Int) (s : List UInt8) : Int × Disk :=
  if d.off then (3, d) else if !d.has i then (2, d) else if 512 < s.length then (5, d) else if d.fuel = 0 then (3, d.dead)
  else (0, { d.burnt with loose := d.loose ++ [(i.toNat, full s)] })
def Disk.flush (d : Disk) : Int × Disk :=
  if d.off then (3, d) else if d.fuel = 0 then (3, d.dead) else (0, { d.burnt with firm := d.now, loose := [] })
def Disk.fall (d : Disk) (keep : List Bool) : Disk := ⟨puts d.firm (kept keep d.loose), [], -1, false⟩
def Disk.fueled (d : Disk) (n : Int) : Disk := { d with fuel := max n (-1) }
end Dk
end Go.Proofs.YtlpillpfahkjdaaDoor
