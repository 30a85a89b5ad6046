/- A kit for rows of any elements and for what a call may turn (no function of the program is named here). -/
import Derived.Test.YtlpillpfahkjdaaDoorChecked
import Derived.WalkKit
import Derived.WalkSpells
import Derived.WalkLawsBesides
import Derived.Laws.Rows
namespace Go.Proofs.YtlpillpfahkjdaaDoor
open Go.RowKit

/-! ### What a call may turn: the blocks S (and new ones). -/
structure But (S : Nat → Prop) (w w' : World) : Prop where
  os : w'.os = w.os
  tape : w'.tape = w.tape
  output : w'.output = w.output
  size : w.heap.size ≤ w'.heap.size
  block : ∀ k, k < w.heap.size → ¬ S k → w'.heap[k]? = w.heap[k]?

theorem But.refl (S : Nat → Prop) (w : World) : But S w w := ⟨rfl, rfl, rfl, Nat.le_refl _, fun _ _ _ => rfl⟩
/-- Two steps: the second one may turn what the first one made, too. -/
theorem But.trans {S T : Nat → Prop} {a b c : World} (h : But S a b) (k : But T b c) (hT : ∀ i, i < a.heap.size → T i → S i) : But S a c :=
  ⟨k.os.trans h.os, k.tape.trans h.tape, k.output.trans h.output, Nat.le_trans h.size k.size, fun i hi hn =>
    (k.block i (Nat.lt_of_lt_of_le hi h.size) (fun ht => hn (hT i hi ht))).trans (h.block i hi hn)⟩
theorem But.mono {S T : Nat → Prop} {w w' : World} (h : But S w w') (hT : ∀ i, i < w.heap.size → S i → T i) : But T w w' :=
  ⟨h.os, h.tape, h.output, h.size, fun k hk hn => h.block k hk fun hs => hn (hT k hk hs)⟩
theorem But.alloc {S : Nat → Prop} {a w : World} (h : But S a w) (o : Obj) : But S a (w.alloc o) :=
  h.trans (T := fun _ => False) ⟨rfl, rfl, rfl, by simp, fun k hk _ => Below.heap_alloc _ _ _ hk⟩ fun _ _ hf => hf.elim
theorem But.drew {S : Nat → Prop} {a w : World} (h : But S a w) : But S a w.drew := ⟨h.os, h.tape, h.output, h.size, h.block⟩
theorem But.drewN {S : Nat → Prop} {a w : World} (h : But S a w) (n : Nat) : But S a (w.drewN n) := ⟨h.os, h.tape, h.output, h.size, h.block⟩
theorem But.setCell {S : Nat → Prop} {a w : World} (h : But S a w) (p : Addr) (u : Value) (hp : p.block < a.heap.size → S p.block) : But S a (w.setCell p u) :=
  h.trans (T := fun k => k = p.block) ⟨rfl, rfl, rfl, by simp [World.setCell], fun k _ hn => Below.heap_setCell _ _ _ _ hn⟩ fun i hi e => by subst e; exact hp hi
theorem But.grown {S : Nat → Prop} {a w w' : World} {row : Option Nat} (h : But S a w) (hg : w.grownBy w' row) (hr : ∀ k, row = some k → k < a.heap.size → S k) : But S a w' :=
  h.trans (T := fun k => row = some k) ⟨hg.os, hg.tape, hg.output, hg.size, fun k hk hn => hg.block k hk (fun e => hn e.symm)⟩ fun i hi e => hr i e hi
theorem But.of_below {w w' : World} (h : Below w.heap.size w w') (S : Nat → Prop) : But S w w' := ⟨h.os, h.tape, h.output, h.size, fun k hk _ => h.block k hk⟩
theorem But.below {S : Nat → Prop} {B : Nat} {w w' : World} (h : But S w w') (hB : B ≤ w.heap.size) (hS : ∀ k, k < B → ¬ S k) : Below B w w' :=
  ⟨h.os, h.tape, h.output, h.size, fun k hk => h.block k (Nat.lt_of_lt_of_le hk hB) (hS k hk)⟩
theorem But.cell {S : Nat → Prop} {w w' : World} (h : But S w w') {p : Addr} {u : Value} (hc : w.cell? p = some u) (hn : ¬ S p.block) : w'.cell? p = some u :=
  (World.cell?_of_block (w := w) (h.block p.block (World.block_lt_of_cell? _ _ hc) hn)).trans hc
theorem But.frozen {S : Nat → Prop} {w w' : World} (h : But S w w') {p : Addr} (hl : p.block < w.heap.size) (hn : ¬ S p.block) : w'.frozen? p = w.frozen? p :=
  World.frozen?_of_block (w := w) (h.block p.block hl hn)

/-! ### Blocks of cells. -/
/-- Block g has just these cells, none frozen. -/
def Blk (w : World) (g : Nat) (t : TypeId) (cs : List Value) : Prop := w.heap[g]? = some (.cells cs.toArray t (0, 0))
theorem Blk.lt {w : World} {g : Nat} {t : TypeId} {cs : List Value} (h : Blk w g t cs) : g < w.heap.size := (Array.getElem?_eq_some_iff.1 h).1
theorem Blk.cell {w : World} {g : Nat} {t : TypeId} {cs : List Value} (h : Blk w g t cs) {j : Nat} {u : Value} (hu : cs[j]? = some u) : w.cell? ⟨g, j, none⟩ = some u := by
  unfold Blk at h; simp [World.cell?, h, hu]
theorem Blk.frozen {w : World} {g : Nat} {t : TypeId} {cs : List Value} (h : Blk w g t cs) (j : Nat) : w.frozen? ⟨g, j, none⟩ = false := by
  unfold Blk at h; simp [World.frozen?, h]
theorem Blk.set {w : World} {g : Nat} {t : TypeId} {cs : List Value} (h : Blk w g t cs) (j : Nat) (u : Value) : Blk (w.setCell ⟨g, j, none⟩ u) g t (cs.set j u) := by
  unfold Blk at h ⊢
  rw [heap_setCell_same w g j _ _ _ h]
  simp
theorem Blk.but {S : Nat → Prop} {w w' : World} {g : Nat} {t : TypeId} {cs : List Value} (h : Blk w g t cs) (hb : But S w w') (hn : ¬ S g) : Blk w' g t cs := by
  have := hb.block g h.lt hn
  unfold Blk at h ⊢
  rw [this]; exact h
theorem Blk.below {B : Nat} {w w' : World} {g : Nat} {t : TypeId} {cs : List Value} (h : Blk w g t cs) (hb : Below B w w') (hg : g < B) : Blk w' g t cs := by
  have := hb.block g hg
  unfold Blk at h ⊢
  rw [this]; exact h
theorem Blk.drew {w : World} {g : Nat} {t : TypeId} {cs : List Value} (h : Blk w g t cs) : Blk w.drew g t cs := h
theorem Blk.drewN {w : World} {g : Nat} {t : TypeId} {cs : List Value} (h : Blk w g t cs) (n : Nat) : Blk (w.drewN n) g t cs := h
theorem Blk.alloc {w : World} {g : Nat} {t : TypeId} {cs : List Value} (h : Blk w g t cs) (o : Obj) : Blk (w.alloc o) g t cs := by
  unfold Blk
  rw [Below.heap_alloc _ _ _ h.lt]; exact h
theorem Blk.other {w : World} {g : Nat} {t : TypeId} {cs : List Value} (h : Blk w g t cs) (p : Addr) (u : Value) (hne : g ≠ p.block) : Blk (w.setCell p u) g t cs := by
  unfold Blk
  rw [Below.heap_setCell _ _ _ _ hne]; exact h
theorem Blk.new (w : World) (cs : Array Value) (t : TypeId) : Blk (w.alloc (.cells cs t)) w.heap.size t cs.toList := heap_alloc_new w _
/-- A struct result. -/
theorem Blk.result {P : Program} {fn : Func} {p : Tmp} {ty : TypeId} (h : fn.results = #[.cell p ty]) (tmps : Array Value) {w : World} {g : Nat} {t : TypeId} {cs : List Value} (d : TypeDesc)
    (hp : tmps.getD p undef = .pointer (some ⟨g, 0, none⟩)) (hb : Blk w g t cs)
    (hu : P.underlying ty = some d) (hd : (match d with | .struct _ | .array _ _ => true | _ => false) = true) (hi : (P.info? ty).map (·.size) = some cs.length) :
    (results fn tmps).run P w = .ok (.agg cs.toArray) w :=
  results_cell_row h tmps w g _ _ _ d hp hb hu hd (by rw [hi]; simp)

/-! ### Elements of any kind, each in so many cells. -/
structure Elem (α : Type) where
  enc : α → List Value
  size : Nat
  pos : 0 < size
  len : ∀ a, (enc a).length = size
  one : ∀ a, ∀ u ∈ enc a, u.oneCell' = true

namespace Elem
variable {α : Type} (K : Elem α)
def cells (l : List α) : List Value := l.flatMap K.enc
theorem cells_nil : K.cells [] = [] := rfl
theorem cells_cons (a : α) (l : List α) : K.cells (a :: l) = K.enc a ++ K.cells l := by simp [cells]
theorem cells_append (l m : List α) : K.cells (l ++ m) = K.cells l ++ K.cells m := by simp [cells]
theorem cells_length (l : List α) : (K.cells l).length = l.length * K.size := by
  induction l with
  | nil => simp [cells]
  | cons a l ih => rw [cells_cons, List.length_append, ih, K.len, List.length_cons, Nat.add_mul]; omega
theorem cells_one (l : List α) : ∀ u ∈ K.cells l, u.oneCell' = true := by
  intro u hu
  simp only [cells, List.mem_flatMap] at hu
  obtain ⟨a, _, ha⟩ := hu
  exact K.one a u ha
theorem cells_get (l : List α) : ∀ (j o : Nat), o < K.size → ∀ hj : j < l.length, (K.cells l)[j * K.size + o]? = (K.enc l[j])[o]? := by
  induction l with
  | nil => intro j o _ hj; cases hj
  | cons a l ih =>
    intro j o ho hj
    rw [cells_cons]
    cases j with
    | zero =>
      rw [Nat.zero_mul, Nat.zero_add, List.getElem?_append_left (by rw [K.len]; exact ho)]
      rfl
    | succ j =>
      rw [List.getElem?_append_right (by rw [K.len, Nat.add_mul]; omega), K.len, show (j + 1) * K.size + o - K.size = j * K.size + o by rw [Nat.add_mul]; omega]
      rw [ih j o ho (by simpa using hj)]
      rfl
theorem cells_take (l : List α) (n : Nat) : K.cells (l.take n) = (K.cells l).take (n * K.size) := by
  rcases Nat.lt_or_ge n l.length with hn | hn
  · grind [cells_append, List.take_append_drop, cells_length, List.length_take, Nat.min_eq_left, Nat.le_of_lt, List.take_left]
  · simp_all [List.take_of_length_le, cells_length, Nat.mul_le_mul_right]
theorem cells_drop (l : List α) (n : Nat) (hn : n ≤ l.length) : K.cells (l.drop n) = (K.cells l).drop (n * K.size) := by
  have e : K.cells l = K.cells (l.take n) ++ K.cells (l.drop n) := by rw [← cells_append, List.take_append_drop]
  have hl : (K.cells (l.take n)).length = n * K.size := by rw [cells_length, List.length_take, Nat.min_eq_left hn]
  rw [e, ← hl, List.drop_left]
end Elem

/-- Elements of one cell. -/
def oneElem {α : Type} (f : α → Value) (h : ∀ a, (f a).oneCell' = true) : Elem α := ⟨fun a => [f a], 1, by decide, fun _ => rfl, fun a u hu => by rw [List.mem_singleton.1 hu]; exact h a⟩
theorem oneElem_cells {α : Type} (f : α → Value) (h : ∀ a, (f a).oneCell' = true) (l : List α) : (oneElem f h).cells l = l.map f := by
  induction l with
  | nil => rfl
  | cons a l ih => rw [Elem.cells_cons, ih]; rfl
/-- Texts. -/
def strElem : Elem ByteArray := oneElem (fun s => .string s) (fun _ => rfl)
def intElem (k : IntKind) : Elem Int := oneElem (fun n => .int k n) (fun _ => rfl)
def boolElem : Elem Bool := oneElem (fun b => .bool b) (fun _ => rfl)

/-- What the program says of a slice type's elements. -/
structure SliceT (P : Program) (T E : TypeId) (size : Nat) : Prop where
  under : P.underlying T = some (.slice E)
  info : ∃ i z, P.info? E = some i ∧ i.zero = some z ∧ i.size = size ∧ z.cells.size = size ∧ i.bytes ≤ 100000
theorem SliceT.of {P : Program} {T E : TypeId} {size bytes : Nat} {z : Value} (hu : P.underlying T = some (.slice E)) (hi : (P.info? E).map (fun i => (i.zero, i.size, i.bytes)) = some (some z, size, bytes)) (hz : z.cells.size = size) (hb : bytes ≤ 100000) : SliceT P T E size := by
  refine ⟨hu, ?_⟩
  cases h : P.info? E with
  | none => rw [h] at hi; cases hi
  | some i =>
    rw [h] at hi
    simp only [Option.map_some, Option.some.injEq, Prod.mk.injEq] at hi
    exact ⟨i, z, rfl, hi.1, hi.2.1, hz, by rw [hi.2.2]; exact hb⟩

section
variable {α : Type} {K : Elem α} {P : Program}

/-- From cell o of block g on the elements l lie. -/
def Lies (K : Elem α) (w : World) (g o : Nat) (l : List α) : Prop := ∀ j u, (K.cells l)[j]? = some u → w.cell? ⟨g, o + j, none⟩ = some u
theorem Lies.at {w : World} {g o : Nat} {l : List α} (h : Lies K w g o l) (j i : Nat) (hi : i < K.size) (hj : j < l.length) (u : Value) (hu : (K.enc l[j])[i]? = some u) : w.cell? ⟨g, o + (j * K.size + i), none⟩ = some u :=
  h _ u (by rw [K.cells_get l j i hi hj]; exact hu)
theorem Lies.but {S : Nat → Prop} {w w' : World} {g o : Nat} {l : List α} (h : Lies K w g o l) (hb : But S w w') (hn : ¬ S g) : Lies K w' g o l := fun j u hu => hb.cell (h j u hu) hn
theorem Lies.below {B : Nat} {w w' : World} {g o : Nat} {l : List α} (h : Lies K w g o l) (hb : Below B w w') (hg : g < B) : Lies K w' g o l := fun j u hu => (hb.cell (p := ⟨g, o + j, none⟩) hg).trans (h j u hu)
theorem Lies.part {w : World} {g o : Nat} {l : List α} (h : Lies K w g o l) (n m : Nat) (hn : n ≤ l.length) : Lies K w g (o + n * K.size) ((l.drop n).take m) := by
  intro j u hu
  rw [K.cells_take, K.cells_drop l n hn] at hu
  have hlt : j < m * K.size := by
    grind
  rw [List.getElem?_take_of_lt hlt, List.getElem?_drop] at hu
  rw [Nat.add_assoc]
  exact h _ u hu
theorem Lies.news {w : World} {g o : Nat} {l : List α} (h : Lies K w g o l) : ∀ j u, (K.cells l)[j]? = some u → w.cell? ((⟨g, o, none⟩ : Addr).add j) = some u := by
  intro j u hu
  have e : (⟨g, o, none⟩ : Addr).add j = ⟨g, o + j, none⟩ := by
    rcases Nat.eq_zero_or_pos j with rfl | hp
    · simp [Addr.add]
    · simp [Addr.add, Nat.ne_of_gt hp]
  rw [e]
  exact h j u hu
theorem Lies.of_blk {w : World} {g : Nat} {t : TypeId} {cs : List Value} {l : List α} (h : Blk w g t cs) (he : cs = K.cells l) : Lies K w g 0 l := by
  subst he
  intro j u hu
  rw [Nat.zero_add]
  exact h.cell hu

/-- v holds the elements l in a row of its own, from block B on. -/
def Own (K : Elem α) (E : TypeId) (B : Nat) (w : World) (v : Value) (l : List α) : Prop := w.ownsRow B E K.size v l.length (K.cells l)
variable {E T : TypeId} {B : Nat} {w : World} {v : Value} {l : List α}
theorem Own.nil (K : Elem α) (E : TypeId) (B : Nat) (w : World) : Own K E B w (.slice none 0 0) [] := World.ownsRow_nil w B E K.size
theorem Own.but {S : Nat → Prop} {w' : World} (h : Own K E B w v l) (hb : But S w w') (hn : ∀ g, v.ownBlock = some g → ¬ S g) : Own K E B w' v l := by
  refine ⟨h.1, ?_⟩
  rcases h.2 with h0 | ⟨g, cap, cur, rfl, hg, hh, r⟩
  · exact .inl h0
  · exact .inr ⟨g, cap, cur, rfl, hg, by rw [hb.block g (Array.getElem?_eq_some_iff.1 hh).1 (hn g rfl)]; exact hh, r⟩
theorem Own.below {B' : Nat} {w' : World} (h : Own K E B w v l) (hb : Below B' w w') (hB : w.heap.size ≤ B') : Own K E B w' v l :=
  h.but (S := fun _ => False) ⟨hb.os, hb.tape, hb.output, hb.size, fun k hk _ => hb.block k (Nat.lt_of_lt_of_le hk hB)⟩ fun _ _ hf => hf
theorem Own.mono {B' : Nat} (h : Own K E B w v l) (hB : B' ≤ B) : Own K E B' w v l := by
  refine ⟨h.1, ?_⟩
  rcases h.2 with h0 | ⟨g, cap, cur, hv, hg, r⟩
  · exact .inl h0
  · exact .inr ⟨g, cap, cur, hv, Nat.le_trans hB hg, r⟩
theorem Own.alloc (h : Own K E B w v l) (o : Obj) : Own K E B (w.alloc o) v l := World.ownsRow.alloc h o
theorem Own.drew (h : Own K E B w v l) : Own K E B w.drew v l := h
theorem Own.drewN (h : Own K E B w v l) (n : Nat) : Own K E B (w.drewN n) v l := h
theorem Own.slice (h : Own K E B w v l) : ∃ a cap, v = .slice a l.length cap ∧ l.length ≤ cap := by
  rcases h.2 with ⟨e, h0⟩ | ⟨g, cap, cur, e, _, _, hc, _⟩
  · grind
  · exact ⟨_, cap, e, hc⟩
theorem Own.form (h : Own K E B w v l) (hn : 0 < l.length) : ∃ g cap, v = .slice (some ⟨g, 0, none⟩) l.length cap ∧ B ≤ g ∧ g < w.heap.size ∧ l.length ≤ cap := by
  rcases h.2 with ⟨_, h0⟩ | ⟨g, cap, cur, e, hg, hh, hc, _⟩
  · omega
  · grind
theorem Own.block (h : Own K E B w v l) : ∀ g, v.ownBlock = some g → B ≤ g ∧ g < w.heap.size := World.ownsRow.lt h
theorem Own.lies {g n cap : Nat} (h : Own K E B w (.slice (some ⟨g, 0, none⟩) n cap) l) : Lies K w g 0 l := by
  intro j u hu
  have hn : n = l.length := by
    rcases h.2 with ⟨e, _⟩ | ⟨g', cap', cur, e, _⟩
    · cases e
    · injection e
  subst hn
  have hlt : j < l.length * K.size := by
    rcases Nat.lt_or_ge j (l.length * K.size) with h' | h'
    · exact h'
    · rw [List.getElem?_eq_none (by rw [K.cells_length]; exact h')] at hu; cases hu
  rw [Nat.zero_add, World.ownsRow.cellAt h j hlt, hu]
theorem Own.frozen {g n cap : Nat} (h : Own K E B w (.slice (some ⟨g, 0, none⟩) n cap) l) (j : Nat) : w.frozen? ⟨g, j, none⟩ = false := by
  have hn : n = l.length := by
    rcases h.2 with ⟨e, _⟩ | ⟨g', cap', cur, e, _⟩
    · cases e
    · injection e
  subst hn
  exact World.ownsRow.frozenAt h j
/-- One element's cell is stored anew: of elements of one cell. -/
theorem Own.store {α : Type} {f : α → Value} {hf : ∀ a, (f a).oneCell' = true} {E : TypeId} {B : Nat} {w : World} {l : List α} {g n cap : Nat}
    (h : Own (oneElem f hf) E B w (.slice (some ⟨g, 0, none⟩) n cap) l) (j : Nat) (x : α) : Own (oneElem f hf) E B (w.setCell ⟨g, j, none⟩ (f x)) (.slice (some ⟨g, 0, none⟩) n cap) (l.set j x) := by
  have hn : n = l.length := by
    rcases h.2 with ⟨e, _⟩ | ⟨g', cap', cur, e, _⟩
    · cases e
    · injection e
  subst hn
  have := (World.ownsRow.stored h j (f x)).1
  unfold Own
  rw [List.length_set, oneElem_cells, List.map_set]
  rw [oneElem_cells] at this
  exact this

/-- append of a row that lies anywhere. -/
theorem wp_app (ST : SliceT P T E K.size) {o : Oper} {a : Act} {K' : Act → World → Prop} {Q : Exit → Act → World → Prop} (s x : Operand)
    (ho : o.op = .call { callee := .builtin .append, args := #[s, x], argTypes := #[T, T] })
    (hs : a.eval s = v) (hown : Own K E B w v l) (hB : B ≤ w.heap.size)
    (g d m c : Nat) (ms : List α) (hx : a.eval x = .slice (some ⟨g, d, none⟩) m c) (hm : ms.length = m) (hnews : Lies K w g d ms) (hlen : l.length + m ≤ 1000000000)
    (h : ∀ v' w', Own K E B w' v' (l ++ ms) → w.grownBy w' v.ownBlock → K' (a.put o.dst v') w') : o.wp P a w K' Q := by
  obtain ⟨i, z, hi, hz, hsize, hzs, hby⟩ := ST.info
  refine wp_append_own w s x T ho B E i z K.size i.bytes ST.under hi hz hsize rfl hzs K.pos v l.length (K.cells l) hs hown ⟨g, d, none⟩ m c (K.cells ms) hx (by rw [K.cells_length, hm]) hnews.news (K.cells_one _) (by unfold maxLen; omega) ?_ hB ?_
  · exact Nat.le_trans (Nat.mul_le_mul hlen hby) (by decide)
  · intro v' w' h1 h2 _
    refine h v' w' ?_ h2
    unfold Own
    rw [List.length_append, K.cells_append, hm]
    exact h1
theorem wpList_app (ST : SliceT P T E K.size) {ops : Array Oper} {rest : List Oper} {o : Oper} {a : Act} {Q : Exit → Act → World → Prop} (hgd : o.guard = none) (s x : Operand)
    (ho : o.op = .call { callee := .builtin .append, args := #[s, x], argTypes := #[T, T] })
    (hs : a.eval s = v) (hown : Own K E B w v l) (hB : B ≤ w.heap.size)
    (g d m c : Nat) (ms : List α) (hx : a.eval x = .slice (some ⟨g, d, none⟩) m c) (hm : ms.length = m) (hnews : Lies K w g d ms) (hlen : l.length + m ≤ 1000000000)
    (h : ∀ v' w', Own K E B w' v' (l ++ ms) → w.grownBy w' v.ownBlock → wpList P ops Q rest (a.put o.dst v') w') : wpList P ops Q (o :: rest) a w :=
  wpList_plain hgd fun _ hK => wp_app ST s x ho hs hown hB g d m c ms hx hm hnews hlen fun v' w' h1 h2 => hK _ _ (h v' w' h1 h2)
/-- append of an owned row, empty or not. -/
theorem wp_app_own (ST : SliceT P T E K.size) {o : Oper} {a : Act} {K' : Act → World → Prop} {Q : Exit → Act → World → Prop} (s x : Operand)
    (ho : o.op = .call { callee := .builtin .append, args := #[s, x], argTypes := #[T, T] })
    (hs : a.eval s = v) (hown : Own K E B w v l) (hB : B ≤ w.heap.size)
    (vx : Value) (Bx : Nat) (ms : List α) (hx : a.eval x = vx) (hownx : Own K E Bx w vx ms) (hlen : l.length + ms.length ≤ 1000000000)
    (h : ∀ v' w', Own K E B w' v' (l ++ ms) → w.grownBy w' v.ownBlock → K' (a.put o.dst v') w') : o.wp P a w K' Q := by
  rcases hownx.2 with ⟨e, h0⟩ | ⟨g, cap, cur, e, _⟩
  · obtain ⟨i, z, hi, hz, hsize, hzs, hby⟩ := ST.info
    have hms : ms = [] := List.eq_nil_of_length_eq_zero h0
    have hr := run_append_owned_none (P := P) w B T o.type E i K.size ST.under hi v l.length (K.cells l) hown
    unfold Oper.wp execOp
    rw [e] at hx
    simp only [ho, resolve, invoke, builtin, Sem.run_bind, Sem.run_pure, Result.andThen_ok, List.map_toArray, List.map_cons, List.map_nil, hs, hx, hr]
    refine h v w ?_ ⟨rfl, rfl, rfl, Nat.le_refl _, fun _ _ _ => rfl⟩
    rw [hms, List.append_nil]
    exact hown
  · rw [e] at hx hownx
    exact wp_app ST s x ho hs hown hB g 0 ms.length cap ms hx rfl hownx.lies hlen h
/-- make([]T, n, c) with n = 0, and make([]T, n). -/
theorem wpList_make0 (ST : SliceT P T E K.size) {ops : Array Oper} {rest : List Oper} {o : Oper} {a : Act} {Q : Exit → Act → World → Prop} (hgd : o.guard = none) (s x : Operand)
    (ho : o.op = .makeSlice T s x) (B : Nat) (hB : B ≤ w.heap.size) (C : Int) (c : Nat) (hs : a.eval s = .int .i64 0) (hx : a.eval x = .int .i64 C) (hC : C = c) (hc : c ≤ 1000000000)
    (h : ∀ w', Own K E B w' (.slice (some ⟨w.heap.size, 0, none⟩) 0 c) [] → w.grownBy w' none → wpList P ops Q rest (a.put o.dst (.slice (some ⟨w.heap.size, 0, none⟩) 0 c)) w') : wpList P ops Q (o :: rest) a w := by
  obtain ⟨i, z, hi, hz, hsize, hzs, hby⟩ := ST.info
  refine wpList_make_own _ hgd s x T ho B E i z K.size ST.under hi hz hsize _ _ _ c hs hx hC ?_ (by unfold maxLen; omega) hB h
  exact Nat.le_trans (Nat.mul_le_mul hby hc) (by decide)
end
end Go.Proofs.YtlpillpfahkjdaaDoor
