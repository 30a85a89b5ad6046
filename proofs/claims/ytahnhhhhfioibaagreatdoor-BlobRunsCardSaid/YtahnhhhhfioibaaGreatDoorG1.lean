/- Elder texts, merged (1). -/
import Derived.Test.YtahnhhhhfioibaaGreatDoorChecked
import Derived.WalkKit
import Derived.WalkSpells
import Derived.WalkLawsBesides
import Derived.Laws.Rows
import Derived.Deep.QuietTactic
import Derived.Laws.Tables
import Derived.Laws.IdiomStrings
import Derived.Laws.MakeOwn
import Derived.Lib.AppendStr
import Derived.Laws.Bits128
import Derived.BigQuiet
import Derived.Deep.RegionLaw
import Derived.BigRegion
import Derived.Lib.Hide
import Derived.Deep.DeepFit
import Derived.Deep.RegionHeld3
import Derived.Laws.CopyRow
import Derived.StillTailTactics
namespace Go.Proofs.YtahnhhhhfioibaaGreatDoor
open Go.RowKit

/-! ### What a call may turn: the blocks S (and new ones). -/
structure But (S : Nat → Prop) (w w' : World) : Prop where
  os : w'.os = w.os
  tape : w'.tape = w.tape
  output : w'.output = w.output
  size : w.heap.size ≤ w'.heap.size
  block : ∀ k, k < w.heap.size → ¬ S k → w'.heap[k]? = w.heap[k]?

theorem But.refl (S : Nat → Prop) (w : World) : But S w w := ⟨rfl, rfl, rfl, Nat.le_refl _, fun _ _ _ => rfl⟩
/-- Two steps: the second one may turn what the first one made, too. -/
theorem But.trans {S T : Nat → Prop} {a b c : World} (h : But S a b) (k : But T b c) (hT : ∀ i, i < a.heap.size → T i → S i) : But S a c :=
  ⟨k.os.trans h.os, k.tape.trans h.tape, k.output.trans h.output, Nat.le_trans h.size k.size, fun i hi hn =>
    (k.block i (Nat.lt_of_lt_of_le hi h.size) (fun ht => hn (hT i hi ht))).trans (h.block i hi hn)⟩
theorem But.mono {S T : Nat → Prop} {w w' : World} (h : But S w w') (hT : ∀ i, i < w.heap.size → S i → T i) : But T w w' :=
  ⟨h.os, h.tape, h.output, h.size, fun k hk hn => h.block k hk fun hs => hn (hT k hk hs)⟩
theorem But.alloc {S : Nat → Prop} {a w : World} (h : But S a w) (o : Obj) : But S a (w.alloc o) :=
  h.trans (T := fun _ => False) ⟨rfl, rfl, rfl, by simp, fun k hk _ => Below.heap_alloc _ _ _ hk⟩ fun _ _ hf => hf.elim
theorem But.drew {S : Nat → Prop} {a w : World} (h : But S a w) : But S a w.drew := ⟨h.os, h.tape, h.output, h.size, h.block⟩
theorem But.drewN {S : Nat → Prop} {a w : World} (h : But S a w) (n : Nat) : But S a (w.drewN n) := ⟨h.os, h.tape, h.output, h.size, h.block⟩
theorem But.setCell {S : Nat → Prop} {a w : World} (h : But S a w) (p : Addr) (u : Value) (hp : p.block < a.heap.size → S p.block) : But S a (w.setCell p u) :=
  h.trans (T := fun k => k = p.block) ⟨rfl, rfl, rfl, by simp [World.setCell], fun k _ hn => Below.heap_setCell _ _ _ _ hn⟩ fun i hi e => by subst e; exact hp hi
theorem But.grown {S : Nat → Prop} {a w w' : World} {row : Option Nat} (h : But S a w) (hg : w.grownBy w' row) (hr : ∀ k, row = some k → k < a.heap.size → S k) : But S a w' :=
  h.trans (T := fun k => row = some k) ⟨hg.os, hg.tape, hg.output, hg.size, fun k hk hn => hg.block k hk (fun e => hn e.symm)⟩ fun i hi e => hr i e hi
theorem But.of_below {w w' : World} (h : Below w.heap.size w w') (S : Nat → Prop) : But S w w' := ⟨h.os, h.tape, h.output, h.size, fun k hk _ => h.block k hk⟩
theorem But.below {S : Nat → Prop} {B : Nat} {w w' : World} (h : But S w w') (hB : B ≤ w.heap.size) (hS : ∀ k, k < B → ¬ S k) : Below B w w' :=
  ⟨h.os, h.tape, h.output, h.size, fun k hk => h.block k (Nat.lt_of_lt_of_le hk hB) (hS k hk)⟩
theorem But.cell {S : Nat → Prop} {w w' : World} (h : But S w w') {p : Addr} {u : Value} (hc : w.cell? p = some u) (hn : ¬ S p.block) : w'.cell? p = some u :=
  (World.cell?_of_block (w := w) (h.block p.block (World.block_lt_of_cell? _ _ hc) hn)).trans hc
theorem But.frozen {S : Nat → Prop} {w w' : World} (h : But S w w') {p : Addr} (hl : p.block < w.heap.size) (hn : ¬ S p.block) : w'.frozen? p = w.frozen? p :=
  World.frozen?_of_block (w := w) (h.block p.block hl hn)

/-! ### Blocks of cells. -/
/-- Block g has just these cells, none frozen. -/
def Blk (w : World) (g : Nat) (t : TypeId) (cs : List Value) : Prop := w.heap[g]? = some (.cells cs.toArray t (0, 0))
theorem Blk.lt {w : World} {g : Nat} {t : TypeId} {cs : List Value} (h : Blk w g t cs) : g < w.heap.size := (Array.getElem?_eq_some_iff.1 h).1
theorem Blk.cell {w : World} {g : Nat} {t : TypeId} {cs : List Value} (h : Blk w g t cs) {j : Nat} {u : Value} (hu : cs[j]? = some u) : w.cell? ⟨g, j, none⟩ = some u := by
  unfold Blk at h; simp [World.cell?, h, hu]
theorem Blk.frozen {w : World} {g : Nat} {t : TypeId} {cs : List Value} (h : Blk w g t cs) (j : Nat) : w.frozen? ⟨g, j, none⟩ = false := by
  unfold Blk at h; simp [World.frozen?, h]
theorem Blk.set {w : World} {g : Nat} {t : TypeId} {cs : List Value} (h : Blk w g t cs) (j : Nat) (u : Value) : Blk (w.setCell ⟨g, j, none⟩ u) g t (cs.set j u) := by
  unfold Blk at h ⊢
  rw [heap_setCell_same w g j _ _ _ h]
  simp
theorem Blk.but {S : Nat → Prop} {w w' : World} {g : Nat} {t : TypeId} {cs : List Value} (h : Blk w g t cs) (hb : But S w w') (hn : ¬ S g) : Blk w' g t cs := by
  have := hb.block g h.lt hn
  unfold Blk at h ⊢
  rw [this]; exact h
theorem Blk.below {B : Nat} {w w' : World} {g : Nat} {t : TypeId} {cs : List Value} (h : Blk w g t cs) (hb : Below B w w') (hg : g < B) : Blk w' g t cs := by
  have := hb.block g hg
  unfold Blk at h ⊢
  rw [this]; exact h
theorem Blk.drew {w : World} {g : Nat} {t : TypeId} {cs : List Value} (h : Blk w g t cs) : Blk w.drew g t cs := h
theorem Blk.drewN {w : World} {g : Nat} {t : TypeId} {cs : List Value} (h : Blk w g t cs) (n : Nat) : Blk (w.drewN n) g t cs := h
theorem Blk.alloc {w : World} {g : Nat} {t : TypeId} {cs : List Value} (h : Blk w g t cs) (o : Obj) : Blk (w.alloc o) g t cs := by
  unfold Blk
  rw [Below.heap_alloc _ _ _ h.lt]; exact h
theorem Blk.other {w : World} {g : Nat} {t : TypeId} {cs : List Value} (h : Blk w g t cs) (p : Addr) (u : Value) (hne : g ≠ p.block) : Blk (w.setCell p u) g t cs := by
  unfold Blk
  rw [Below.heap_setCell _ _ _ _ hne]; exact h
theorem Blk.new (w : World) (cs : Array Value) (t : TypeId) : Blk (w.alloc (.cells cs t)) w.heap.size t cs.toList := heap_alloc_new w _
/-- A struct result. -/
theorem Blk.result {P : Program} {fn : Func} {p : Tmp} {ty : TypeId} (h : fn.results = #[.cell p ty]) (tmps : Array Value) {w : World} {g : Nat} {t : TypeId} {cs : List Value} (d : TypeDesc)
    (hp : tmps.getD p undef = .pointer (some ⟨g, 0, none⟩)) (hb : Blk w g t cs)
    (hu : P.underlying ty = some d) (hd : (match d with | .struct _ | .array _ _ => true | _ => false) = true) (hi : (P.info? ty).map (·.size) = some cs.length) :
    (results fn tmps).run P w = .ok (.agg cs.toArray) w :=
  results_cell_row h tmps w g _ _ _ d hp hb hu hd (by rw [hi]; simp)

/-! ### Elements of any kind, each in so many cells. -/
structure Elem (α : Type) where
  enc : α → List Value
  size : Nat
  pos : 0 < size
  len : ∀ a, (enc a).length = size
  one : ∀ a, ∀ u ∈ enc a, u.oneCell' = true

namespace Elem
variable {α : Type} (K : Elem α)
def cells (l : List α) : List Value := l.flatMap K.enc
theorem cells_nil : K.cells [] = [] := rfl
theorem cells_cons (a : α) (l : List α) : K.cells (a :: l) = K.enc a ++ K.cells l := by simp [cells]
theorem cells_append (l m : List α) : K.cells (l ++ m) = K.cells l ++ K.cells m := by simp [cells]
theorem cells_length (l : List α) : (K.cells l).length = l.length * K.size := by
  induction l with
  | nil => simp [cells]
  | cons a l ih => rw [cells_cons, List.length_append, ih, K.len, List.length_cons, Nat.add_mul]; omega
theorem cells_one (l : List α) : ∀ u ∈ K.cells l, u.oneCell' = true := by
  intro u hu
  simp only [cells, List.mem_flatMap] at hu
  obtain ⟨a, _, ha⟩ := hu
  exact K.one a u ha
theorem cells_get (l : List α) : ∀ (j o : Nat), o < K.size → ∀ hj : j < l.length, (K.cells l)[j * K.size + o]? = (K.enc l[j])[o]? := by
  induction l with
  | nil => intro j o _ hj; cases hj
  | cons a l ih =>
    intro j o ho hj
    rw [cells_cons]
    cases j with
    | zero =>
      rw [Nat.zero_mul, Nat.zero_add, List.getElem?_append_left (by rw [K.len]; exact ho)]
      rfl
    | succ j =>
      rw [List.getElem?_append_right (by rw [K.len, Nat.add_mul]; omega), K.len, show (j + 1) * K.size + o - K.size = j * K.size + o by rw [Nat.add_mul]; omega]
      rw [ih j o ho (by simpa using hj)]
      rfl
theorem cells_take (l : List α) (n : Nat) : K.cells (l.take n) = (K.cells l).take (n * K.size) := by
  rcases Nat.lt_or_ge n l.length with hn | hn
  · have e : K.cells l = K.cells (l.take n) ++ K.cells (l.drop n) := by rw [← cells_append, List.take_append_drop]
    have hl : (K.cells (l.take n)).length = n * K.size := by rw [cells_length, List.length_take, Nat.min_eq_left (Nat.le_of_lt hn)]
    rw [e, ← hl, List.take_left]
  · rw [List.take_of_length_le hn, List.take_of_length_le (by rw [cells_length]; exact Nat.mul_le_mul_right _ hn)]
theorem cells_drop (l : List α) (n : Nat) (hn : n ≤ l.length) : K.cells (l.drop n) = (K.cells l).drop (n * K.size) := by
  have e : K.cells l = K.cells (l.take n) ++ K.cells (l.drop n) := by rw [← cells_append, List.take_append_drop]
  have hl : (K.cells (l.take n)).length = n * K.size := by rw [cells_length, List.length_take, Nat.min_eq_left hn]
  rw [e, ← hl, List.drop_left]
end Elem

/-- Elements of one cell. -/
def oneElem {α : Type} (f : α → Value) (h : ∀ a, (f a).oneCell' = true) : Elem α := ⟨fun a => [f a], 1, by decide, fun _ => rfl, fun a u hu => by rw [List.mem_singleton.1 hu]; exact h a⟩
theorem oneElem_cells {α : Type} (f : α → Value) (h : ∀ a, (f a).oneCell' = true) (l : List α) : (oneElem f h).cells l = l.map f := by
  induction l with
  | nil => rfl
  | cons a l ih => rw [Elem.cells_cons, ih]; rfl
/-- Texts. -/
def strElem : Elem ByteArray := oneElem (fun s => .string s) (fun _ => rfl)
def intElem (k : IntKind) : Elem Int := oneElem (fun n => .int k n) (fun _ => rfl)
def boolElem : Elem Bool := oneElem (fun b => .bool b) (fun _ => rfl)

/-- What the program says of a slice type's elements. -/
structure SliceT (P : Program) (T E : TypeId) (size : Nat) : Prop where
  under : P.underlying T = some (.slice E)
  info : ∃ i z, P.info? E = some i ∧ i.zero = some z ∧ i.size = size ∧ z.cells.size = size ∧ i.bytes ≤ 100000
theorem SliceT.of {P : Program} {T E : TypeId} {size bytes : Nat} {z : Value} (hu : P.underlying T = some (.slice E)) (hi : (P.info? E).map (fun i => (i.zero, i.size, i.bytes)) = some (some z, size, bytes)) (hz : z.cells.size = size) (hb : bytes ≤ 100000) : SliceT P T E size := by
  refine ⟨hu, ?_⟩
  cases h : P.info? E with
  | none => rw [h] at hi; cases hi
  | some i =>
    rw [h] at hi
    simp only [Option.map_some, Option.some.injEq, Prod.mk.injEq] at hi
    exact ⟨i, z, rfl, hi.1, hi.2.1, hz, by rw [hi.2.2]; exact hb⟩

section
variable {α : Type} {K : Elem α} {P : Program}

/-- From cell o of block g on the elements l lie. -/
def Lies (K : Elem α) (w : World) (g o : Nat) (l : List α) : Prop := ∀ j u, (K.cells l)[j]? = some u → w.cell? ⟨g, o + j, none⟩ = some u
theorem Lies.at {w : World} {g o : Nat} {l : List α} (h : Lies K w g o l) (j i : Nat) (hi : i < K.size) (hj : j < l.length) (u : Value) (hu : (K.enc l[j])[i]? = some u) : w.cell? ⟨g, o + (j * K.size + i), none⟩ = some u :=
  h _ u (by rw [K.cells_get l j i hi hj]; exact hu)
theorem Lies.but {S : Nat → Prop} {w w' : World} {g o : Nat} {l : List α} (h : Lies K w g o l) (hb : But S w w') (hn : ¬ S g) : Lies K w' g o l := fun j u hu => hb.cell (h j u hu) hn
theorem Lies.below {B : Nat} {w w' : World} {g o : Nat} {l : List α} (h : Lies K w g o l) (hb : Below B w w') (hg : g < B) : Lies K w' g o l := fun j u hu => (hb.cell (p := ⟨g, o + j, none⟩) hg).trans (h j u hu)
theorem Lies.part {w : World} {g o : Nat} {l : List α} (h : Lies K w g o l) (n m : Nat) (hn : n ≤ l.length) : Lies K w g (o + n * K.size) ((l.drop n).take m) := by
  intro j u hu
  rw [K.cells_take, K.cells_drop l n hn] at hu
  have hlt : j < m * K.size := by
    rcases Nat.lt_or_ge j (m * K.size) with h' | h'
    · exact h'
    · rw [List.getElem?_eq_none (by rw [List.length_take]; omega)] at hu; cases hu
  rw [List.getElem?_take_of_lt hlt, List.getElem?_drop] at hu
  rw [Nat.add_assoc]
  exact h _ u hu
theorem Lies.news {w : World} {g o : Nat} {l : List α} (h : Lies K w g o l) : ∀ j u, (K.cells l)[j]? = some u → w.cell? ((⟨g, o, none⟩ : Addr).add j) = some u := by
  intro j u hu
  have e : (⟨g, o, none⟩ : Addr).add j = ⟨g, o + j, none⟩ := by
    rcases Nat.eq_zero_or_pos j with rfl | hp
    · simp [Addr.add]
    · simp [Addr.add, Nat.ne_of_gt hp]
  rw [e]
  exact h j u hu
theorem Lies.of_blk {w : World} {g : Nat} {t : TypeId} {cs : List Value} {l : List α} (h : Blk w g t cs) (he : cs = K.cells l) : Lies K w g 0 l := by
  subst he
  intro j u hu
  rw [Nat.zero_add]
  exact h.cell hu

/-- v holds the elements l in a row of its own, from block B on. -/
def Own (K : Elem α) (E : TypeId) (B : Nat) (w : World) (v : Value) (l : List α) : Prop := w.ownsRow B E K.size v l.length (K.cells l)
variable {E T : TypeId} {B : Nat} {w : World} {v : Value} {l : List α}
theorem Own.nil (K : Elem α) (E : TypeId) (B : Nat) (w : World) : Own K E B w (.slice none 0 0) [] := World.ownsRow_nil w B E K.size
theorem Own.but {S : Nat → Prop} {w' : World} (h : Own K E B w v l) (hb : But S w w') (hn : ∀ g, v.ownBlock = some g → ¬ S g) : Own K E B w' v l := by
  refine ⟨h.1, ?_⟩
  rcases h.2 with h0 | ⟨g, cap, cur, rfl, hg, hh, r⟩
  · exact .inl h0
  · exact .inr ⟨g, cap, cur, rfl, hg, by rw [hb.block g (Array.getElem?_eq_some_iff.1 hh).1 (hn g rfl)]; exact hh, r⟩
theorem Own.below {B' : Nat} {w' : World} (h : Own K E B w v l) (hb : Below B' w w') (hB : w.heap.size ≤ B') : Own K E B w' v l :=
  h.but (S := fun _ => False) ⟨hb.os, hb.tape, hb.output, hb.size, fun k hk _ => hb.block k (Nat.lt_of_lt_of_le hk hB)⟩ fun _ _ hf => hf
theorem Own.mono {B' : Nat} (h : Own K E B w v l) (hB : B' ≤ B) : Own K E B' w v l := by
  refine ⟨h.1, ?_⟩
  rcases h.2 with h0 | ⟨g, cap, cur, hv, hg, r⟩
  · exact .inl h0
  · exact .inr ⟨g, cap, cur, hv, Nat.le_trans hB hg, r⟩
theorem Own.alloc (h : Own K E B w v l) (o : Obj) : Own K E B (w.alloc o) v l := World.ownsRow.alloc h o
theorem Own.drew (h : Own K E B w v l) : Own K E B w.drew v l := h
theorem Own.drewN (h : Own K E B w v l) (n : Nat) : Own K E B (w.drewN n) v l := h
theorem Own.slice (h : Own K E B w v l) : ∃ a cap, v = .slice a l.length cap ∧ l.length ≤ cap := by
  rcases h.2 with ⟨e, h0⟩ | ⟨g, cap, cur, e, _, _, hc, _⟩
  · exact ⟨none, 0, by rw [e, h0], by omega⟩
  · exact ⟨_, cap, e, hc⟩
theorem Own.form (h : Own K E B w v l) (hn : 0 < l.length) : ∃ g cap, v = .slice (some ⟨g, 0, none⟩) l.length cap ∧ B ≤ g ∧ g < w.heap.size ∧ l.length ≤ cap := by
  rcases h.2 with ⟨_, h0⟩ | ⟨g, cap, cur, e, hg, hh, hc, _⟩
  · omega
  · exact ⟨g, cap, e, hg, (Array.getElem?_eq_some_iff.1 hh).1, hc⟩
theorem Own.block (h : Own K E B w v l) : ∀ g, v.ownBlock = some g → B ≤ g ∧ g < w.heap.size := World.ownsRow.lt h
theorem Own.lies {g n cap : Nat} (h : Own K E B w (.slice (some ⟨g, 0, none⟩) n cap) l) : Lies K w g 0 l := by
  intro j u hu
  have hn : n = l.length := by
    rcases h.2 with ⟨e, _⟩ | ⟨g', cap', cur, e, _⟩
    · cases e
    · injection e
  subst hn
  have hlt : j < l.length * K.size := by
    rcases Nat.lt_or_ge j (l.length * K.size) with h' | h'
    · exact h'
    · rw [List.getElem?_eq_none (by rw [K.cells_length]; exact h')] at hu; cases hu
  rw [Nat.zero_add, World.ownsRow.cellAt h j hlt, hu]
theorem Own.frozen {g n cap : Nat} (h : Own K E B w (.slice (some ⟨g, 0, none⟩) n cap) l) (j : Nat) : w.frozen? ⟨g, j, none⟩ = false := by
  have hn : n = l.length := by
    rcases h.2 with ⟨e, _⟩ | ⟨g', cap', cur, e, _⟩
    · cases e
    · injection e
  subst hn
  exact World.ownsRow.frozenAt h j
/-- One element's cell is stored anew: of elements of one cell. -/
theorem Own.store {α : Type} {f : α → Value} {hf : ∀ a, (f a).oneCell' = true} {E : TypeId} {B : Nat} {w : World} {l : List α} {g n cap : Nat}
    (h : Own (oneElem f hf) E B w (.slice (some ⟨g, 0, none⟩) n cap) l) (j : Nat) (x : α) : Own (oneElem f hf) E B (w.setCell ⟨g, j, none⟩ (f x)) (.slice (some ⟨g, 0, none⟩) n cap) (l.set j x) := by
  have hn : n = l.length := by
    rcases h.2 with ⟨e, _⟩ | ⟨g', cap', cur, e, _⟩
    · cases e
    · injection e
  subst hn
  have := (World.ownsRow.stored h j (f x)).1
  unfold Own
  rw [List.length_set, oneElem_cells, List.map_set]
  rw [oneElem_cells] at this
  exact this

/-- append of a row that lies anywhere. -/
theorem wp_app (ST : SliceT P T E K.size) {o : Oper} {a : Act} {K' : Act → World → Prop} {Q : Exit → Act → World → Prop} (s x : Operand)
    (ho : o.op = .call { callee := .builtin .append, args := #[s, x], argTypes := #[T, T] })
    (hs : a.eval s = v) (hown : Own K E B w v l) (hB : B ≤ w.heap.size)
    (g d m c : Nat) (ms : List α) (hx : a.eval x = .slice (some ⟨g, d, none⟩) m c) (hm : ms.length = m) (hnews : Lies K w g d ms) (hlen : l.length + m ≤ 1000000000)
    (h : ∀ v' w', Own K E B w' v' (l ++ ms) → w.grownBy w' v.ownBlock → K' (a.put o.dst v') w') : o.wp P a w K' Q := by
  obtain ⟨i, z, hi, hz, hsize, hzs, hby⟩ := ST.info
  refine wp_append_own w s x T ho B E i z K.size i.bytes ST.under hi hz hsize rfl hzs K.pos v l.length (K.cells l) hs hown ⟨g, d, none⟩ m c (K.cells ms) hx (by rw [K.cells_length, hm]) hnews.news (K.cells_one _) (by unfold maxLen; omega) ?_ hB ?_
  · exact Nat.le_trans (Nat.mul_le_mul hlen hby) (by decide)
  · intro v' w' h1 h2 _
    refine h v' w' ?_ h2
    unfold Own
    rw [List.length_append, K.cells_append, hm]
    exact h1
theorem wpList_app (ST : SliceT P T E K.size) {ops : Array Oper} {rest : List Oper} {o : Oper} {a : Act} {Q : Exit → Act → World → Prop} (hgd : o.guard = none) (s x : Operand)
    (ho : o.op = .call { callee := .builtin .append, args := #[s, x], argTypes := #[T, T] })
    (hs : a.eval s = v) (hown : Own K E B w v l) (hB : B ≤ w.heap.size)
    (g d m c : Nat) (ms : List α) (hx : a.eval x = .slice (some ⟨g, d, none⟩) m c) (hm : ms.length = m) (hnews : Lies K w g d ms) (hlen : l.length + m ≤ 1000000000)
    (h : ∀ v' w', Own K E B w' v' (l ++ ms) → w.grownBy w' v.ownBlock → wpList P ops Q rest (a.put o.dst v') w') : wpList P ops Q (o :: rest) a w :=
  wpList_plain hgd fun _ hK => wp_app ST s x ho hs hown hB g d m c ms hx hm hnews hlen fun v' w' h1 h2 => hK _ _ (h v' w' h1 h2)
/-- append of an owned row, empty or not. -/
theorem wp_app_own (ST : SliceT P T E K.size) {o : Oper} {a : Act} {K' : Act → World → Prop} {Q : Exit → Act → World → Prop} (s x : Operand)
    (ho : o.op = .call { callee := .builtin .append, args := #[s, x], argTypes := #[T, T] })
    (hs : a.eval s = v) (hown : Own K E B w v l) (hB : B ≤ w.heap.size)
    (vx : Value) (Bx : Nat) (ms : List α) (hx : a.eval x = vx) (hownx : Own K E Bx w vx ms) (hlen : l.length + ms.length ≤ 1000000000)
    (h : ∀ v' w', Own K E B w' v' (l ++ ms) → w.grownBy w' v.ownBlock → K' (a.put o.dst v') w') : o.wp P a w K' Q := by
  rcases hownx.2 with ⟨e, h0⟩ | ⟨g, cap, cur, e, _⟩
  · obtain ⟨i, z, hi, hz, hsize, hzs, hby⟩ := ST.info
    have hms : ms = [] := List.eq_nil_of_length_eq_zero h0
    have hr := run_append_owned_none (P := P) w B T o.type E i K.size ST.under hi v l.length (K.cells l) hown
    unfold Oper.wp execOp
    rw [e] at hx
    simp only [ho, resolve, invoke, builtin, Sem.run_bind, Sem.run_pure, Result.andThen_ok, List.map_toArray, List.map_cons, List.map_nil, hs, hx, hr]
    refine h v w ?_ ⟨rfl, rfl, rfl, Nat.le_refl _, fun _ _ _ => rfl⟩
    rw [hms, List.append_nil]
    exact hown
  · rw [e] at hx hownx
    exact wp_app ST s x ho hs hown hB g 0 ms.length cap ms hx rfl hownx.lies hlen h
/-- make([]T, n, c) with n = 0, and make([]T, n). -/
theorem wpList_make0 (ST : SliceT P T E K.size) {ops : Array Oper} {rest : List Oper} {o : Oper} {a : Act} {Q : Exit → Act → World → Prop} (hgd : o.guard = none) (s x : Operand)
    (ho : o.op = .makeSlice T s x) (B : Nat) (hB : B ≤ w.heap.size) (C : Int) (c : Nat) (hs : a.eval s = .int .i64 0) (hx : a.eval x = .int .i64 C) (hC : C = c) (hc : c ≤ 1000000000)
    (h : ∀ w', Own K E B w' (.slice (some ⟨w.heap.size, 0, none⟩) 0 c) [] → w.grownBy w' none → wpList P ops Q rest (a.put o.dst (.slice (some ⟨w.heap.size, 0, none⟩) 0 c)) w') : wpList P ops Q (o :: rest) a w := by
  obtain ⟨i, z, hi, hz, hsize, hzs, hby⟩ := ST.info
  refine wpList_make_own _ hgd s x T ho B E i z K.size ST.under hi hz hsize _ _ _ c hs hx hC ?_ (by unfold maxLen; omega) hB h
  exact Nat.le_trans (Nat.mul_le_mul hby hc) (by decide)
end
end Go.Proofs.YtahnhhhhfioibaaGreatDoor

namespace Go.Proofs.YtahnhhhhfioibaaGreatDoor
open Go.RowKit

section
variable {α : Type} {K : Elem α} {P : Program} {E T : TypeId} {B : Nat} {w : World} {v : Value} {l : List α}
theorem wpList_app_own (ST : SliceT P T E K.size) {ops : Array Oper} {rest : List Oper} {o : Oper} {a : Act} {Q : Exit → Act → World → Prop} (hgd : o.guard = none) (s x : Operand)
    (ho : o.op = .call { callee := .builtin .append, args := #[s, x], argTypes := #[T, T] })
    (hs : a.eval s = v) (hown : Own K E B w v l) (hB : B ≤ w.heap.size)
    (vx : Value) (Bx : Nat) (ms : List α) (hx : a.eval x = vx) (hownx : Own K E Bx w vx ms) (hlen : l.length + ms.length ≤ 1000000000)
    (h : ∀ v' w', Own K E B w' v' (l ++ ms) → w.grownBy w' v.ownBlock → wpList P ops Q rest (a.put o.dst v') w') : wpList P ops Q (o :: rest) a w :=
  wpList_plain hgd fun _ hK => wp_app_own ST s x ho hs hown hB vx Bx ms hx hownx hlen fun v' w' h1 h2 => hK _ _ (h v' w' h1 h2)
end

theorem But.setRow {S : Nat → Prop} {a w : World} (h : But S a w) (g : Nat) (cs : Array Value) (hp : g < a.heap.size → S g) : But S a (w.setRow g cs) :=
  h.trans (T := fun k => k = g) ⟨rfl, rfl, rfl, by simp, fun k _ hn => setRow_other _ _ _ _ hn⟩ fun i hi e => by subst e; exact hp hi
def bcell (b : UInt8) : Value := .int .u8 (b.toNat : Int)
theorem below_drawn (w : World) (m : Nat) : Below w.heap.size w (w.drewN m) := ⟨rfl, rfl, rfl, Nat.le_refl _, fun _ _ => rfl⟩
def boolOf : Value → Nat | .bool true => 0 | _ => 1
/-- A text of these bytes. -/
def bs (l : List UInt8) : ByteArray := ⟨l.toArray⟩
theorem bs_size (l : List UInt8) : (bs l).size = l.length := by unfold bs; simp [ByteArray.size]
theorem bs_append (l m : List UInt8) : bs l ++ bs m = bs (l ++ m) := by
  apply ByteArray.ext
  apply Array.ext'
  simp [bs]
theorem bs_data (s : ByteArray) : bs s.data.toList = s := rfl
theorem bs_list (l : List UInt8) : (bs l).data.toList = l := rfl
theorem bs_toList (a : List UInt8) : (bs a).toList = a := by
  rw [ByteArray.toList_eq]; rfl
theorem ext_drop (t : ByteArray) (n : Nat) : (t.extract n t.size).data.toList = t.data.toList.drop n := by
  rw [ByteArray.data_extract, Array.toList_extract, List.extract_eq_take_drop]
  exact List.take_of_length_le (by rw [List.length_drop, Array.length_toList]; exact Nat.le_refl _)
theorem ext_take (t : ByteArray) (n : Nat) : t.extract 0 n = bs (t.data.toList.take n) := by
  apply ByteArray.ext
  apply Array.ext'
  rw [ByteArray.data_extract, Array.toList_extract, List.extract_eq_take_drop]
  rfl
theorem bs_start (x y : List UInt8) : (bs (x ++ y)).extract 0 (bs x).size = bs x := by
  rw [ext_take, bs_size, bs_list, List.take_left]
theorem flatten_take_succ (C : List (List UInt8)) (k : Nat) (hk : k < C.length) : (C.take (k + 1)).flatten = (C.take k).flatten ++ C[k] := by
  rw [List.take_succ_eq_append_getElem hk, List.flatten_append, List.flatten_singleton]
theorem flatten_take_le (C : List (List UInt8)) (k : Nat) : (C.take k).flatten.length ≤ C.flatten.length := by
  conv => rhs; rw [← List.take_append_drop k C]
  rw [List.flatten_append, List.length_append]; omega
theorem flatten_take_succ' (C : List (List UInt8)) (k : Nat) (hk : k < C.length) : ((C.take (k + 1)).flatten).length = ((C.take k).flatten).length + C[k].length := by
  rw [flatten_take_succ C k hk, List.length_append]
theorem stringST : SliceT Tryz.prog 34 9 strElem.size := SliceT.of (size := 1) (bytes := 16) (z := .string .empty) Tryz.underlying34 (by kernel_rfl) rfl (by decide)
/-- v is a row of the call's own, of these texts. -/
abbrev OwnS (B : Nat) (w : World) (v : Value) (l : List (List UInt8)) : Prop := Own strElem 9 B w v (l.map bs)
theorem OwnS.butOwn {B : Nat} {w w' : World} {v : Value} {l : List (List UInt8)} {g : Nat} (h : OwnS B w v l) (hb : But (· = g) w w') (hg : g < B) : OwnS B w' v l :=
  h.but hb (fun g' hg' e => by have := (h.block g' hg').1; omega)
theorem OwnS.below' {B B' : Nat} {w w' : World} {v : Value} {l : List (List UInt8)} (h : OwnS B w v l) (hb : Below B' w w') (hB : w.heap.size ≤ B') : OwnS B w' v l := Own.below h hb hB
theorem lies_new (w : World) (x : ByteArray) : Lies strElem (w.alloc (.cells #[.string x] 9)) w.heap.size 0 [x] :=
  Lies.of_blk (Blk.new w #[.string x] 9) rfl
/-- v reads as the texts l. -/
def Reads (w : World) (v : Value) (l : List (List UInt8)) : Prop :=
  ∃ (a : Option Addr) (cap : Nat), v = .slice a l.length cap ∧ l.length ≤ cap ∧ ∀ i (hi : i < l.length), ∃ g o, a = some ⟨g, o, none⟩ ∧ g < w.heap.size ∧ ∀ j (hj : j < l.length), w.cell? ⟨g, o + j, none⟩ = some (.string (bs l[j]))
theorem OwnS.reads {B : Nat} {w : World} {v : Value} {l : List (List UInt8)} (h : OwnS B w v l) : Reads w v l := by
  obtain ⟨a, cap, e, hc⟩ := Own.slice h
  rw [List.length_map] at e hc
  refine ⟨a, cap, e, hc, fun i hi => ?_⟩
  obtain ⟨g, cap', e', hB, hg, _⟩ := Own.form h (by rw [List.length_map]; omega)
  rw [List.length_map] at e'
  rw [e] at e'
  injection e' with e1 _ e3
  subst e1 e3 e
  refine ⟨g, 0, rfl, hg, fun j hj => ?_⟩
  have hl := Own.lies (show Own strElem 9 B w (.slice (some ⟨g, 0, none⟩) l.length cap) (l.map bs) from h)
  refine hl j _ ?_
  rw [show strElem.cells (l.map bs) = (l.map bs).map (fun s => Value.string s) from oneElem_cells _ _ _]
  simp [hj]
theorem Reads.below {w w' : World} {v : Value} {l : List (List UInt8)} (h : Reads w v l) (hb : Below w.heap.size w w') : Reads w' v l := by
  obtain ⟨a, cap, e, hc, hi⟩ := h
  refine ⟨a, cap, e, hc, fun i hil => ?_⟩
  obtain ⟨g, o, e1, e2, e3⟩ := hi i hil
  exact ⟨g, o, e1, Nat.lt_of_lt_of_le e2 hb.size, fun j hj => (hb.cell (p := ⟨g, o + j, none⟩) e2).trans (e3 j hj)⟩
theorem Reads.cellAt {w : World} {v : Value} {l : List (List UInt8)} (h : Reads w v l) {k : Nat} (hk : k < l.length) :
    ∃ g o cap, v = .slice (some ⟨g, o, none⟩) l.length cap ∧ l.length ≤ cap ∧ g < w.heap.size ∧ ∀ j (hj : j < l.length), w.cell? ⟨g, o + j, none⟩ = some (.string (bs l[j])) := by
  obtain ⟨a, cap, e, hc, hi⟩ := h
  obtain ⟨g, o, rfl, hg, hx⟩ := hi k hk
  exact ⟨g, o, cap, e, hc, hg, hx⟩
/-- l[:k]. -/
theorem Reads.upto {w : World} {g o n cap : Nat} {l : List (List UInt8)} (k : Nat) (hn : n = l.length) (hk : k ≤ n) (hc : n ≤ cap) (hg : g < w.heap.size)
    (hx : ∀ j (hj : j < l.length), w.cell? ⟨g, o + j, none⟩ = some (.string (bs l[j]))) : Reads w (.slice (some ⟨g, o, none⟩) k cap) (l.take k) := by
  subst hn
  refine ⟨_, cap, by rw [List.length_take, Nat.min_eq_left hk], by rw [List.length_take]; omega, fun i _ => ⟨g, o, rfl, hg, fun j hj => ?_⟩⟩
  rw [List.getElem_take]
  exact hx j (by rw [List.length_take] at hj; omega)
theorem info_of {P : Program} {E : TypeId} {size bytes : Nat} {z : Value} (hi : (P.info? E).map (fun i => (i.zero, i.size, i.bytes)) = some (some z, size, bytes)) :
    ∃ i, P.info? E = some i ∧ i.zero = some z ∧ i.size = size ∧ i.bytes = bytes := by
  cases h : P.info? E with
  | none => rw [h] at hi; cases hi
  | some i =>
    rw [h] at hi
    simp only [Option.map_some, Option.some.injEq, Prod.mk.injEq] at hi
    exact ⟨i, rfl, hi.1, hi.2.1, hi.2.2⟩
theorem made_one (v : Value) (n : Nat) : madeCells #[v] n = (List.replicate n v).toArray := by
  apply Array.ext
  · simp [madeCells]
  · intro k h1 h2
    simp [madeCells, Nat.mod_one]
/-- make([]byte, n): so many noughts. -/
theorem make_zeros (w : World) (n : Nat) (hn : n ≤ 1000000) : (Instr.makeSlice 110 (.int .i64 n) (.int .i64 n)).run Tryz.prog w = .ok (.slice (some ⟨w.heap.size, 0, none⟩) n n) (w.alloc (.cells (List.replicate n (.int .u8 0)).toArray 5)) := by
  obtain ⟨i, hi, hz, hs, hb⟩ := info_of (P := Tryz.prog) (E := 5) (size := 1) (bytes := 1) (z := .int .u8 0) (by kernel_rfl)
  have := run_make (P := Tryz.prog) w 110 5 i (.int .u8 0) Tryz.underlying110 hi hz .i64 .i64 n n (by omega) (by omega) (by rw [hb]; omega) (by omega)
  rw [this, hs, Int.toNat_natCast, Nat.mul_one, show (Value.int IntKind.u8 0).cells = #[.int .u8 0] from rfl, made_one]
/-- string of them. -/
theorem zeros_back (w : World) (n c : Nat) : (convert 110 9 (.slice (some ⟨w.heap.size, 0, none⟩) n c)).run Tryz.prog (w.alloc (.cells (List.replicate n (.int .u8 0)).toArray 5)) = .ok (.string (bs (List.replicate n 0))) (w.alloc (.cells (List.replicate n (.int .u8 0)).toArray 5)) := by
  have hblk := Blk.new w (List.replicate n (.int .u8 0)).toArray 5
  have := run_convert_bytes_back (P := Tryz.prog) (w.alloc (.cells (List.replicate n (.int .u8 0)).toArray 5)) 110 9 5 ⟨w.heap.size, 0, none⟩ c (List.replicate n 0) (by kernel_rfl) (by kernel_rfl) (by kernel_rfl) (by
    intro j hj
    rw [show (⟨w.heap.size, 0, none⟩ : Addr).add j = ⟨w.heap.size, j, none⟩ by unfold Addr.add; split <;> simp_all]
    refine hblk.cell ?_
    rw [List.length_replicate] at hj
    rw [List.getElem?_replicate, if_pos hj, List.getElem_replicate]
    rfl)
  rw [List.length_replicate] at this
  exact this
end Go.Proofs.YtahnhhhhfioibaaGreatDoor

namespace Go.Proofs.YtahnhhhhfioibaaGreatDoor
namespace Dk

/-- Writes, one behind the other. -/
def puts {α : Type} (L : List α) (ws : List (Nat × α)) : List α := ws.foldl (fun L x => L.set x.1 x.2) L
theorem puts_nil {α : Type} (L : List α) : puts L [] = L := rfl
theorem puts_cons {α : Type} (L : List α) (x : Nat × α) (ws : List (Nat × α)) : puts L (x :: ws) = puts (L.set x.1 x.2) ws := rfl
theorem puts_append {α : Type} (L : List α) (a b : List (Nat × α)) : puts L (a ++ b) = puts (puts L a) b := by simp [puts]
theorem puts_one {α : Type} (L : List α) (i : Nat) (x : α) : puts L [(i, x)] = L.set i x := rfl
theorem puts_length {α : Type} (ws : List (Nat × α)) : ∀ L : List α, (puts L ws).length = L.length := by
  induction ws with
  | nil => intro L; rfl
  | cons x ws ih => intro L; rw [puts_cons, ih, List.length_set]
theorem puts_map {α β : Type} (T : α → β) (ws : List (Nat × α)) : ∀ L : List α, (puts L ws).map T = puts (L.map T) (ws.map fun x => (x.1, T x.2)) := by
  induction ws with
  | nil => intro L; rfl
  | cons x ws ih => intro L; rw [puts_cons, ih, List.map_set, List.map_cons, puts_cons]
theorem puts_mem {α : Type} (ws : List (Nat × α)) : ∀ (L : List α) (c : α), c ∈ puts L ws → c ∈ L ∨ ∃ i, (i, c) ∈ ws := by
  induction ws with
  | nil => intro L c h; exact .inl h
  | cons x ws ih =>
    intro L c h
    rcases ih _ _ h with h | ⟨i, h⟩
    · rcases List.mem_or_eq_of_mem_set h with h | rfl
      · exact .inl h
      · exact .inr ⟨x.1, List.mem_cons_self⟩
    · exact .inr ⟨i, List.mem_cons_of_mem _ h⟩
theorem puts_other {α : Type} (ws : List (Nat × α)) (j : Nat) : ∀ L : List α, (∀ x ∈ ws, x.1 ≠ j) → (puts L ws)[j]? = L[j]? := by
  induction ws with
  | nil => intro L _; rfl
  | cons x ws ih =>
    intro L h
    rw [puts_cons, ih _ (fun y hy => h y (List.mem_cons_of_mem _ hy)), List.getElem?_set_ne (h x List.mem_cons_self)]
theorem puts_take {α : Type} (L : List α) (ws : List (Nat × α)) (k : Nat) (hk : k < ws.length) : puts L (ws.take (k + 1)) = (puts L (ws.take k)).set (ws[k]).1 (ws[k]).2 := by
  rw [List.take_succ_eq_append_getElem hk, puts_append]; rfl

/-- Of the writes those for which keep says true. -/
def kept {α : Type} : List Bool → List α → List α
  | _, [] => []
  | [], _ :: _ => []
  | b :: k, w :: ws => if b then w :: kept k ws else kept k ws
theorem kept_nil {α : Type} (k : List Bool) : kept k ([] : List α) = [] := by cases k <;> rfl
theorem kept_none {α : Type} (ws : List α) : kept [] ws = [] := by cases ws <;> rfl
theorem kept_map {α β : Type} (T : α → β) : ∀ (k : List Bool) (ws : List α), kept k (ws.map T) = (kept k ws).map T
  | k, [] => by simp [kept_nil]
  | [], _ :: _ => rfl
  | true :: k, w :: ws => by simp [kept, kept_map T k ws]
  | false :: k, w :: ws => by simp [kept, kept_map T k ws]
theorem kept_mem {α : Type} : ∀ (k : List Bool) (ws : List α) (x : α), x ∈ kept k ws → x ∈ ws
  | k, [], x, h => by rw [kept_nil] at h; exact h
  | [], _ :: _, x, h => by cases h
  | true :: k, w :: ws, x, h => by
    simp only [kept, if_true, List.mem_cons] at h
    rcases h with rfl | h
    · exact List.mem_cons_self
    · exact List.mem_cons_of_mem _ (kept_mem k ws x h)
  | false :: k, w :: ws, x, h => List.mem_cons_of_mem _ (kept_mem k ws x (by simpa [kept] using h))
theorem kept_take {α : Type} : ∀ (keep : List Bool) (ws : List α) (k : Nat) (hk : k < ws.length), kept keep (ws.take (k + 1)) = kept keep (ws.take k) ++ (if keep.getD k false then [ws[k]] else [])
  | keep, [], k, hk => by simp at hk
  | [], w :: ws, k, hk => by
    rw [kept_none, kept_none]; simp
  | b :: keep, w :: ws, 0, hk => by
    cases b <;> simp [kept, kept_nil]
  | b :: keep, w :: ws, k + 1, hk => by
    have := kept_take keep ws k (by simpa using hk)
    rw [List.take_succ_cons, List.take_succ_cons]
    cases b <;> simp [kept, this]
theorem kept_length {α : Type} : ∀ (keep : List Bool) (ws : List α), (kept keep ws).length ≤ ws.length
  | k, [] => by rw [kept_nil]; exact Nat.le_refl _
  | [], _ :: _ => Nat.zero_le _
  | true :: k, w :: ws => by simp only [kept, if_true, List.length_cons]; have := kept_length k ws; omega
  | false :: k, w :: ws => by have := kept_length k ws; simp only [kept, List.length_cons]; simpa using Nat.le_succ_of_le this

/-- L's places that writes are of are set to what stands there in M. -/
def setOne {α : Type} (M L : List α) (x : Nat × α) : List α := match M[x.1]? with | some c => L.set x.1 c | none => L
theorem setOne_lt {α : Type} (M L : List α) (x : Nat × α) (h : x.1 < M.length) : setOne M L x = L.set x.1 M[x.1] := by
  unfold setOne; rw [List.getElem?_eq_getElem h]
theorem setOne_ge {α : Type} (M L : List α) (x : Nat × α) (h : M.length ≤ x.1) : setOne M L x = L := by
  unfold setOne; rw [List.getElem?_eq_none h]
def sets {α : Type} (M L : List α) (ws : List (Nat × α)) : List α := ws.foldl (setOne M) L
theorem sets_take {α : Type} (M L : List α) (ws : List (Nat × α)) (k : Nat) (hk : k < ws.length) (h : (ws[k]).1 < M.length) : sets M L (ws.take (k + 1)) = (sets M L (ws.take k)).set (ws[k]).1 (M[(ws[k]).1]) := by
  rw [List.take_succ_eq_append_getElem hk]
  unfold sets
  rw [List.foldl_append, List.foldl_cons, List.foldl_nil, setOne_lt _ _ _ h]
theorem sets_length {α : Type} (M : List α) (ws : List (Nat × α)) : ∀ L : List α, (sets M L ws).length = L.length := by
  induction ws with
  | nil => intro L; rfl
  | cons x ws ih =>
    intro L
    show (sets M (setOne M L x) ws).length = _
    rw [ih]
    unfold setOne
    split <;> simp
theorem sets_at {α : Type} (M : List α) (ws : List (Nat × α)) (j : Nat) : ∀ L : List α, L.length = M.length → ((∃ x ∈ ws, x.1 = j) ∨ L[j]? = M[j]?) → (sets M L ws)[j]? = M[j]? := by
  induction ws with
  | nil =>
    intro L _ h
    rcases h with ⟨x, h, _⟩ | h
    · cases h
    · exact h
  | cons x ws ih =>
    intro L hl h
    show (sets M (setOne M L x) ws)[j]? = _
    rcases Nat.lt_or_ge x.1 M.length with hlt | hge
    · rw [setOne_lt _ _ _ hlt]
      refine ih _ (by simpa using hl) ?_
      by_cases he : x.1 = j
      · right
        subst he
        simp [hl, hlt]
      · rcases h with ⟨y, hy, e⟩ | h
        · rcases List.mem_cons.1 hy with rfl | hy
          · exact absurd e he
          · exact .inl ⟨y, hy, e⟩
        · right
          rw [List.getElem?_set_ne he]; exact h
    · rw [setOne_ge _ _ _ hge]
      refine ih _ hl ?_
      rcases h with ⟨y, hy, e⟩ | h
      · rcases List.mem_cons.1 hy with rfl | hy
        · right
          subst e
          rw [List.getElem?_eq_none hge, List.getElem?_eq_none (by omega)]
        · exact .inl ⟨y, hy, e⟩
      · exact .inr h
/-- Behind a fall what is latest is what is firm. -/
theorem sets_all {α : Type} (P : List α) (ws ks : List (Nat × α)) (hk : ∀ x ∈ ks, x ∈ ws) : sets (puts P ks) (puts P ws) ws = puts P ks := by
  refine List.ext_getElem? fun j => ?_
  refine sets_at _ ws j _ (by rw [puts_length, puts_length]) ?_
  by_cases h : ∃ x ∈ ws, x.1 = j
  · exact .inl h
  · right
    have h' : ∀ x ∈ ws, x.1 ≠ j := fun x hx e => h ⟨x, hx, e⟩
    rw [puts_other ws j _ h', puts_other ks j _ (fun x hx => h' x (hk x hx))]

theorem setOne_map {α β : Type} (T : α → β) (M L : List α) (x : Nat × α) : (setOne M L x).map T = setOne (M.map T) (L.map T) (x.1, T x.2) := by
  unfold setOne
  rw [List.getElem?_map]
  cases M[x.1]? with
  | none => rfl
  | some c => simp
theorem sets_map {α β : Type} (T : α → β) (M : List α) (ws : List (Nat × α)) : ∀ L : List α, (sets M L ws).map T = sets (M.map T) (L.map T) (ws.map fun x => (x.1, T x.2)) := by
  induction ws with
  | nil => intro L; rfl
  | cons x ws ih =>
    intro L
    show (sets M (setOne M L x) ws).map T = _
    rw [ih, setOne_map]
    rfl
theorem sets_mem {α : Type} (M : List α) (ws : List (Nat × α)) : ∀ (L : List α) (c : α), c ∈ sets M L ws → c ∈ L ∨ c ∈ M := by
  induction ws with
  | nil => intro L c h; exact .inl h
  | cons x ws ih =>
    intro L c h
    rcases ih _ _ h with h | h
    · unfold setOne at h
      cases e : M[x.1]? with
      | none => rw [e] at h; exact .inl h
      | some y =>
        rw [e] at h
        rcases List.mem_or_eq_of_mem_set h with h | rfl
        · exact .inl h
        · exact .inr (List.mem_of_getElem? e)
    · exact .inr h

/-! ### The disk. -/
structure Disk where
  firm : List (List UInt8)
  loose : List (Nat × List UInt8)
  fuel : Int
  off : Bool

def full (s : List UInt8) : List UInt8 := s ++ List.replicate (512 - s.length) 0
theorem full_length (s : List UInt8) (h : s.length ≤ 512) : (full s).length = 512 := by simp [full]; omega
def fresh (n : Nat) : Disk := ⟨List.replicate n (full []), [], -1, false⟩
def Disk.now (d : Disk) : List (List UInt8) := puts d.firm d.loose
def Disk.burnt (d : Disk) : Disk := { d with fuel := if 0 < d.fuel then d.fuel - 1 else d.fuel }
def Disk.dead (d : Disk) : Disk := { d with off := true }
def Disk.has (d : Disk) (i : Int) : Bool := decide (0 ≤ i) && decide (i < d.firm.length)
/-- What Read answers: a text and a number. -/
def Disk.read (d : Disk) (i : Int) : List UInt8 × Int :=
  if d.off then ([], 3) else if d.has i then (d.now.getD i.toNat [], 0) else ([], 2)
def Disk.write (d : Disk) (i : Int) (s : List UInt8) : Int × Disk :=
  if d.off then (3, d) else if !d.has i then (2, d) else if 512 < s.length then (5, d) else if d.fuel = 0 then (3, d.dead)
  else (0, { d.burnt with loose := d.loose ++ [(i.toNat, full s)] })
def Disk.flush (d : Disk) : Int × Disk :=
  if d.off then (3, d) else if d.fuel = 0 then (3, d.dead) else (0, { d.burnt with firm := d.now, loose := [] })
def Disk.fall (d : Disk) (keep : List Bool) : Disk := ⟨puts d.firm (kept keep d.loose), [], -1, false⟩
def Disk.fueled (d : Disk) (n : Int) : Disk := { d with fuel := max n (-1) }
end Dk
end Go.Proofs.YtahnhhhhfioibaaGreatDoor

namespace Go.Proofs.YtahnhhhhfioibaaGreatDoor
open Go.RowKit

section
variable {P : Program}
theorem run_append_where (w : World) (base : Nat) (t ty e : TypeId) (i : TypeInfo) (z : Value) (size bytes : Nat) (ht : P.underlying t = some (.slice e)) (hi : P.info? e = some i) (hz : i.zero = some z)
    (hsize : i.size = size) (hby : i.bytes = bytes) (hzs : z.cells.size = size) (hsz : 0 < size)
    (v : Value) (n : Nat) (xs : List Value) (hown : w.ownsRow base e size v n xs)
    (a : Addr) (m c : Nat) (news : List Value) (hl : news.length = m * size) (hnews : ∀ j u, news[j]? = some u → w.cell? (a.add j) = some u) (h1 : ∀ u ∈ news, u.oneCell' = true)
    (h63 : n + m ≤ maxLen) (hbytes : (n + m) * bytes ≤ 140737488355328) (hbase : base ≤ w.heap.size) :
    ∃ v' w', (Builtin.append_ #[t, t] ty #[v, .slice (some a) m c]).run P w = .ok v' w' ∧ w'.ownsRow base e size v' (n + m) (xs ++ news) ∧ w.grownBy w' v.ownBlock ∧
      (v'.ownBlock = v.ownBlock ∨ ∀ k, v'.ownBlock = some k → w.heap.size ≤ k) := by
  obtain ⟨v', w', hr, h2, h3, _⟩ := run_append_own (P := P) w base t ty e i z size bytes ht hi hz hsize hby hzs hsz v n xs hown a m c news hl hnews h1 h63 hbytes hbase
  refine ⟨v', w', hr, h2, h3, ?_⟩
  have hown' := hown
  rcases hown.2 with ⟨rfl, rfl⟩ | ⟨g, cap, cur, rfl, hbg, hg, hnc, hcm, hcs, htake⟩
  · obtain ⟨v2, w2, hr2, h22, _⟩ := run_append_own (P := P) w w.heap.size t ty e i z size bytes ht hi hz hsize hby hzs hsz (.slice none 0 0) 0 xs ⟨hown.1, .inl ⟨rfl, rfl⟩⟩ a m c news hl hnews h1 h63 hbytes (Nat.le_refl _)
    rw [hr] at hr2
    injection hr2 with e1 e2
    subst e1 e2
    exact .inr fun k hk => (h22.lt k hk).1
  · by_cases hroom : n + m ≤ cap
    · obtain ⟨w2, hr2, _⟩ := run_append_fits (P := P) w base t ty e i size ht hi hsize g n cap xs hown' a m c news hl hnews h1 hroom
      rw [hr] at hr2
      injection hr2 with e1 e2
      subst e1
      exact .inl rfl
    · subst hsize hby
      have holds : ∀ j u, xs[j]? = some u → w.cell? ((⟨g, 0, none⟩ : Addr).add j) = some u := hown.cells (g := g) rfl
      have hsmall : n + m ≤ 9223372036854775807 := by simp only [maxLen] at h63; omega
      have hr2 := run_append_grow (P := P) w t ty e i z ht hi hz ⟨g, 0, none⟩ n cap xs hown.1 holds a m c news hl hnews (by omega) (by omega) (growslice_fits (by omega) hbytes)
      rw [hr] at hr2
      injection hr2 with e1 e2
      subst e1
      refine .inr fun k hk => ?_
      simp [Value.ownBlock] at hk
      omega
variable {α : Type} {K : Elem α} {E T : TypeId} {B : Nat} {w : World} {v : Value} {l : List α}
/-- append of a row that lies anywhere; where the row lies then: where it lay, or in a new block. -/
theorem wp_app2 (ST : SliceT P T E K.size) {o : Oper} {a : Act} {K' : Act → World → Prop} {Q : Exit → Act → World → Prop} (s x : Operand)
    (ho : o.op = .call { callee := .builtin .append, args := #[s, x], argTypes := #[T, T] })
    (hs : a.eval s = v) (hown : Own K E B w v l) (hB : B ≤ w.heap.size)
    (g d m c : Nat) (ms : List α) (hx : a.eval x = .slice (some ⟨g, d, none⟩) m c) (hm : ms.length = m) (hnews : Lies K w g d ms) (hlen : l.length + m ≤ 1000000000)
    (h : ∀ v' w', Own K E B w' v' (l ++ ms) → w.grownBy w' v.ownBlock → (v'.ownBlock = v.ownBlock ∨ ∀ k, v'.ownBlock = some k → w.heap.size ≤ k) → K' (a.put o.dst v') w') : o.wp P a w K' Q := by
  obtain ⟨i, z, hi, hz, hsize, hzs, hby⟩ := ST.info
  obtain ⟨v', w', hr, h2, h3, h4⟩ := run_append_where (P := P) w B T o.type E i z K.size i.bytes ST.under hi hz hsize rfl hzs K.pos v l.length (K.cells l) hown ⟨g, d, none⟩ m c (K.cells ms) (by rw [K.cells_length, hm]) hnews.news (K.cells_one _) (by unfold maxLen; omega) (Nat.le_trans (Nat.mul_le_mul hlen hby) (by decide)) hB
  unfold Oper.wp execOp
  simp only [ho, resolve, invoke, builtin, Sem.run_bind, Sem.run_pure, Result.andThen_ok, List.map_toArray, List.map_cons, List.map_nil, hs, hx, hr]
  refine h v' w' ?_ h3 h4
  unfold Own
  rw [List.length_append, K.cells_append, hm]
  exact h2
theorem wpList_app2 (ST : SliceT P T E K.size) {ops : Array Oper} {rest : List Oper} {o : Oper} {a : Act} {Q : Exit → Act → World → Prop} (hgd : o.guard = none) (s x : Operand)
    (ho : o.op = .call { callee := .builtin .append, args := #[s, x], argTypes := #[T, T] })
    (hs : a.eval s = v) (hown : Own K E B w v l) (hB : B ≤ w.heap.size)
    (g d m c : Nat) (ms : List α) (hx : a.eval x = .slice (some ⟨g, d, none⟩) m c) (hm : ms.length = m) (hnews : Lies K w g d ms) (hlen : l.length + m ≤ 1000000000)
    (h : ∀ v' w', Own K E B w' v' (l ++ ms) → w.grownBy w' v.ownBlock → (v'.ownBlock = v.ownBlock ∨ ∀ k, v'.ownBlock = some k → w.heap.size ≤ k) → wpList P ops Q rest (a.put o.dst v') w') : wpList P ops Q (o :: rest) a w :=
  wpList_plain hgd fun _ hK => wp_app2 ST s x ho hs hown hB g d m c ms hx hm hnews hlen fun v' w' h1 h2 h3 => hK _ _ (h v' w' h1 h2 h3)
end
end Go.Proofs.YtahnhhhhfioibaaGreatDoor

namespace Go.Proofs.YtahnhhhhfioibaaGreatDoor
open Go.RowKit

theorem ret_int' {k : IntKind} {a b : Int} (h : a = b) : Ending.returned (Value.int k a) = .returned (.int k b) := by rw [h]
theorem ret_bool' {a b : Bool} (h : a = b) : Ending.returned (Value.bool a) = .returned (.bool b) := by rw [h]

section
variable {α β : Type} {K : Elem α} {K' : Elem β} {E E' T : TypeId} {B B' : Nat} {w : World} {v v' : Value} {l : List α} {l' : List β}
theorem Own.typed (h : Own K E B w v l) {k : Nat} (hk : v.ownBlock = some k) : ∃ cur, w.heap[k]? = some (.cells cur E (0, 0)) := by
  rcases h.2 with ⟨rfl, _⟩ | ⟨g, cap, cur, rfl, _, hh, _⟩
  · simp [Value.ownBlock] at hk
  · simp [Value.ownBlock] at hk
    subst hk
    exact ⟨cur, hh⟩
theorem Own.ne_blk (h : Own K E B w v l) {g : Nat} {t : TypeId} {cs : List Value} (hb : Blk w g t cs) (ht : E ≠ t) : v.ownBlock ≠ some g := by
  intro e
  obtain ⟨cur, hc⟩ := h.typed e
  unfold Blk at hb
  rw [hb] at hc
  injection hc with hc
  injection hc with _ hc
  exact ht hc.symm
theorem Own.ne_own (h : Own K E B w v l) (h' : Own K' E' B' w v' l') (ht : E ≠ E') {k : Nat} (hk : v.ownBlock = some k) : v'.ownBlock ≠ some k := by
  intro e
  obtain ⟨cur, hc⟩ := h.typed hk
  obtain ⟨cur', hc'⟩ := h'.typed e
  rw [hc] at hc'
  injection hc' with hc'
  injection hc' with _ hc'
  exact ht hc'
theorem Blk.ne {g g' : Nat} {t t' : TypeId} {cs cs' : List Value} (h : Blk w g t cs) (h' : Blk w g' t' cs') (ht : t ≠ t') : g ≠ g' := by
  intro e
  subst e
  unfold Blk at h h'
  rw [h] at h'
  injection h' with h'
  injection h' with _ h'
  exact ht h'
theorem Own.slot {g n c : Nat} (h : Own K E B w (.slice (some ⟨g, 0, none⟩) n c) l) : g < w.heap.size ∧ n = l.length ∧ l.length ≤ c := by
  rcases h.2 with ⟨e, _⟩ | ⟨g', cap', cur, e, _, hh, hc, _⟩
  · cases e
  · injection e with e1 e2 e3
    injection e1 with e1
    injection e1 with e1
    subst e1 e2 e3
    exact ⟨(Array.getElem?_eq_some_iff.1 hh).1, rfl, hc⟩
end

def ptr (c : Nat) : Value := .pointer (some ⟨c, 0, none⟩)
def ptrElem : Elem Nat := oneElem ptr (fun _ => rfl)
def wrElem : Elem (Nat × Nat) := ⟨fun x => [.int .i64 x.1, ptr x.2], 2, by decide, fun _ => rfl, by
  intro a u hu
  simp only [List.mem_cons, List.not_mem_nil, or_false] at hu
  rcases hu with rfl | rfl <;> rfl⟩
theorem ptrST : SliceT Tryz.prog 83 120 ptrElem.size := SliceT.of (size := 1) (bytes := 8) (z := .pointer none) Tryz.underlying83 (by kernel_rfl) rfl (by decide)
theorem wrST : SliceT Tryz.prog 85 154 wrElem.size := SliceT.of (size := 2) (bytes := 16) (z := .agg #[.int .i64 0, .pointer none]) Tryz.underlying85 (by kernel_rfl) rfl (by decide)

/-- The blocks of a disk: its fields (block g), what is firm (pf), what is latest (pl), what is loose (ws): numbers of blocks of contents. -/
structure SecIn (w : World) (g f cf l cl : Nat) (vo : Value) (n : Int) (off : Bool) (pf pl : List Nat) (ws : List (Nat × Nat)) : Prop where
  blk : Blk w g 87 [.slice (some ⟨f, 0, none⟩) pf.length cf, .slice (some ⟨l, 0, none⟩) pl.length cl, vo, .int .i64 n, .bool off]
  of : Own ptrElem 120 0 w (.slice (some ⟨f, 0, none⟩) pf.length cf) pf
  ol : Own ptrElem 120 0 w (.slice (some ⟨l, 0, none⟩) pl.length cl) pl
  oo : Own wrElem 154 0 w vo ws
  fl : f ≠ l

namespace SecIn
variable {w w' : World} {g f cf l cl : Nat} {vo : Value} {n : Int} {off : Bool} {pf pl : List Nat} {ws : List (Nat × Nat)}
theorem gf (h : SecIn w g f cf l cl vo n off pf pl ws) : g ≠ f := fun e => h.of.ne_blk h.blk (by decide) (by rw [e]; rfl)
theorem gl (h : SecIn w g f cf l cl vo n off pf pl ws) : g ≠ l := fun e => h.ol.ne_blk h.blk (by decide) (by rw [e]; rfl)
theorem og (h : SecIn w g f cf l cl vo n off pf pl ws) : vo.ownBlock ≠ some g := h.oo.ne_blk h.blk (by decide)
theorem ofn (h : SecIn w g f cf l cl vo n off pf pl ws) : vo.ownBlock ≠ some f := fun e => h.oo.ne_own h.of (by decide) e rfl
theorem oln (h : SecIn w g f cf l cl vo n off pf pl ws) : vo.ownBlock ≠ some l := fun e => h.oo.ne_own h.ol (by decide) e rfl
theorem but {S : Nat → Prop} (h : SecIn w g f cf l cl vo n off pf pl ws) (hb : But S w w') (h1 : ¬ S g) (h2 : ¬ S f) (h3 : ¬ S l) (h4 : ∀ k, vo.ownBlock = some k → ¬ S k) : SecIn w' g f cf l cl vo n off pf pl ws :=
  ⟨h.blk.but hb h1, h.of.but hb (fun k hk => by simp [Value.ownBlock] at hk; subst hk; exact h2), h.ol.but hb (fun k hk => by simp [Value.ownBlock] at hk; subst hk; exact h3), h.oo.but hb h4, h.fl⟩
theorem alloc (h : SecIn w g f cf l cl vo n off pf pl ws) (o : Obj) : SecIn (w.alloc o) g f cf l cl vo n off pf pl ws :=
  h.but ((But.refl (fun _ => False) w).alloc o) id id id (fun _ _ => id)
theorem drewN (h : SecIn w g f cf l cl vo n off pf pl ws) (k : Nat) : SecIn (w.drewN k) g f cf l cl vo n off pf pl ws := ⟨h.blk, h.of, h.ol, h.oo, h.fl⟩
theorem drew (h : SecIn w g f cf l cl vo n off pf pl ws) : SecIn w.drew g f cf l cl vo n off pf pl ws := ⟨h.blk, h.of, h.ol, h.oo, h.fl⟩
/-- A store into block g. -/
theorem setG (h : SecIn w g f cf l cl vo n off pf pl ws) (j : Nat) (u : Value) (vo' : Value) (n' : Int) (off' : Bool) (ws' : List (Nat × Nat))
    (hoo : Own wrElem 154 0 w vo' ws')
    (hs : [Value.slice (some ⟨f, 0, none⟩) pf.length cf, .slice (some ⟨l, 0, none⟩) pl.length cl, vo, .int .i64 n, .bool off].set j u = [.slice (some ⟨f, 0, none⟩) pf.length cf, .slice (some ⟨l, 0, none⟩) pl.length cl, vo', .int .i64 n', .bool off']) :
    SecIn (w.setCell ⟨g, j, none⟩ u) g f cf l cl vo' n' off' pf pl ws' := by
  have hb : But (· = g) w (w.setCell ⟨g, j, none⟩ u) := (But.refl _ w).setCell _ _ (fun _ => rfl)
  refine ⟨?_, h.of.but hb (fun k hk e => h.gf ?_), h.ol.but hb (fun k hk e => h.gl ?_), hoo.but hb (fun k hk e => ?_), h.fl⟩
  · rw [← hs]; exact h.blk.set j u
  · simp [Value.ownBlock] at hk; omega
  · simp [Value.ownBlock] at hk; omega
  · exact hoo.ne_blk h.blk (by decide) (by rw [hk, e])
theorem setLeft (h : SecIn w g f cf l cl vo n off pf pl ws) (n' : Int) : SecIn (w.setCell ⟨g, 3, none⟩ (.int .i64 n')) g f cf l cl vo n' off pf pl ws := h.setG 3 _ vo n' off ws h.oo rfl
theorem setDown (h : SecIn w g f cf l cl vo n off pf pl ws) (b : Bool) : SecIn (w.setCell ⟨g, 4, none⟩ (.bool b)) g f cf l cl vo n b pf pl ws := h.setG 4 _ vo n b ws h.oo rfl
theorem setLoose (h : SecIn w g f cf l cl vo n off pf pl ws) (vo' : Value) (ws' : List (Nat × Nat)) (ho : Own wrElem 154 0 w vo' ws') : SecIn (w.setCell ⟨g, 2, none⟩ vo') g f cf l cl vo' n off pf pl ws' := h.setG 2 _ vo' n off ws' ho rfl
theorem setFirm (h : SecIn w g f cf l cl vo n off pf pl ws) (j c : Nat) : SecIn (w.setCell ⟨f, j, none⟩ (ptr c)) g f cf l cl vo n off (pf.set j c) pl ws := by
  have hb : But (· = f) w (w.setCell ⟨f, j, none⟩ (ptr c)) := (But.refl _ w).setCell _ _ (fun _ => rfl)
  have hs := Own.store h.of j c
  refine ⟨?_, ?_, h.ol.but hb (fun k hk e => h.fl ?_), h.oo.but hb (fun k hk e => h.ofn (by rw [hk, e])), h.fl⟩
  · rw [List.length_set]; exact h.blk.but hb h.gf
  · rw [List.length_set]; exact hs
  · simp [Value.ownBlock] at hk; omega
theorem setLatest (h : SecIn w g f cf l cl vo n off pf pl ws) (j c : Nat) : SecIn (w.setCell ⟨l, j, none⟩ (ptr c)) g f cf l cl vo n off pf (pl.set j c) ws := by
  have hb : But (· = l) w (w.setCell ⟨l, j, none⟩ (ptr c)) := (But.refl _ w).setCell _ _ (fun _ => rfl)
  have hs := Own.store h.ol j c
  refine ⟨?_, h.of.but hb (fun k hk e => h.fl ?_), ?_, h.oo.but hb (fun k hk e => h.oln (by rw [hk, e])), h.fl⟩
  · rw [List.length_set]; exact h.blk.but hb h.gl
  · simp [Value.ownBlock] at hk; omega
  · rw [List.length_set]; exact hs
/-- A row grew. -/
theorem grown (h : SecIn w g f cf l cl vo n off pf pl ws) {row : Option Nat} (hg : w.grownBy w' row) (h1 : row ≠ some g) (h2 : row ≠ some f) (h3 : row ≠ some l) (h4 : ∀ k, vo.ownBlock = some k → row ≠ some k) : SecIn w' g f cf l cl vo n off pf pl ws :=
  h.but (S := fun k => row = some k) ⟨hg.os, hg.tape, hg.output, hg.size, fun k hk hn => hg.block k hk (fun e => hn e.symm)⟩ h1 h2 h3 h4
/-- A row grew that is the loose one: all but the loose row are as they were. -/
theorem grownLoose (h : SecIn w g f cf l cl vo n off pf pl ws) (hg : w.grownBy w' vo.ownBlock) (vo' : Value) (ws' : List (Nat × Nat)) (ho : Own wrElem 154 0 w' vo' ws') :
    SecIn (w'.setCell ⟨g, 2, none⟩ vo') g f cf l cl vo' n off pf pl ws' := by
  have hb : But (fun k => vo.ownBlock = some k) w w' := ⟨hg.os, hg.tape, hg.output, hg.size, fun k hk hn => hg.block k hk (fun e => hn e.symm)⟩
  have h' : Blk w' g 87 [.slice (some ⟨f, 0, none⟩) pf.length cf, .slice (some ⟨l, 0, none⟩) pl.length cl, vo, .int .i64 n, .bool off] := h.blk.but hb h.og
  have h2 := h.of.but hb (fun k hk => by simp [Value.ownBlock] at hk; subst hk; exact h.ofn)
  have h3 := h.ol.but hb (fun k hk => by simp [Value.ownBlock] at hk; subst hk; exact h.oln)
  have hb2 : But (· = g) w' (w'.setCell ⟨g, 2, none⟩ vo') := (But.refl _ w').setCell _ _ (fun _ => rfl)
  refine ⟨h'.set 2 vo', h2.but hb2 (fun k hk e => h.gf ?_), h3.but hb2 (fun k hk e => h.gl ?_), ho.but hb2 (fun k hk e => ho.ne_blk h' (by decide) (by rw [hk, e])), h.fl⟩
  · simp [Value.ownBlock] at hk; omega
  · simp [Value.ownBlock] at hk; omega
end SecIn

/-- The contents in the blocks cs: T tells them. -/
def Txts (w : World) (F : Nat → Prop) (T : Nat → List UInt8) (cs : List Nat) : Prop := ∀ c ∈ cs, Blk w c 121 ((T c).map bcell) ∧ F c ∧ (T c).length = 512
theorem Txts.but {S : Nat → Prop} {w w' : World} {F : Nat → Prop} {T : Nat → List UInt8} {cs : List Nat} (h : Txts w F T cs) (hb : But S w w') (hn : ∀ c ∈ cs, ¬ S c) : Txts w' F T cs :=
  fun c hc => ⟨(h c hc).1.but hb (hn c hc), (h c hc).2⟩

/-- In block g lies the disk d; its blocks are all of F. -/
def Sec (w : World) (F : Nat → Prop) (g : Nat) (d : Dk.Disk) : Prop :=
  ∃ (f cf l cl : Nat) (vo : Value) (n : Int) (pf pl : List Nat) (ws : List (Nat × Nat)) (T : Nat → List UInt8),
    SecIn w g f cf l cl vo n d.off pf pl ws ∧ Txts w F T (pf ++ (pl ++ ws.map (·.2))) ∧ d.firm = pf.map T ∧ d.loose = ws.map (fun x => (x.1, T x.2)) ∧ d.now = pl.map T ∧
    max n (-1) = d.fuel ∧ n ≤ 9223372036854775807 ∧ -9223372036854775808 ≤ n ∧ 1 ≤ pf.length ∧ pf.length ≤ 65536 ∧ (∀ x ∈ ws, x.1 < pf.length) ∧
    F g ∧ F f ∧ F l ∧ (∀ k, vo.ownBlock = some k → F k) ∧ ∀ k, F k → k < w.heap.size

/-- A call has turned no blocks but those of F; what it is in now is of F or new. -/
def Moved (F : Nat → Prop) (w : World) (F' : Nat → Prop) (w' : World) : Prop := But F w w' ∧ ∀ k, F' k → F k ∨ w.heap.size ≤ k
theorem Moved.refl (F : Nat → Prop) (w : World) : Moved F w F w := ⟨But.refl _ _, fun _ h => .inl h⟩
theorem Moved.trans {F F' F'' : Nat → Prop} {w w' w'' : World} (h : Moved F w F' w') (k : Moved F' w' F'' w'') : Moved F w F'' w'' :=
  ⟨h.1.trans k.1 (fun i hi hf => (h.2 i hf).resolve_right (by omega)), fun i hi => by
    rcases k.2 i hi with hf | hl
    · exact h.2 i hf
    · exact .inr (Nat.le_trans h.1.size hl)⟩
theorem Moved.below {F F' : Nat → Prop} {B : Nat} {w w' : World} (h : Moved F w F' w') (hF : ∀ k, F k → B ≤ k) (hB : B ≤ w.heap.size) : Below B w w' ∧ ∀ k, F' k → B ≤ k :=
  ⟨h.1.below hB (fun k hk hf => by have := hF k hf; omega), fun k hk => (h.2 k hk).elim (hF k) (fun h1 => Nat.le_trans hB h1)⟩

theorem Sec.lt {w : World} {F : Nat → Prop} {g : Nat} {d : Dk.Disk} (h : Sec w F g d) : ∀ k, F k → k < w.heap.size := by
  obtain ⟨_, _, _, _, _, _, _, _, _, _, _, _, _, _, _, _, _, _, _, _, _, _, _, _, _, h⟩ := h
  exact h
theorem Sec.but {S : Nat → Prop} {w w' : World} {F : Nat → Prop} {g : Nat} {d : Dk.Disk} (h : Sec w F g d) (hb : But S w w') (hn : ∀ k, F k → ¬ S k) : Sec w' F g d := by
  obtain ⟨f, cf, l, cl, vo, n, pf, pl, ws, T, h1, h2, h3, h4, hp, h5, h6, h6', h7, h8, h9, h10, h11, h12, h13, h14⟩ := h
  exact ⟨f, cf, l, cl, vo, n, pf, pl, ws, T, h1.but hb (hn _ h10) (hn _ h11) (hn _ h12) (fun k hk => hn _ (h13 k hk)), h2.but hb (fun c hc => hn c (h2 c hc).2.1), h3, h4, hp, h5, h6, h6', h7, h8, h9, h10, h11, h12, h13, fun k hk => Nat.lt_of_lt_of_le (h14 k hk) hb.size⟩
theorem Sec.drewN {w : World} {F : Nat → Prop} {g : Nat} {d : Dk.Disk} (h : Sec w F g d) (n : Nat) : Sec (w.drewN n) F g d := h.but ((But.refl (fun _ => False) w).drewN n) (fun _ _ h => h)
theorem Sec.below {B : Nat} {w w' : World} {F : Nat → Prop} {g : Nat} {d : Dk.Disk} (h : Sec w F g d) (hb : Below B w w') (hn : ∀ k, F k → k < B) : Sec w' F g d :=
  h.but (S := fun k => B ≤ k) ⟨hb.os, hb.tape, hb.output, hb.size, fun k _ hk => hb.block k (by omega)⟩ (fun k hk => by have := hn k hk; omega)
end Go.Proofs.YtahnhhhhfioibaaGreatDoor

namespace Go.Proofs.YtahnhhhhfioibaaGreatDoor
open Go.RowKit

theorem down_any (w : World) (F : Nat → Prop) (g : Nat) (d : Dk.Disk) (hd : Sec w F g d) :
    Calls Tryz.prog 41 #[ptr g] w fun e w' => e = .returned (.bool d.off) ∧ w' = w := by
  obtain ⟨f, cf, l, cl, vo, n, pf, pl, ws, T, h1, h2, h3, h4, hp, h5, h6, h6', h7, h8, h9, h10, h11, h12, h13, h14⟩ := hd
  have c4 : w.cell? ⟨g, 4, none⟩ = some (.bool d.off) := h1.blk.cell rfl
  clear h1 h2 h3 h4 hp
  go_enter Tryz.func41, Tryz.ntmps41
  unfold ptr
  go_wp2
  go_ret
  exact ⟨rfl, rfl⟩
theorem down_nil (w : World) :
    Calls Tryz.prog 41 #[.pointer none] w fun e w' => e = .returned (.bool true) ∧ w' = w := by
  go_enter Tryz.func41, Tryz.ntmps41
  go_wp2
  go_ret
  exact ⟨rfl, rfl⟩
theorem size_any (w : World) (F : Nat → Prop) (g : Nat) (d : Dk.Disk) (hd : Sec w F g d) :
    Calls Tryz.prog 40 #[ptr g] w fun e w' => e = .returned (.int .i64 d.firm.length) ∧ w' = w := by
  obtain ⟨f, cf, l, cl, vo, n, pf, pl, ws, T, h1, h2, h3, h4, hp, h5, h6, h6', h7, h8, h9, h10, h11, h12, h13, h14⟩ := hd
  have c0 : w.cell? ⟨g, 0, none⟩ = some (.slice (some ⟨f, 0, none⟩) pf.length cf) := h1.blk.cell rfl
  have hl : d.firm.length = pf.length := by rw [h3, List.length_map]
  rw [hl]
  clear h1 h2 h3 h4 hl hp
  go_enter Tryz.func40, Tryz.ntmps40
  unfold ptr
  go_wp2
  go_ret
  exact ⟨rfl, rfl⟩
theorem has_any (w : World) (F : Nat → Prop) (g : Nat) (d : Dk.Disk) (i : Int) (hd : Sec w F g d) :
    Calls Tryz.prog 86 #[ptr g, .int .i64 i] w fun e w' => e = .returned (.bool (d.has i)) ∧ w' = w := by
  obtain ⟨f, cf, l, cl, vo, n, pf, pl, ws, T, h1, h2, h3, h4, hp, h5, h6, h6', h7, h8, h9, h10, h11, h12, h13, h14⟩ := hd
  have c0 : w.cell? ⟨g, 0, none⟩ = some (.slice (some ⟨f, 0, none⟩) pf.length cf) := h1.blk.cell rfl
  have hl : d.firm.length = pf.length := by rw [h3, List.length_map]
  unfold Dk.Disk.has
  rw [hl]
  clear h1 h2 h3 h4 hl hp
  by_cases hi : 0 ≤ i
  · go_enter Tryz.func86, Tryz.ntmps86
    unfold ptr
    go_wp2
    go_ret
    refine ⟨ret_bool' ?_, rfl⟩
    simp [hi]
  · go_enter Tryz.func86, Tryz.ntmps86
    unfold ptr
    go_wp2
    go_ret
    refine ⟨ret_bool' ?_, rfl⟩
    simp only [Bool.false_eq, Bool.and_eq_false_iff, decide_eq_false_iff_not]
    omega
theorem Sec.fueled {w : World} {F : Nat → Prop} {g : Nat} {d : Dk.Disk} (n : Int) (hd : Sec w F g d) (h1 : -9223372036854775808 ≤ n) (h2 : n ≤ 9223372036854775807) : Sec (w.setCell ⟨g, 3, none⟩ (.int .i64 n)) F g (d.fueled n) ∧ Moved F w F (w.setCell ⟨g, 3, none⟩ (.int .i64 n)) := by
  obtain ⟨f, cf, l, cl, vo, m, pf, pl, ws, T, k1, k2, k3, k4, kp, k5, k6, k6', k7, k8, k9, k10, k11, k12, k13, k14⟩ := hd
  have hb : But (· = g) w (w.setCell ⟨g, 3, none⟩ (.int .i64 n)) := (But.refl _ w).setCell _ _ (fun _ => rfl)
  refine ⟨⟨f, cf, l, cl, vo, n, pf, pl, ws, T, k1.setLeft n, k2.but hb (fun c hc e => (k2 c hc).1.ne k1.blk (by decide) e), k3, k4, kp, rfl, h2, h1, k7, k8, k9, k10, k11, k12, k13, fun k hk => ?_⟩, ?_, fun k hk => .inl hk⟩
  · have := k14 k hk; have := hb.size; omega
  · exact hb.mono (fun k _ e => e ▸ k10)
theorem Sec.dead {w : World} {F : Nat → Prop} {g : Nat} {d : Dk.Disk} (hd : Sec w F g d) : Sec (w.setCell ⟨g, 4, none⟩ (.bool true)) F g d.dead ∧ Moved F w F (w.setCell ⟨g, 4, none⟩ (.bool true)) := by
  obtain ⟨f, cf, l, cl, vo, m, pf, pl, ws, T, k1, k2, k3, k4, kp, k5, k6, k6', k7, k8, k9, k10, k11, k12, k13, k14⟩ := hd
  have hb : But (· = g) w (w.setCell ⟨g, 4, none⟩ (.bool true)) := (But.refl _ w).setCell _ _ (fun _ => rfl)
  refine ⟨⟨f, cf, l, cl, vo, m, pf, pl, ws, T, k1.setDown true, k2.but hb (fun c hc e => (k2 c hc).1.ne k1.blk (by decide) e), k3, k4, kp, k5, k6, k6', k7, k8, k9, k10, k11, k12, k13, fun k hk => ?_⟩, ?_, fun k hk => .inl hk⟩
  · have := k14 k hk; have := hb.size; omega
  · exact hb.mono (fun k _ e => e ▸ k10)
theorem step_any (w : World) (F : Nat → Prop) (g : Nat) (d : Dk.Disk) (hd : Sec w F g d) :
    Calls Tryz.prog 112 #[ptr g] w fun e w' => e = .returned (.bool (decide (d.fuel ≠ 0))) ∧ Sec w' F g (if d.fuel = 0 then d.dead else d.burnt) ∧ Moved F w F w' := by
  have HD := Lib.hid hd
  obtain ⟨f, cf, l, cl, vo, n, pf, pl, ws, T, k1, k2, k3, k4, kp, k5, k6, k6', k7, k8, k9, k10, k11, k12, k13, k14⟩ := hd
  have c3 : w.cell? ⟨g, 3, none⟩ = some (.int .i64 n) := k1.blk.cell rfl
  have f3 : w.frozen? ⟨g, 3, none⟩ = false := k1.blk.frozen 3
  have c4 : w.cell? ⟨g, 4, none⟩ = some (.bool d.off) := k1.blk.cell rfl
  have f4 : w.frozen? ⟨g, 4, none⟩ = false := k1.blk.frozen 4
  have HK := Lib.hid (And.intro k5 (And.intro k2 (And.intro k3 (And.intro k4 (And.intro kp k9)))))
  clear k1 k2 k3 k4 kp k5 k9 k14 k13
  by_cases h0 : n = 0
  · subst h0
    have hf : d.fuel = 0 := by rw [← HK.out.1]; rfl
    rw [if_pos hf]
    go_enter Tryz.func112, Tryz.ntmps112
    unfold ptr
    go_wp2
    go_ret
    exact ⟨ret_bool' (by rw [decide_eq_false]; exact fun h => h hf), HD.out.dead⟩
  · have hf : ¬ d.fuel = 0 := by rw [← HK.out.1]; omega
    rw [if_neg hf]
    by_cases hp : 0 < n
    · have hp' : n > 0 := hp
      have hw : IntKind.i64.wrap (n - 1) = n - 1 := by rw [IntKind.wrap_i64]; omega
      go_enter Tryz.func112, Tryz.ntmps112
      unfold ptr
      go_wp2
      go_ret
      have hq := HD.out.fueled (n - 1) (by omega) (by omega)
      have e : d.fueled (n - 1) = d.burnt := by
        have := HK.out.1
        unfold Dk.Disk.fueled Dk.Disk.burnt
        congr 1
        rw [if_pos (by omega)]
        omega
      rw [e] at hq
      refine ⟨ret_bool' (by rw [decide_eq_true hf]), hq⟩
    · have hp' : ¬ n > 0 := hp
      go_enter Tryz.func112, Tryz.ntmps112
      unfold ptr
      go_wp2
      go_ret
      have e : d.burnt = d := by
        have := HK.out.1
        unfold Dk.Disk.burnt
        rw [if_neg (by omega)]
      rw [e]
      exact ⟨rfl, HD.out, Moved.refl _ _⟩
end Go.Proofs.YtahnhhhhfioibaaGreatDoor

namespace Go.Proofs.YtahnhhhhfioibaaGreatDoor
open Go.RowKit

theorem addr_add0 (g i : Nat) : (⟨g, 0, none⟩ : Addr).add i = ⟨g, i, none⟩ := by unfold Addr.add; split <;> simp_all
theorem slice_content (w : World) (c : Nat) : (Instr.sliceAt 121 (.pointer (some ⟨c, 0, none⟩)) none none none).run Tryz.prog w = .ok (.slice (some ⟨c, 0, none⟩) 512 512) w := by
  have e1 : Tryz.prog.arrayLen 121 = 512 := by kernel_rfl
  have e2 : Tryz.prog.elem 121 = 5 := by kernel_rfl
  have e3 := run_sliceAt_array_all (P := Tryz.prog) w 121 ⟨c, 0, none⟩ (by rw [e1, e2]; kernel_rfl)
  rw [e3, e1, e2]
  show ((sizeOf 5).run Tryz.prog w).andThen _ = _
  rw [Tryz.sizeOf5]
  simp [go_sem, Addr.add]
theorem content_back (w : World) (c : Nat) (t : List UInt8) (hb : Blk w c 121 (t.map bcell)) (hl : t.length = 512) : (convert 110 9 (.slice (some ⟨c, 0, none⟩) 512 512)).run Tryz.prog w = .ok (.string (bs t)) w := by
  have := run_convert_bytes_back (P := Tryz.prog) w 110 9 5 ⟨c, 0, none⟩ 512 t (by kernel_rfl) (by kernel_rfl) (by kernel_rfl) (by
    intro i hi
    rw [addr_add0]
    refine hb.cell ?_
    rw [List.getElem?_map, List.getElem?_eq_getElem hi]
    rfl)
  rw [hl] at this
  exact this

set_option maxRecDepth 100000 in
theorem read_any (w : World) (F : Nat → Prop) (g : Nat) (d : Dk.Disk) (i : Int) (hd : Sec w F g d) :
    Calls Tryz.prog 57 #[ptr g, .int .i64 i] w fun e w' => e = .returned (.tuple #[.string (bs (d.read i).1), .int .i64 (d.read i).2]) ∧ w' = w := by
  have HD := Lib.hid hd
  by_cases ho : d.off = true
  · have HR : d.read i = ([], 3) := by unfold Dk.Disk.read; rw [if_pos ho]
    rw [HR]
    clear HR hd
    go_enter Tryz.func57, Tryz.ntmps57
    go_wp2_with fail
    refine (down_any _ _ _ _ HD.out).mono ?_
    rintro e w1 ⟨rfl, rfl⟩
    rw [ho]
    go_wp2
    go_ret2
    exact ⟨rfl, rfl⟩
  · have ho' : d.off = false := by simpa using ho
    by_cases hh : d.has i = true
    · have hi : 0 ≤ i ∧ i < d.firm.length := by simpa [Dk.Disk.has] using hh
      obtain ⟨f, cf, l, cl, vo, n, pf, pl, ws, T, k1, k2, k3, k4, kp, k5, k6, k6', k7, k8, k9, k10, k11, k12, k13, k14⟩ := hd
      have hlen : d.firm.length = pf.length := by rw [k3, List.length_map]
      obtain ⟨k, rfl⟩ : ∃ k : Nat, i = k := ⟨i.toNat, by omega⟩
      have hpl : pl.length = pf.length := by
        have := congrArg List.length kp
        rw [List.length_map, Dk.Disk.now, Dk.puts_length, k3, List.length_map] at this
        exact this.symm
      have hk : k < pl.length := by omega
      have HR : d.read k = (T pl[k], 0) := by
        unfold Dk.Disk.read
        rw [if_neg ho, if_pos hh, kp, Int.toNat_natCast, List.getD_eq_getElem?_getD, List.getElem?_map, List.getElem?_eq_getElem hk]
        rfl
      have hmem : pl[k] ∈ pf ++ (pl ++ ws.map (·.2)) := List.mem_append_right _ (List.mem_append_left _ (List.getElem_mem hk))
      have c1 : w.cell? ⟨g, 1, none⟩ = some (.slice (some ⟨l, 0, none⟩) pl.length cl) := k1.blk.cell rfl
      have cl' : w.cell? ⟨l, k, none⟩ = some (ptr pl[k]) := by
        have := Own.lies k1.ol k (ptr pl[k]) (by rw [show ptrElem.cells pl = pl.map ptr from oneElem_cells _ _ _, List.getElem?_map, List.getElem?_eq_getElem hk]; rfl)
        rwa [Nat.zero_add] at this
      have hcb := fun w' (hw : w' = w) => content_back w' _ _ (hw ▸ (k2 _ hmem).1) (k2 _ hmem).2.2
      have hcb := hcb w rfl
      have hsl := slice_content w pl[k]
      have hcap := (Own.slot k1.ol).2.2
      have hkI : (k : Int) < pl.length := by omega
      rw [HR]
      generalize pl[k] = c at *
      generalize pl.length = N at *
      generalize T c = t at *
      unfold ptr at cl'
      clear HR k1 k2 k3 k4 kp k5 k9 k13 k14 hmem hlen hpl
      go_enter Tryz.func57, Tryz.ntmps57
      go_wp2_with fail
      refine (down_any _ _ _ _ HD.out).mono ?_
      rintro e w1 ⟨rfl, rfl⟩
      rw [ho']
      go_wp2_with fail
      refine (has_any _ _ _ _ _ HD.out).mono ?_
      rintro e w1 ⟨rfl, rfl⟩
      rw [hh]
      unfold ptr
      go_wp2
      go_ret2
      exact ⟨rfl, rfl⟩
    · have hh' : d.has i = false := by simpa using hh
      have HR : d.read i = ([], 2) := by unfold Dk.Disk.read; rw [if_neg ho, if_neg hh]
      rw [HR]
      clear HR hd
      go_enter Tryz.func57, Tryz.ntmps57
      go_wp2_with fail
      refine (down_any _ _ _ _ HD.out).mono ?_
      rintro e w1 ⟨rfl, rfl⟩
      rw [ho']
      go_wp2_with fail
      refine (has_any _ _ _ _ _ HD.out).mono ?_
      rintro e w1 ⟨rfl, rfl⟩
      rw [hh']
      go_wp2
      go_ret2
      exact ⟨rfl, rfl⟩
end Go.Proofs.YtahnhhhhfioibaaGreatDoor

namespace Go.Proofs.YtahnhhhhfioibaaGreatDoor
open Go.RowKit Lib

theorem run_copy_str {P : Program} (w : World) (dT sT ty elem : TypeId) (g dLen dCap : Nat) (s : ByteArray) (cur : Array Value) (t : TypeId)
    (hu : P.underlying dT = some (.slice elem)) (hs : (P.info? elem).map (·.size) = some 1)
    (hg : w.heap[g]? = some (.cells cur t (0, 0))) (hn : s.size ≤ dLen) (hfit : s.size ≤ cur.size) :
    (Builtin.copy_ #[dT, sT] ty #[.slice (some ⟨g, 0, none⟩) dLen dCap, .string s]).run P w =
      .ok (goInt s.size) (w.setRow g (strCells s ++ cur.toList.drop s.size).toArray) := by
  have hl := fun size => run_firstCells_string (P := P) w size s
  have hst := run_storeCells_at P g 0 t (strCells s) 0 cur w hg (by simpa [strCells_length] using hfit) (strCells_oneCell s)
  simp only [Nat.zero_add, strCells_length, List.take_zero, List.nil_append] at hst
  have hmin : Nat.min s.size dLen = s.size := Nat.min_eq_left hn
  cases hq : P.info? elem with
  | none => simp [hq] at hs
  | some i => simp [Builtin.copy_, run_underlying hu, Builtin.lenOf, sizeOf, typeInfo, hq, hmin, hl, hst]
theorem wpList_copy_str {P : Program} {w : World} {ops : Array Oper} {rest : List Oper} {o : Oper} {a : Act} {Q : Exit → Act → World → Prop} (hgd : o.guard = none) (d s : Operand) (dT sT : TypeId)
    (ho : o.op = .call { callee := .builtin .copy, args := #[d, s], argTypes := #[dT, sT] }) (elem : TypeId) (hu : P.underlying dT = some (.slice elem)) (hsz : (P.info? elem).map (·.size) = some 1)
    (g dLen dCap : Nat) (str : ByteArray) (hd : a.eval d = .slice (some ⟨g, 0, none⟩) dLen dCap) (hs : a.eval s = .string str)
    (cur : Array Value) (t : TypeId) (hg : w.heap[g]? = some (.cells cur t (0, 0))) (hn : str.size ≤ dLen) (hfit : str.size ≤ cur.size)
    (h : wpList P ops Q rest (a.put o.dst (goInt str.size)) (w.setRow g (strCells str ++ cur.toList.drop str.size).toArray)) : wpList P ops Q (o :: rest) a w := by
  refine wpList_plain hgd fun K hK => ?_
  have hrun := run_copy_str (P := P) w dT sT o.type elem g dLen dCap str cur t hu hsz hg hn hfit
  unfold Oper.wp
  simp [execOp, ho, resolve, invoke, builtin, hd, hs, hrun, Result.andThen]
  exact hK _ _ h

def zeroContent : List Value := List.replicate 512 (.int .u8 0)
theorem zero_content (w : World) : (zeroValue 121).run Tryz.prog w = .ok (.agg zeroContent.toArray) w := by kernel_rfl
theorem full_cells (s : ByteArray) : strCells s ++ zeroContent.drop s.size = (Dk.full s.data.toList).map bcell := by
  unfold Dk.full zeroContent strCells
  rw [List.map_append, List.map_replicate, List.drop_replicate, Array.length_toList]
  rfl
theorem lies_wr (w : World) (i c : Nat) : Lies wrElem (w.alloc (.cells #[.int .i64 i, ptr c] 154)) w.heap.size 0 [(i, c)] :=
  Lies.of_blk (Blk.new w #[.int .i64 i, ptr c] 154) rfl

theorem Sec.wrote {w1 W w5 : World} {F : Nat → Prop} {g f cf l cl c k : Nat} {vo v' : Value} {n : Int} {pf pl : List Nat} {ws : List (Nat × Nat)} {T : Nat → List UInt8} {d : Dk.Disk} {t : List UInt8}
    (hbW : But (· = c) w1 W) (hc : w1.heap.size = c) (hcW : Blk W c 121 (t.map bcell)) (ht : t.length = 512) (tW : Txts W F T (pf ++ (pl ++ ws.map (·.2)))) (kW : SecIn W g f cf l cl vo n d.off pf pl ws)
    (k5' : SecIn w5 g f cf l cl v' n d.off pf (pl.set k c) (ws ++ [(k, c)])) (hb5 : But (fun x => x = g ∨ x = l ∨ vo.ownBlock = some x) W w5) (hv : ∀ x, v'.ownBlock = some x → F x ∨ w1.heap.size ≤ x)
    (k3 : d.firm = pf.map T) (k4 : d.loose = ws.map (fun x => (x.1, T x.2))) (kp : d.now = pl.map T) (k5 : max n (-1) = d.fuel) (k6 : n ≤ 9223372036854775807) (k6' : -9223372036854775808 ≤ n) (k7 : 1 ≤ pf.length) (k8 : pf.length ≤ 65536)
    (k9 : ∀ x ∈ ws, x.1 < pf.length) (k10 : F g) (k11 : F f) (k12 : F l) (k13 : ∀ x, vo.ownBlock = some x → F x) (k14 : ∀ x, F x → x < w1.heap.size) (hk : k < pl.length) (hpl : pl.length = pf.length) :
    ∃ F', Sec w5 F' g { d with loose := d.loose ++ [(k, t)] } ∧ Moved F w1 F' w5 := by
  have hFc : ∀ x, F x → x ≠ c := fun x hx e => by have := k14 x hx; omega
  have hsz := hbW.size
  have hsz5 := hb5.size
  have hcs := hcW.lt
  have hT : ∀ x ∈ pf ++ (pl ++ ws.map (·.2)), (if x = c then t else T x) = T x := fun x hx => if_neg (hFc x (tW x hx).2.1)
  refine ⟨fun x => F x ∨ (w1.heap.size ≤ x ∧ x < w5.heap.size), ⟨f, cf, l, cl, v', n, pf, pl.set k c, ws ++ [(k, c)], fun x => if x = c then t else T x, k5', ?_, ?_, ?_, ?_, k5, k6, k6', k7, k8, ?_, .inl k10, .inl k11, .inl k12, ?_, ?_⟩, ?_, ?_⟩
  · have hold : ∀ x ∈ pf ++ (pl ++ ws.map (·.2)), Blk w5 x 121 (((if x = c then t else T x)).map bcell) ∧ (F x ∨ (w1.heap.size ≤ x ∧ x < w5.heap.size)) ∧ (if x = c then t else T x).length = 512 := by
      intro x hx
      obtain ⟨h1, h2, h3⟩ := tW x hx
      rw [hT x hx]
      refine ⟨h1.but hb5 ?_, .inl h2, h3⟩
      rintro (e | e | e)
      · exact h1.ne kW.blk (by decide) e
      · subst e
        obtain ⟨cur, hcur⟩ := kW.ol.typed (k := x) rfl
        unfold Blk at h1
        rw [h1] at hcur
        injection hcur with hcur
        injection hcur with _ hcur
        exact absurd hcur (by decide)
      · exact kW.oo.ne_blk h1 (by decide) e
    intro x hx
    have hx' : x ∈ pf ++ (pl ++ ws.map (·.2)) ∨ x = c := by
      rw [List.map_append] at hx
      simp only [List.mem_append] at hx ⊢
      rcases hx with hx | hx | hx | hx
      · exact .inl (.inl hx)
      · rcases List.mem_or_eq_of_mem_set hx with h | h
        · exact .inl (.inr (.inl h))
        · exact .inr h
      · exact .inl (.inr (.inr hx))
      · exact .inr (by simpa using hx)
    rcases hx' with hx | hx
    · exact hold x hx
    · obtain rfl : x = c := hx
      refine ⟨?_, .inr ⟨by omega, by omega⟩, ?_⟩
      · show Blk w5 x _ ((if x = x then t else T x).map bcell)
        rw [if_pos rfl]
        refine hcW.but hb5 ?_
        rintro (e | e | e)
        · exact hFc _ k10 e.symm
        · exact hFc _ k12 e.symm
        · exact hFc _ (k13 _ e) rfl
      · show (if x = x then t else T x).length = 512
        rw [if_pos rfl]; exact ht
  · show d.firm = _
    rw [k3]
    exact List.map_congr_left fun x hx => (hT x (List.mem_append_left _ hx)).symm
  · show d.loose ++ [(k, t)] = _
    rw [k4, List.map_append]
    congr 1
    · exact List.map_congr_left fun x hx => by show _ = (x.1, if x.2 = c then t else T x.2); rw [hT x.2 (List.mem_append_right _ (List.mem_append_right _ (List.mem_map.2 ⟨x, hx, rfl⟩)))]
    · simp
  · show Dk.puts d.firm (d.loose ++ [(k, t)]) = _
    rw [Dk.puts_append, Dk.puts_one, List.map_set, if_pos rfl]
    congr 1
    rw [show Dk.puts d.firm d.loose = d.now from rfl, kp]
    exact List.map_congr_left fun x hx => (hT x (List.mem_append_right _ (List.mem_append_left _ hx))).symm
  · intro x hx
    rcases List.mem_append.1 hx with hx | hx
    · exact k9 x hx
    · obtain rfl : x = (k, c) := by simpa using hx
      rw [hpl] at hk
      exact hk
  · intro x hx
    rcases hv x hx with h | h
    · exact .inl h
    · exact .inr ⟨h, (k5'.oo.block x hx).2⟩
  · rintro x (h | h)
    · have := k14 x h; omega
    · exact h.2
  · have h1 : But (fun x => x = c ∨ (x = g ∨ x = l ∨ vo.ownBlock = some x)) w1 w5 := (hbW.mono (fun x _ e => .inl e)).trans hb5 (fun x _ e => .inr e)
    refine h1.mono ?_
    rintro x hx (e | e | e | e)
    · omega
    · exact e ▸ k10
    · exact e ▸ k12
    · exact k13 x e
  · rintro x (h | h)
    · exact .inl h
    · exact .inr h.1

set_option maxRecDepth 100000 in
set_option maxHeartbeats 1000000 in
theorem write_any (w : World) (F : Nat → Prop) (g : Nat) (d : Dk.Disk) (i : Int) (s : ByteArray) (hd : Sec w F g d) (hn : d.loose.length ≤ 900000000) :
    Calls Tryz.prog 104 #[ptr g, .int .i64 i, .string s] w fun e w' => e = .returned (.int .i64 (d.write i s.data.toList).1) ∧ ∃ F', Sec w' F' g (d.write i s.data.toList).2 ∧ Moved F w F' w' := by
  have HD := Lib.hid hd
  have hsz : s.data.toList.length = s.size := Array.length_toList
  by_cases ho : d.off = true
  · have HR : d.write i s.data.toList = (3, d) := by unfold Dk.Disk.write; rw [if_pos ho]
    rw [HR]
    clear HR hd
    go_enter Tryz.func104, Tryz.ntmps104
    go_wp2_with fail
    refine (down_any _ _ _ _ HD.out).mono ?_
    rintro e w1 ⟨rfl, rfl⟩
    rw [ho]
    go_wp2
    go_ret
    exact ⟨rfl, _, HD.out, Moved.refl _ _⟩
  · have ho' : d.off = false := by simpa using ho
    by_cases hh : d.has i = true
    · have hi : 0 ≤ i ∧ i < d.firm.length := by simpa [Dk.Disk.has] using hh
      by_cases hs : s.size ≤ 512
      · have hsI : ¬ ((s.size : Int) > 512) := by omega
        by_cases hf : d.fuel = 0
        · have HR : d.write i s.data.toList = (3, d.dead) := by
            unfold Dk.Disk.write; rw [if_neg ho, hh, hsz, if_neg (by decide), if_neg (by omega), if_pos hf]
          have hst := fun w' (hw : w' = w) => step_any w' F g d (hw ▸ hd)
          rw [if_pos hf, show decide (d.fuel ≠ 0) = false by simp [hf]] at hst
          have HST := Lib.hid (hst w rfl)
          rw [HR]
          clear HR hd hst
          go_enter Tryz.func104, Tryz.ntmps104
          go_wp2_with fail
          refine (down_any _ _ _ _ HD.out).mono ?_
          rintro e w1 ⟨rfl, rfl⟩
          rw [ho']
          go_wp2_with fail
          refine (has_any _ _ _ _ _ HD.out).mono ?_
          rintro e w1 ⟨rfl, rfl⟩
          rw [hh]
          go_wp2_with fail
          refine HST.out.mono ?_
          rintro e w1 ⟨rfl, h1, h2⟩
          have H12 := Lib.hid (And.intro h1 h2)
          clear h1 h2
          go_wp2
          go_ret
          exact ⟨rfl, _, H12.out⟩
        · have HR : d.write i s.data.toList = (0, { d.burnt with loose := d.loose ++ [(i.toNat, Dk.full s.data.toList)] }) := by
            unfold Dk.Disk.write; rw [if_neg ho, hh, hsz, if_neg (by decide), if_neg (by omega), if_neg hf]
          have hst := fun w' (hw : w' = w) => step_any w' F g d (hw ▸ hd)
          rw [if_neg hf, show decide (d.fuel ≠ 0) = true by simp [hf]] at hst
          have HST := Lib.hid (hst w rfl)
          rw [HR]
          obtain ⟨k, rfl⟩ : ∃ k : Nat, i = k := ⟨i.toNat, by omega⟩
          clear HR hd hst
          obtain ⟨Z, hZ⟩ : ∃ Z, Z = zeroContent.toArray := ⟨_, rfl⟩
          have hz := fun w => zero_content w
          rw [← hZ] at hz
          have hzs : Z.size = 512 := by rw [hZ]; rfl
          have hzn : ¬ Z = #[] := by intro e; rw [e] at hzs; cases hzs
          have HZ := Lib.hid hZ
          clear hZ
          go_enter Tryz.func104, Tryz.ntmps104
          go_wp2_with fail
          refine (down_any _ _ _ _ HD.out).mono ?_
          rintro e w1 ⟨rfl, rfl⟩
          rw [ho']
          go_wp2_with fail
          refine (has_any _ _ _ _ _ HD.out).mono ?_
          rintro e w1 ⟨rfl, rfl⟩
          rw [hh]
          go_wp2_with fail
          refine HST.out.mono ?_
          rintro e w1 ⟨rfl, h1, h2⟩
          have HM := Lib.hid h2
          clear h2
          obtain ⟨f, cf, l, cl, vo, n, pf, pl, ws, T, k1, k2, k3, k4, kp, k5, k6, k6', k7, k8, k9, k10, k11, k12, k13, k14⟩ := h1
          have hsl := slice_content (w1.alloc (.cells Z 121)) w1.heap.size
          go_wp2_with (refine wpList_copy_str rfl _ _ 110 9 rfl 5 (by kernel_rfl) (by kernel_rfl) w1.heap.size 512 512 s rfl rfl Z 121 (heap_alloc_new w1 _) hs (by omega) ?_; refine Hid.out ?_)
          refine Lib.hid ?_
          obtain ⟨c, hc⟩ : ∃ c, w1.heap.size = c := ⟨_, rfl⟩
          rw [hc]
          obtain ⟨W, hW⟩ : ∃ W, W = (w1.alloc (.cells Z 121)).setRow c (strCells s ++ Z.toList.drop s.size).toArray := ⟨_, rfl⟩
          rw [← hW]
          have hb1 : But (· = c) w1 (w1.alloc (.cells Z 121)) := (But.refl _ w1).alloc _
          have hbW : But (· = c) w1 W := by rw [hW]; exact hb1.setRow c _ (fun _ => rfl)
          have hcW : Blk W c 121 ((Dk.full s.data.toList).map bcell) := by
            rw [← full_cells s, hW]
            have := setRow_heap (w1.alloc (.cells Z 121)) c Z (strCells s ++ Z.toList.drop s.size).toArray 121 (0, 0) (by rw [← hc]; exact heap_alloc_new w1 _)
            rw [HZ.out] at this ⊢
            exact this
          have hlt := fun k hk => k14 k hk
          rw [hc] at hlt
          have kW := k1.but hbW (fun e => by have := hlt _ k10; omega) (fun e => by have := hlt _ k11; omega) (fun e => by have := hlt _ k12; omega) (fun k hk e => by have := hlt _ (k13 k hk); omega)
          have tW := k2.but hbW (fun x hx e => by have := hlt _ (k2 x hx).2.1; omega)
          clear hW hb1 k1 k2 hsl
          have HF : d.firm.length = pf.length := by rw [show d.firm = d.burnt.firm from rfl, k3, List.length_map]
          have HP : pl.length = pf.length := by
            have := congrArg List.length kp
            rw [List.length_map, Dk.Disk.now, Dk.puts_length, k3, List.length_map] at this
            exact this.symm
          have hklt : k < pl.length := by omega
          have hkI : (k : Int) < pl.length := by omega
          have c1 : W.cell? ⟨g, 1, none⟩ = some (.slice (some ⟨l, 0, none⟩) pl.length cl) := kW.blk.cell rfl
          have clk : W.cell? ⟨l, k, none⟩ = some (ptr pl[k]) := by
            have := Own.lies kW.ol k (ptr pl[k]) (by rw [show ptrElem.cells pl = pl.map ptr from oneElem_cells _ _ _, List.getElem?_map, List.getElem?_eq_getElem hklt]; rfl)
            rwa [Nat.zero_add] at this
          have flk : W.frozen? ⟨l, k, none⟩ = false := Own.frozen kW.ol k
          unfold ptr at clk
          have kV := kW.setLatest k c
          have hbV : But (· = l) W (W.setCell ⟨l, k, none⟩ (ptr c)) := (But.refl _ W).setCell _ _ (fun _ => rfl)
          unfold ptr at kV hbV
          have c2 : (W.setCell ⟨l, k, none⟩ (.pointer (some ⟨c, 0, none⟩))).cell? ⟨g, 2, none⟩ = some vo := kV.blk.cell rfl
          have hws : ws.length ≤ 900000000 := by rw [show d.burnt.loose = d.loose from rfl] at k4; rw [k4, List.length_map] at hn; exact hn
          have HCW := Lib.hid (And.intro hbW (And.intro hcW (And.intro tW (And.intro kW (And.intro kV (And.intro hbV (And.intro hlt (And.intro k9 (And.intro k13 (And.intro k14 (And.intro k3 (And.intro k4 (And.intro k5 (And.intro kp HP))))))))))))))
          clear hbW hcW tW kW kV hbV hlt k9 k13 k14 k3 k4 k5 kp HF HP
          unfold ptr
          go_wp2_with (at_builtin; refine Hid.out ?_)
          refine Lib.hid ?_
          obtain ⟨hbW, hcW, tW, kW, kV, hbV, hlt, k9, k13, k14, k3, k4, k5, kp, HP⟩ := HCW.out
          clear HCW
          obtain ⟨V, hV⟩ : ∃ V, V = W.setCell ⟨l, k, none⟩ (.pointer (some ⟨c, 0, none⟩)) := ⟨_, rfl⟩
          rw [← hV] at kV hbV ⊢
          have hVs : W.heap.size = V.heap.size := by rw [hV]; simp [World.setCell]
          refine wpList_app2 wrST rfl _ _ rfl rfl (kV.oo.alloc _) (Nat.zero_le _) W.heap.size 0 1 1 [(k, c)] rfl rfl (by rw [hVs]; exact lies_wr V k c) (by omega) ?_
          intro v' w4 hown4 hg4 hat4
          obtain ⟨a', cp', hv', _⟩ := Own.slice hown4
          generalize (ws ++ [(k, c)]).length = N' at hv'
          subst hv'
          obtain ⟨v', hv'⟩ : ∃ v', v' = Value.slice a' N' cp' := ⟨_, rfl⟩
          rw [← hv'] at hown4 hat4
          change (V.alloc (.cells #[.int .i64 k, ptr c] 154)).grownBy w4 vo.ownBlock at hg4
          change v'.ownBlock = vo.ownBlock ∨ _ at hat4
          have k4' := (kV.alloc (.cells #[.int .i64 k, ptr c] 154)).grownLoose hg4 v' _ hown4
          have hbg : But (fun x => vo.ownBlock = some x) (V.alloc (.cells #[.int .i64 k, ptr c] 154)) w4 := ⟨hg4.os, hg4.tape, hg4.output, hg4.size, fun x hx hn => hg4.block x hx (fun e => hn e.symm)⟩
          have b4 := (kV.alloc (.cells #[.int .i64 k, ptr c] 154)).blk.but hbg kV.og
          have c2' : w4.cell? ⟨g, 2, none⟩ = some vo := b4.cell rfl
          have f2' : w4.frozen? ⟨g, 2, none⟩ = false := b4.frozen 2
          have hb5 : But (fun x => x = g ∨ x = l ∨ vo.ownBlock = some x) W (w4.setCell ⟨g, 2, none⟩ v') :=
            (((hbV.mono (T := fun x => x = g ∨ x = l ∨ vo.ownBlock = some x) (fun x _ e => .inr (.inl e))).alloc (.cells #[.int .i64 k, ptr c] 154)).trans hbg (fun x _ e => .inr (.inr e))).setCell ⟨g, 2, none⟩ v' (fun _ => .inl rfl)
          have H := Lib.hid (Sec.wrote (d := d.burnt) (t := Dk.full s.data.toList) hbW hc hcW (Dk.full_length _ (by omega)) tW kW k4' hb5 (fun x hx => by
            rcases hat4 with e | e
            · rw [e] at hx; exact .inl (k13 x hx)
            · have h1 := e x hx
              have h2 := hbW.size
              have h3 := hbV.size
              simp at h1
              exact .inr (by omega)) k3 k4 kp k5 k6 k6' k7 k8 k9 k10 k11 k12 k13 k14 (by omega) HP)
          rw [hv'] at H
          clear hv'
          clear hbW hcW tW kW kV hbV hlt k9 k13 k14 k3 k4 k5 kp HP hV hVs hown4 hg4 hat4 k4' hbg b4 hb5
          go_wp2
          go_ret
          obtain ⟨F', h1, h2⟩ := H.out
          exact ⟨rfl, F', h1, HM.out.trans h2⟩
      · have hsI : (s.size : Int) > 512 := by omega
        have HR : d.write i s.data.toList = (5, d) := by
          unfold Dk.Disk.write; rw [if_neg ho, hh, hsz, if_neg (by decide), if_pos (by omega)]
        rw [HR]
        clear HR hd
        go_enter Tryz.func104, Tryz.ntmps104
        go_wp2_with fail
        refine (down_any _ _ _ _ HD.out).mono ?_
        rintro e w1 ⟨rfl, rfl⟩
        rw [ho']
        go_wp2_with fail
        refine (has_any _ _ _ _ _ HD.out).mono ?_
        rintro e w1 ⟨rfl, rfl⟩
        rw [hh]
        go_wp2
        go_ret
        exact ⟨rfl, _, HD.out, Moved.refl _ _⟩
    · have hh' : d.has i = false := by simpa using hh
      have HR : d.write i s.data.toList = (2, d) := by unfold Dk.Disk.write; rw [if_neg ho, hh', if_pos (by decide)]
      rw [HR]
      clear HR hd
      go_enter Tryz.func104, Tryz.ntmps104
      go_wp2_with fail
      refine (down_any _ _ _ _ HD.out).mono ?_
      rintro e w1 ⟨rfl, rfl⟩
      rw [ho']
      go_wp2_with fail
      refine (has_any _ _ _ _ _ HD.out).mono ?_
      rintro e w1 ⟨rfl, rfl⟩
      rw [hh']
      go_wp2
      go_ret
      exact ⟨rfl, _, HD.out, Moved.refl _ _⟩
end Go.Proofs.YtahnhhhhfioibaaGreatDoor

namespace Go.Proofs.YtahnhhhhfioibaaGreatDoor
open Go.RowKit Lib

theorem make_ptrs (w : World) (n : Nat) (hn : n ≤ 1000000) : (Instr.makeSlice 83 (.int .i64 n) (.int .i64 n)).run Tryz.prog w = .ok (.slice (some ⟨w.heap.size, 0, none⟩) n n) (w.alloc (.cells (List.replicate n (.pointer none)).toArray 120)) := by
  obtain ⟨i, hi, hz, hs, hb⟩ := info_of (P := Tryz.prog) (E := 120) (size := 1) (bytes := 8) (z := .pointer none) (by kernel_rfl)
  have := run_make (P := Tryz.prog) w 83 120 i (.pointer none) Tryz.underlying83 hi hz .i64 .i64 n n (by omega) (by omega) (by rw [hb]; omega) (by omega)
  rw [this, hs, Int.toNat_natCast, Nat.mul_one, show (Value.pointer none).cells = #[.pointer none] from rfl, made_one]
theorem own_of_blk {w : World} {r n : Nat} {l : List Nat} (hb : Blk w r 120 (l.map ptr)) (hn : l.length = n) (hm : n ≤ 1000000) : Own ptrElem 120 0 w (.slice (some ⟨r, 0, none⟩) n n) l := by
  have e : ptrElem.cells l = l.map ptr := oneElem_cells _ _ _
  refine ⟨by rw [e, List.length_map]; exact (Nat.mul_one _).symm, .inr ⟨r, n, (l.map ptr).toArray, by rw [hn], Nat.zero_le _, hb, by omega, by unfold maxLen; omega, ?_, ?_⟩⟩
  · rw [List.size_toArray, List.length_map, hn]; exact (Nat.mul_one _).symm
  · rw [e]
    exact List.take_of_length_le (by rw [List.length_map]; exact Nat.le_of_eq (Nat.mul_one _).symm)
theorem fill_set (k n : Nat) (a b : Value) (hk : k < n) : (List.replicate k a ++ List.replicate (n - k) b).set k a = List.replicate (k + 1) a ++ List.replicate (n - (k + 1)) b := by
  rw [List.set_append_right _ _ (by simp)]
  obtain ⟨m, hm⟩ : ∃ m, n - k = m + 1 := ⟨n - k - 1, by omega⟩
  rw [hm, show n - (k + 1) = m by omega, List.length_replicate, Nat.sub_self, List.replicate_succ, List.set_cons_zero, List.replicate_succ']
  simp

set_option maxRecDepth 100000 in
theorem blank_any (n : Nat) (w : World) (hn : n ≤ 65536) :
    Calls Tryz.prog 39 #[.int .i64 n] w fun e w' => ∃ r c, e = .returned (.slice (some ⟨r, 0, none⟩) n n) ∧ Blk w' r 120 ((List.replicate n c).map ptr) ∧ Blk w' c 121 ((Dk.full []).map bcell) ∧ w.heap.size ≤ r ∧ w.heap.size ≤ c ∧ Below w.heap.size w w' := by
  obtain ⟨Z, hZ⟩ : ∃ Z, Z = zeroContent.toArray := ⟨_, rfl⟩
  have hz := fun w => zero_content w
  rw [← hZ] at hz
  have hzs : Z.size = 512 := by rw [hZ]; rfl
  have hzn : ¬ Z = #[] := by intro e; rw [e] at hzs; cases hzs
  have HZ := Lib.hid hZ
  clear hZ
  obtain ⟨R, hR⟩ : ∃ R, R = (List.replicate n (Value.pointer none)).toArray := ⟨_, rfl⟩
  have hmk := fun w => make_ptrs w n (by omega)
  rw [← hR] at hmk
  obtain ⟨c, hc⟩ : ∃ c, w.heap.size = c := ⟨_, rfl⟩
  have hw1 : (w.alloc (.cells Z 121)).heap.size = c + 1 := by simp [hc]
  obtain ⟨W, hW⟩ : ∃ W, W = (w.alloc (.cells Z 121)).alloc (.cells R 120) := ⟨_, rfl⟩
  have hmk1 := hmk (w.alloc (.cells Z 121))
  rw [hw1, ← hW] at hmk1
  have HB : Hid (Blk W (c + 1) 120 (List.replicate n (.pointer none)) ∧ Blk W c 121 ((Dk.full []).map bcell) ∧ Below c w W) := by
    refine Lib.hid ⟨?_, ?_, ?_⟩
    · have := Blk.new (w.alloc (.cells Z 121)) R 120
      rw [hw1, ← hW, hR] at this
      exact this
    · have := (Blk.new w Z 121).alloc (.cells R 120)
      rw [hc, ← hW, HZ.out] at this
      exact this
    · rw [hW]; exact ((Below.refl _ _).alloc (Nat.le_of_eq hc.symm) _).alloc (by rw [hw1]; omega) _
  have HR := Lib.hid hR
  clear hR hmk hW hw1
  go_enter Tryz.func39, Tryz.ntmps39
  rw [hc]
  go_wp2
  go_loopw [12] (fun i wr => ∃ k : Nat, k ≤ n ∧ i = .int .i64 k ∧ Blk wr (c + 1) 120 (List.replicate k (ptr c) ++ List.replicate (n - k) (.pointer none)) ∧ Blk wr c 121 ((Dk.full []).map bcell) ∧ Below c w wr) (fun i _ => n - (intOf i).toNat)
  case atStart => exact ⟨0, Nat.zero_le _, rfl, HB.out.1, HB.out.2.1, HB.out.2.2⟩
  case round =>
    obtain ⟨k, hk, rfl, hb, hb2, hbl⟩ := hrel
    by_cases hlt : k < n
    · have hI : (k : Int) < n := by omega
      have hcell : wr.cell? ⟨c + 1, k, none⟩ = some (.pointer none) := hb.cell (by rw [List.getElem?_append_right (by simp), List.length_replicate, Nat.sub_self, List.getElem?_replicate, if_pos (by omega)])
      have hfr : wr.frozen? ⟨c + 1, k, none⟩ = false := hb.frozen k
      have HH := Lib.hid (And.intro hb (And.intro hb2 hbl))
      clear hb hb2 hbl
      go_wp2
      go_roundw
      case rel =>
        obtain ⟨hb, hb2, hbl⟩ := HH.out
        refine ⟨k + 1, by omega, by go_num, ?_, ?_, ?_⟩
        · rw [← fill_set k n _ _ hlt]; exact hb.set k (ptr c)
        · exact hb2.other _ _ (by simp)
        · exact hbl.setCell (by simp) _
      case measure => simp [intOf]; omega
    · have hke : k = n := by omega
      subst hke
      have HH := Lib.hid (And.intro hb (And.intro hb2 hbl))
      clear hb hb2 hbl
      go_wp2
      go_ret
      obtain ⟨hb, hb2, hbl⟩ := HH.out
      refine ⟨c + 1, c, rfl, ?_, hb2, by omega, by omega, hbl⟩
      rw [List.map_replicate]
      simpa using hb

theorem new_sec {W : World} {F : Nat → Prop} {n r1 r2 c1 c2 g : Nat} (h1 : 1 ≤ n) (h2 : n ≤ 65536)
    (hg : Blk W g 87 [.slice (some ⟨r1, 0, none⟩) n n, .slice (some ⟨r2, 0, none⟩) n n, .slice none 0 0, .int .i64 (-1), .bool false])
    (b1 : Blk W r1 120 ((List.replicate n c1).map ptr)) (b2 : Blk W r2 120 ((List.replicate n c2).map ptr)) (hr : r1 ≠ r2)
    (t1 : Blk W c1 121 ((Dk.full []).map bcell)) (t2 : Blk W c2 121 ((Dk.full []).map bcell)) (hF : ∀ k, F k → k < W.heap.size) (f1 : F g) (f2 : F r1) (f3 : F r2) (f4 : F c1) (f5 : F c2) : Sec W F g (Dk.fresh n) := by
  have e1 : (List.replicate n c1).length = n := List.length_replicate
  have e2 : (List.replicate n c2).length = n := List.length_replicate
  refine ⟨r1, n, r2, n, .slice none 0 0, -1, List.replicate n c1, List.replicate n c2, [], fun _ => Dk.full [], ⟨?_, ?_, ?_, Own.nil _ _ _ _, hr⟩, ?_, ?_, rfl, ?_, rfl, by decide, by decide, by rw [e1]; exact h1, by rw [e1]; exact h2, ?_, f1, f2, f3, ?_, hF⟩
  · rw [e1, e2]; exact hg
  · rw [e1]; exact own_of_blk b1 e1 (by omega)
  · rw [e2]; exact own_of_blk b2 e2 (by omega)
  · intro x hx
    simp only [List.map_nil, List.append_nil, List.mem_append, List.mem_replicate] at hx
    rcases hx with ⟨_, rfl⟩ | ⟨_, rfl⟩
    · exact ⟨t1, f4, Dk.full_length [] (by decide)⟩
    · exact ⟨t2, f5, Dk.full_length [] (by decide)⟩
  · rw [List.map_replicate]; rfl
  · rw [List.map_replicate]; rfl
  · intro x hx; cases hx
  · intro k hk; simp [Value.ownBlock] at hk

set_option maxRecDepth 100000 in
theorem new_any (n : Nat) (w : World) (h1 : 1 ≤ n) (h2 : n ≤ 65536) :
    Calls Tryz.prog 8 #[.int .i64 n] w fun e w' => ∃ g F, e = .returned (.tuple #[ptr g, .int .i64 0]) ∧ Sec w' F g (Dk.fresh n) ∧ (∀ k, F k → w.heap.size ≤ k) ∧ Below w.heap.size w w' := by
  have h1I : ¬ (n : Int) < 1 := by omega
  have h2I : ¬ (n : Int) > 65536 := by omega
  go_enter Tryz.func8, Tryz.ntmps8
  go_wp2_with fail
  refine (blank_any n w h2).mono ?_
  rintro e w1 ⟨r1, c1, rfl, b1, t1, l1, m1, bl1⟩
  go_wp2_with fail
  refine (blank_any n w1 h2).mono ?_
  rintro e w2 ⟨r2, c2, rfl, b2, t2, l2, m2, bl2⟩
  have hs1 := bl1.size
  have hs2 := bl2.size
  have hr1 := b1.lt
  have hr2 := b2.lt
  have hc1 := t1.lt
  have hc2 := t2.lt
  have b1' := b1.below bl2 hr1
  have t1' := t1.below bl2 hc1
  have HN := Lib.hid (new_sec (F := fun k => w.heap.size ≤ k ∧ k < w2.heap.size + 1) h1 h2 (Blk.new w2 _ _) (b1'.alloc _) (b2.alloc _) (by omega) (t1'.alloc _) (t2.alloc _) (fun k hk => by simp; exact hk.2) ⟨by omega, by omega⟩ ⟨by omega, by omega⟩ ⟨by omega, by omega⟩ ⟨by omega, by omega⟩ ⟨by omega, by omega⟩)
  have hbl := (bl1.trans (bl2.mono hs1)).alloc (by omega) (.cells #[.slice (some ⟨r1, 0, none⟩) n n, .slice (some ⟨r2, 0, none⟩) n n, .slice none 0 0, .int .i64 (-1), .bool false] 87)
  have HB := Lib.hid hbl
  clear b1 b2 t1 t2 b1' t1' bl1 bl2 hbl
  go_wp2
  go_ret2
  exact ⟨_, _, rfl, HN.out, fun k hk => hk.1, HB.out⟩
theorem new_not (n : Int) (w : World) (h : n < 1 ∨ 65536 < n) :
    Calls Tryz.prog 8 #[.int .i64 n] w fun e w' => e = .returned (.tuple #[.pointer none, .int .i64 1]) ∧ w' = w := by
  by_cases h1 : n < 1
  · go_enter Tryz.func8, Tryz.ntmps8
    go_wp2
    go_ret2
    exact ⟨rfl, rfl⟩
  · have h2 : n > 65536 := by omega
    go_enter Tryz.func8, Tryz.ntmps8
    go_wp2
    go_ret2
    exact ⟨rfl, rfl⟩
theorem write_nil (w : World) (i : Int) (s : ByteArray) :
    Calls Tryz.prog 104 #[.pointer none, .int .i64 i, .string s] w fun e w' => e = .returned (.int .i64 3) ∧ w' = w := by
  go_enter Tryz.func104, Tryz.ntmps104
  go_wp2_with fail
  refine (down_nil _).mono ?_
  rintro e w1 ⟨rfl, rfl⟩
  go_wp2
  go_ret
  exact ⟨rfl, rfl⟩
end Go.Proofs.YtahnhhhhfioibaaGreatDoor

namespace Go.Proofs.YtahnhhhhfioibaaGreatDoor
open Go.RowKit Lib

theorem Own.wrAt {w : World} {o n co : Nat} {ws : List (Nat × Nat)} (h : Own wrElem 154 0 w (.slice (some ⟨o, 0, none⟩) n co) ws) (k : Nat) (hk : k < ws.length) :
    w.cell? ⟨o, k * 2, none⟩ = some (.int .i64 (ws[k]).1) ∧ w.cell? ⟨o, k * 2 + 1, none⟩ = some (ptr (ws[k]).2) := by
  have h0 := (Own.lies h).at k 0 (by decide) hk _ rfl
  have h1 := (Own.lies h).at k 1 (by decide) hk _ rfl
  rw [Nat.zero_add] at h0 h1
  exact ⟨h0, h1⟩
theorem Own.ptrAt {w : World} {f n cf : Nat} {pf : List Nat} (h : Own ptrElem 120 0 w (.slice (some ⟨f, 0, none⟩) n cf) pf) (j : Nat) (hj : j < pf.length) : w.cell? ⟨f, j, none⟩ = some (ptr pf[j]) := by
  have := Own.lies h j (ptr pf[j]) (by rw [show ptrElem.cells pf = pf.map ptr from oneElem_cells _ _ _, List.getElem?_map, List.getElem?_eq_getElem hj]; rfl)
  rwa [Nat.zero_add] at this
theorem Own.ptrSome {w : World} {f n cf : Nat} {pf : List Nat} (h : Own ptrElem 120 0 w (.slice (some ⟨f, 0, none⟩) n cf) pf) (j : Nat) (hj : j < pf.length) : ∃ y, w.cell? ⟨f, j, none⟩ = some (.pointer (some ⟨y, 0, none⟩)) := ⟨_, h.ptrAt j hj⟩
theorem Own.len_le {α : Type} {K : Elem α} {E : TypeId} {B : Nat} {w : World} {v : Value} {l : List α} (h : Own K E B w v l) : l.length ≤ 9223372036854775807 := by
  rcases h.2 with ⟨_, e⟩ | ⟨_, _, _, _, _, _, hc, hm, _⟩
  · omega
  · unfold maxLen at hm; omega

set_option maxRecDepth 100000 in
set_option maxHeartbeats 1000000 in
theorem flush_any (w : World) (F : Nat → Prop) (g : Nat) (d : Dk.Disk) (hd : Sec w F g d) :
    Calls Tryz.prog 78 #[ptr g] w fun e w' => e = .returned (.int .i64 d.flush.1) ∧ Sec w' F g d.flush.2 ∧ Moved F w F w' := by
  have HD := Lib.hid hd
  by_cases ho : d.off = true
  · have HR : d.flush = (3, d) := by unfold Dk.Disk.flush; rw [if_pos ho]
    rw [HR]
    clear HR hd
    go_enter Tryz.func78, Tryz.ntmps78
    go_wp2_with fail
    refine (down_any _ _ _ _ HD.out).mono ?_
    rintro e w1 ⟨rfl, rfl⟩
    rw [ho]
    go_wp2
    go_ret
    exact ⟨rfl, HD.out, Moved.refl _ _⟩
  · have ho' : d.off = false := by simpa using ho
    by_cases hf : d.fuel = 0
    · have HR : d.flush = (3, d.dead) := by unfold Dk.Disk.flush; rw [if_neg ho, if_pos hf]
      have hst := fun w' (hw : w' = w) => step_any w' F g d (hw ▸ hd)
      rw [if_pos hf, show decide (d.fuel ≠ 0) = false by simp [hf]] at hst
      have HST := Lib.hid (hst w rfl)
      rw [HR]
      clear HR hd hst
      go_enter Tryz.func78, Tryz.ntmps78
      go_wp2_with fail
      refine (down_any _ _ _ _ HD.out).mono ?_
      rintro e w1 ⟨rfl, rfl⟩
      rw [ho']
      go_wp2_with fail
      refine HST.out.mono ?_
      rintro e w1 ⟨rfl, h1, h2⟩
      have H12 := Lib.hid (And.intro h1 h2)
      clear h1 h2
      go_wp2
      go_ret
      exact ⟨rfl, H12.out⟩
    · have HR : d.flush = (0, { d.burnt with firm := d.now, loose := [] }) := by unfold Dk.Disk.flush; rw [if_neg ho, if_neg hf]
      have hst := fun w' (hw : w' = w) => step_any w' F g d (hw ▸ hd)
      rw [if_neg hf, show decide (d.fuel ≠ 0) = true by simp [hf]] at hst
      have HST := Lib.hid (hst w rfl)
      rw [HR]
      clear HR hd hst
      go_enter Tryz.func78, Tryz.ntmps78
      go_wp2_with fail
      refine (down_any _ _ _ _ HD.out).mono ?_
      rintro e w1 ⟨rfl, rfl⟩
      rw [ho']
      go_wp2_with fail
      refine HST.out.mono ?_
      rintro e w1 ⟨rfl, h1, h2⟩
      have HM := Lib.hid h2
      clear h2
      obtain ⟨f, cf, l, cl, vo, n, pf, pl, ws, T, k1, k2, k3, k4, kp, k5, k6, k6', k7, k8, k9, k10, k11, k12, k13, k14⟩ := h1
      have c2 : w1.cell? ⟨g, 2, none⟩ = some vo := k1.blk.cell rfl
      obtain ⟨a, co, rfl, hco⟩ := Own.slice k1.oo
      have hwl := Own.len_le k1.oo
      have HK := Lib.hid (And.intro k2 (And.intro k3 (And.intro k4 (And.intro kp (And.intro k5 (And.intro k13 k14))))))
      have H1 := Lib.hid k1
      have H9 := Lib.hid k9
      clear k1 k2 k3 k4 kp k5 k13 k14 k9
      unfold ptr
      go_wp2
      go_loopw [17] (fun i wr => ∃ k : Nat, k ≤ ws.length ∧ i = .int .i64 k ∧ SecIn wr g f cf l cl (.slice a ws.length co) n d.burnt.off (Dk.puts pf (ws.take k)) pl ws ∧ But (· = f) w1 wr) (fun i _ => ws.length - (intOf i).toNat)
      case atStart => exact ⟨0, Nat.zero_le _, rfl, H1.out, But.refl _ _⟩
      case round =>
        obtain ⟨k, hk, rfl, hs, hb⟩ := hrel
        by_cases hlt : k < ws.length
        · have hI : (k : Int) < ws.length := by omega
          obtain ⟨o, co', e1, _, _, _⟩ := Own.form hs.oo (by omega)
          injection e1 with e1 _ e3
          subst e1 e3
          obtain ⟨ca, cb⟩ := Own.wrAt hs.oo k hlt
          have hps : (Dk.puts pf (ws.take k)).length = pf.length := Dk.puts_length _ _
          have hat := H9.out ws[k] (List.getElem_mem hlt)
          have c0 : wr.cell? ⟨g, 0, none⟩ = some (.slice (some ⟨f, 0, none⟩) (Dk.puts pf (ws.take k)).length cf) := hs.blk.cell rfl
          have hfl : (ws[k]).1 < (Dk.puts pf (ws.take k)).length := by omega
          obtain ⟨y, cfi⟩ := hs.of.ptrSome (ws[k]).1 hfl
          have ffi : wr.frozen? ⟨f, (ws[k]).1, none⟩ = false := Own.frozen hs.of _
          rw [hps] at c0
          have HH := Lib.hid (And.intro hs hb)
          have HX := Lib.hid (Dk.puts_take pf ws k hlt)
          clear hs hb hps hfl
          generalize ws[k] = x at *
          obtain ⟨at', c⟩ := x
          have hatI : (at' : Int) < pf.length := by have := hat; simp only at this; omega
          simp only at ca cb cfi ffi
          unfold ptr at cb
          go_wp2
          obtain ⟨q, hq⟩ : ∃ q, wr.heap.size = q := ⟨_, rfl⟩
          rw [hq]
          obtain ⟨V, hV⟩ : ∃ V, V = wr.alloc (.cells #[.int .i64 at', .pointer (some ⟨c, 0, none⟩)] 154) := ⟨_, rfl⟩
          rw [← hV]
          have hbV : But (fun _ => False) wr V := by rw [hV]; exact (But.refl _ _).alloc _
          have bq : Blk V q 154 [.int .i64 at', .pointer (some ⟨c, 0, none⟩)] := by rw [hV, ← hq]; exact Blk.new wr _ _
          have c0' : V.cell? ⟨g, 0, none⟩ = some (.slice (some ⟨f, 0, none⟩) pf.length cf) := hbV.cell c0 id
          have cfi' : V.cell? ⟨f, at', none⟩ = some (.pointer (some ⟨y, 0, none⟩)) := hbV.cell cfi id
          have ffi' : V.frozen? ⟨f, at', none⟩ = false := (hbV.frozen (World.block_lt_of_cell? _ _ cfi) id).trans ffi
          have q0 : V.cell? ⟨q, 0, none⟩ = some (.int .i64 at') := bq.cell rfl
          have q1 : V.cell? ⟨q, 1, none⟩ = some (.pointer (some ⟨c, 0, none⟩)) := bq.cell rfl
          have HVB := Lib.hid hbV
          clear hV hbV bq c0 cfi ffi ca cb hq
          go_still_tail 9, (by kernel_rfl)
          change wpList _ _ _ _ _ V.drew
          obtain ⟨U, hU⟩ : ∃ U, U = V.drew := ⟨_, rfl⟩
          rw [← hU]
          have hbU : But (fun _ => False) V U := by rw [hU]; exact (But.refl _ _).drew
          have cfu : U.cell? ⟨f, at', none⟩ = some (.pointer (some ⟨y, 0, none⟩)) := hbU.cell cfi' id
          have ffu : U.frozen? ⟨f, at', none⟩ = false := (hbU.frozen (World.block_lt_of_cell? _ _ cfi') id).trans ffi'
          have HBU := Lib.hid (HVB.out.trans hbU (fun _ _ h => h))
          clear hU hbU c0' cfi' ffi' q0 q1 HVB
          go_wp2
          go_roundw
          case rel =>
            refine ⟨k + 1, by omega, by go_num, ?_, ?_⟩
            · rw [HX.out]
              exact (HH.out.1.but HBU.out id id id (fun _ _ => id)).setFirm at' c
            · exact (HH.out.2.trans HBU.out (fun _ _ h => h.elim)).setCell ⟨f, at', none⟩ _ (fun _ => rfl)
          case measure => simp [intOf]; omega
        · have hke : k = ws.length := by omega
          subst hke
          rw [List.take_length] at hs
          have b2 : wr.cell? ⟨g, 2, none⟩ = some (.slice a ws.length co) := hs.blk.cell rfl
          have f2 : wr.frozen? ⟨g, 2, none⟩ = false := hs.blk.frozen 2
          have hps : (Dk.puts pf ws).length = pf.length := Dk.puts_length _ _
          have HH := Lib.hid (show Sec (wr.setCell ⟨g, 2, none⟩ (.slice none 0 0)) F g { d.burnt with firm := d.now, loose := [] } ∧ Moved F w1 F (wr.setCell ⟨g, 2, none⟩ (.slice none 0 0)) by
            obtain ⟨k2, k3, k4, kp, k5, k13, k14⟩ := HK.out
            have hbg : But (fun x => x = f ∨ x = g) w1 (wr.setCell ⟨g, 2, none⟩ (.slice none 0 0)) := (hb.mono (fun x _ e => .inl e)).setCell _ _ (fun _ => .inr rfl)
            have hs' := hs.setLoose (.slice none 0 0) [] (Own.nil _ _ _ _)
            refine ⟨⟨f, cf, l, cl, _, n, Dk.puts pf ws, pl, [], T, hs', ?_, ?_, rfl, ?_, k5, k6, k6', by omega, by omega, ?_, k10, k11, k12, ?_, fun x hx => Nat.lt_of_lt_of_le (k14 x hx) hbg.size⟩, hbg.mono (fun x _ e => by rcases e with rfl | rfl; exact k11; exact k10), fun x hx => .inl hx⟩
            · intro x hx
              have hx' : x ∈ pf ++ (pl ++ ws.map (·.2)) := by
                simp only [List.map_nil, List.append_nil, List.mem_append] at hx ⊢
                rcases hx with hx | hx
                · rcases Dk.puts_mem ws pf _ hx with h | ⟨j, h⟩
                  · exact .inl h
                  · exact .inr (.inr (List.mem_map.2 ⟨_, h, rfl⟩))
                · exact .inr (.inl hx)
              obtain ⟨h1, h2, h3⟩ := k2 x hx'
              refine ⟨h1.but hbg ?_, h2, h3⟩
              rintro (e | e)
              · exact H1.out.of.ne_blk h1 (by decide) (by rw [e]; rfl)
              · exact h1.ne H1.out.blk (by decide) e
            · show d.now = _
              rw [Dk.puts_map, ← k3, ← k4]; rfl
            · show Dk.puts d.now [] = _
              exact kp
            · intro x hx; cases hx
            · intro x hx; simp [Value.ownBlock] at hx)
          clear hs hb HK hps
          go_wp2
          go_ret
          exact ⟨rfl, HH.out.1, HM.out.trans HH.out.2⟩
end Go.Proofs.YtahnhhhhfioibaaGreatDoor

namespace Go.Proofs.YtahnhhhhfioibaaGreatDoor
open Go.RowKit Lib

/-- v reads as the bools l. -/
def RdB (w : World) (v : Value) (l : List Bool) : Prop :=
  ∃ (a : Option Addr) (cap : Nat), v = .slice a l.length cap ∧ l.length ≤ cap ∧ ∀ i (_ : i < l.length), ∃ g o, a = some ⟨g, o, none⟩ ∧ g < w.heap.size ∧ ∀ j (hj : j < l.length), w.cell? ⟨g, o + j, none⟩ = some (.bool l[j])
theorem RdB.but {S : Nat → Prop} {w w' : World} {v : Value} {l : List Bool} (h : RdB w v l) (hb : But S w w') (hn : ∀ b, v.ownBlock = some b → ¬ S b) : RdB w' v l := by
  obtain ⟨a, cap, rfl, hc, hi⟩ := h
  refine ⟨a, cap, rfl, hc, fun i hil => ?_⟩
  obtain ⟨g, o, rfl, e2, e3⟩ := hi i hil
  exact ⟨g, o, rfl, Nat.lt_of_lt_of_le e2 hb.size, fun j hj => hb.cell (e3 j hj) (hn g rfl)⟩
theorem RdB.lt {w : World} {v : Value} {l : List Bool} (h : RdB w v l) (h0 : 0 < l.length) : ∀ b, v.ownBlock = some b → b < w.heap.size := by
  obtain ⟨a, cap, rfl, _, hi⟩ := h
  obtain ⟨g, o, rfl, e2, _⟩ := hi 0 h0
  intro b hb
  simp only [Value.ownBlock, Option.some.injEq] at hb
  omega
theorem RdB.nil (w : World) : RdB w (.slice none 0 0) [] := ⟨none, 0, rfl, Nat.le_refl _, fun i hi => by simp at hi⟩

theorem Sec.fallen {w w3 : World} {F : Nat → Prop} {g f cf l cl : Nat} {vo : Value} {n : Int} {d : Dk.Disk} {keep : List Bool} {pf pl : List Nat} {ws : List (Nat × Nat)} {T : Nat → List UInt8}
    (hs : SecIn w3 g f cf l cl vo n d.off (Dk.puts pf (Dk.kept keep ws)) (Dk.sets (Dk.puts pf (Dk.kept keep ws)) pl ws) ws) (hb : But (fun x => x = f ∨ x = l) w w3)
    (k1 : SecIn w g f cf l cl vo n d.off pf pl ws) (k2 : Txts w F T (pf ++ (pl ++ ws.map (·.2)))) (k3 : d.firm = pf.map T) (k4 : d.loose = ws.map (fun x => (x.1, T x.2))) (kp : d.now = pl.map T)
    (k7 : 1 ≤ pf.length) (k8 : pf.length ≤ 65536) (k10 : F g) (k11 : F f) (k12 : F l) (k14 : ∀ k, F k → k < w.heap.size) :
    Sec (((w3.setCell ⟨g, 2, none⟩ (.slice none 0 0)).setCell ⟨g, 3, none⟩ (.int .i64 (-1))).setCell ⟨g, 4, none⟩ (.bool false)) F g (d.fall keep) ∧
      Moved F w F (((w3.setCell ⟨g, 2, none⟩ (.slice none 0 0)).setCell ⟨g, 3, none⟩ (.int .i64 (-1))).setCell ⟨g, 4, none⟩ (.bool false)) := by
  have hbg : But (fun x => x = f ∨ x = l ∨ x = g) w (((w3.setCell ⟨g, 2, none⟩ (.slice none 0 0)).setCell ⟨g, 3, none⟩ (.int .i64 (-1))).setCell ⟨g, 4, none⟩ (.bool false)) :=
    (((hb.mono (T := fun x => x = f ∨ x = l ∨ x = g) (fun x _ e => by rcases e with e | e; exact .inl e; exact .inr (.inl e))).setCell _ _ (fun _ => .inr (.inr rfl))).setCell _ _ (fun _ => .inr (.inr rfl))).setCell _ _ (fun _ => .inr (.inr rfl))
  have hs' := ((hs.setLoose (.slice none 0 0) [] (Own.nil _ _ _ _)).setLeft (-1)).setDown false
  have hPl : (Dk.puts pf (Dk.kept keep ws)).length = pf.length := Dk.puts_length _ _
  have hPT : (Dk.puts pf (Dk.kept keep ws)).map T = Dk.puts d.firm (Dk.kept keep d.loose) := by rw [Dk.puts_map, k3, k4, Dk.kept_map]
  refine ⟨⟨f, cf, l, cl, _, -1, _, _, [], T, hs', ?_, hPT.symm, rfl, ?_, rfl, by decide, by decide, by omega, by omega, ?_, k10, k11, k12, ?_, fun x hx => Nat.lt_of_lt_of_le (k14 x hx) hbg.size⟩, hbg.mono (fun x _ e => by rcases e with rfl | rfl | rfl; exact k11; exact k12; exact k10), fun x hx => .inl hx⟩
  · intro x hx
    have hP : ∀ x, x ∈ Dk.puts pf (Dk.kept keep ws) → x ∈ pf ++ (pl ++ ws.map (·.2)) := by
      intro x hx
      rcases Dk.puts_mem _ _ _ hx with h | ⟨j, h⟩
      · exact List.mem_append_left _ h
      · exact List.mem_append_right _ (List.mem_append_right _ (List.mem_map.2 ⟨_, Dk.kept_mem _ _ _ h, rfl⟩))
    have hx' : x ∈ pf ++ (pl ++ ws.map (·.2)) := by
      simp only [List.map_nil, List.append_nil] at hx
      rcases List.mem_append.1 hx with hx | hx
      · exact hP x hx
      · rcases Dk.sets_mem _ _ _ _ hx with h | h
        · exact List.mem_append_right _ (List.mem_append_left _ h)
        · exact hP x h
    obtain ⟨h1, h2, h3⟩ := k2 x hx'
    refine ⟨h1.but hbg ?_, h2, h3⟩
    rintro (e | e | e)
    · exact k1.of.ne_blk h1 (by decide) (by rw [e]; rfl)
    · exact k1.ol.ne_blk h1 (by decide) (by rw [e]; rfl)
    · exact h1.ne k1.blk (by decide) e
  · show Dk.puts (Dk.puts d.firm (Dk.kept keep d.loose)) [] = _
    rw [Dk.sets_map, hPT, ← kp, ← k4, show d.now = Dk.puts d.firm d.loose from rfl, Dk.sets_all _ _ _ (fun x hx => Dk.kept_mem _ _ _ hx)]
    rfl
  · intro x hx; cases hx
  · intro x hx; simp [Value.ownBlock] at hx

end Go.Proofs.YtahnhhhhfioibaaGreatDoor
