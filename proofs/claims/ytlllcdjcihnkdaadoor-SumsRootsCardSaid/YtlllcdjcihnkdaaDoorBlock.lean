/- A block of memory that is known whole, as a list of cells. -/
import Derived.WalkKit
import Derived.WalkSmall
import Derived.Deep.MidRow
import Derived.RegionTactic
namespace Go.Proofs.YtlllcdjcihnkdaaDoor
open Go.RowKit

/-- Block b holds the cells xs. -/
def Blk (w : World) (b : Nat) (t : TypeId) (xs : List Value) : Prop := w.heap[b]? = some (.cells xs.toArray t (0, 0))

theorem Blk.lt {w : World} {b : Nat} {t : TypeId} {xs : List Value} (h : Blk w b t xs) : b < w.heap.size := by
  rcases Nat.lt_or_ge b w.heap.size with h' | h'
  · exact h'
  · unfold Blk at h
    rw [Array.getElem?_eq_none h'] at h
    cases h
theorem Blk.cell {w : World} {b : Nat} {t : TypeId} {xs : List Value} (h : Blk w b t xs) {j : Nat} {v : Value} (hj : xs[j]? = some v) : w.cell? ⟨b, j, none⟩ = some v := by
  rw [cell_of_row w b j _ t (0, 0) h]
  simpa using hj
theorem Blk.free {w : World} {b : Nat} {t : TypeId} {xs : List Value} (h : Blk w b t xs) (j : Nat) : w.frozen? ⟨b, j, none⟩ = false := frozen_of_row w b j _ t h
theorem Blk.new (w : World) (t : TypeId) (cs : Array Value) : Blk (w.alloc (.cells cs t)) w.heap.size t cs.toList := by
  unfold Blk
  rw [Array.toArray_toList]
  exact heap_alloc_new w _
theorem Blk.alloc {w : World} {b : Nat} {t : TypeId} {xs : List Value} (h : Blk w b t xs) (o : Obj) : Blk (w.alloc o) b t xs := by
  unfold Blk
  rw [heap_alloc_old w o h.lt]
  exact h
theorem Blk.drew {w : World} {b : Nat} {t : TypeId} {xs : List Value} (h : Blk w b t xs) : Blk w.drew b t xs := h
theorem Blk.drewN {w : World} {b : Nat} {t : TypeId} {xs : List Value} (h : Blk w b t xs) (n : Nat) : Blk (w.drewN n) b t xs := h
theorem Blk.below {w w' : World} {B b : Nat} {t : TypeId} {xs : List Value} (h : Blk w b t xs) (hb : Below B w w') (hB : b < B) : Blk w' b t xs := (hb.block b hB).trans h
theorem Blk.set {w : World} {b : Nat} {t : TypeId} {xs : List Value} (h : Blk w b t xs) (j : Nat) (v : Value) : Blk (w.setCell ⟨b, j, none⟩ v) b t (xs.set j v) := by
  have := heap_setCell_same w b j _ t v h
  unfold Blk
  rw [this]
  simp
theorem Blk.setOther {w : World} {b : Nat} {t : TypeId} {xs : List Value} (h : Blk w b t xs) (a : Addr) (v : Value) (hne : b ≠ a.block) : Blk (w.setCell a v) b t xs := by
  unfold Blk
  rw [heap_setCell_other w a b v hne]
  exact h
theorem Blk.grown {w w' : World} {b : Nat} {t : TypeId} {xs : List Value} {row : Option Nat} (h : Blk w b t xs) (hg : w.grownBy w' row) (hne : some b ≠ row) : Blk w' b t xs := (hg.block b h.lt hne).trans h

theorem Blk.setCells {b : Nat} {t : TypeId} : ∀ (ys pre post olds : List Value) (w : World), olds.length = ys.length → Blk w b t (pre ++ olds ++ post) → Blk (w.setCells b pre.length ys) b t (pre ++ ys ++ post)
  | [], pre, post, olds, w, hl, h => by
    obtain rfl : olds = [] := List.eq_nil_of_length_eq_zero hl
    exact h
  | y :: ys, pre, post, [], w, hl, h => by simp at hl
  | y :: ys, pre, post, o :: olds, w, hl, h => by
    have h1 := h.set pre.length y
    have e : (pre ++ (o :: olds) ++ post).set pre.length y = (pre ++ [y]) ++ olds ++ post := by simp
    rw [e] at h1
    have h2 := Blk.setCells ys (pre ++ [y]) post olds _ (by simpa using hl) h1
    have e2 : pre ++ [y] ++ ys ++ post = pre ++ (y :: ys) ++ post := by simp
    rw [e2] at h2
    simpa [World.setCells] using h2
theorem grownBy_setCells {b : Nat} : ∀ (ys : List Value) (o : Nat) (w : World), w.grownBy (w.setCells b o ys) (some b)
  | [], _, w => ⟨rfl, rfl, rfl, Nat.le_refl _, fun _ _ _ => rfl⟩
  | y :: ys, o, w => by
    have h := grownBy_setCells (b := b) ys (o + 1) (w.setCell ⟨b, o, none⟩ y)
    refine ⟨h.os, h.tape, h.output, Nat.le_trans (by simp [World.setCell]) h.size, fun k hk hne => ?_⟩
    have h2 := h.block k (by simpa [World.setCell] using hk) hne
    have h3 := heap_setCell_other w ⟨b, o, none⟩ k y (fun e => hne (by simp [e]))
    exact h2.trans h3

theorem cell_set_off {w : World} {b i j : Nat} {v u : Value} (h : w.cell? ⟨b, j, none⟩ = some u) (hne : ¬ j = i) : (w.setCell ⟨b, i, none⟩ v).cell? ⟨b, j, none⟩ = some u :=
  (World.cell?_setCell_other w _ _ v (fun e => hne (by injection e with _ e2 _; exact e2.symm))).trans h
theorem setCells_size {b : Nat} : ∀ (ys : List Value) (o : Nat) (w : World), (w.setCells b o ys).heap.size = w.heap.size
  | [], _, _ => rfl
  | y :: ys, o, w => (setCells_size ys (o + 1) _).trans (by simp [World.setCell])
section
variable {P : Program}
/-- A whole array is stored. -/
theorem wp_store_blk {op : Oper} {a : Act} {w : World} {K : Act → World → Prop} {Q : Exit → Act → World → Prop} (ty : TypeId) (x y : Operand) (ho : op.op = .store ty x y)
    (b : Nat) (t : TypeId) (olds : List Value) (cells : Array Value) (hx : a.eval x = .pointer (some ⟨b, 0, none⟩)) (hy : a.eval y = .agg cells)
    (hblk : Blk w b t olds) (hl : olds.length = cells.size) (hi : (P.info? ty).map (·.size) = some cells.size) (h1 : cells.all (·.oneCell') = true)
    (h : ∀ w', Blk w' b t cells.toList → w.grownBy w' (some b) → w'.heap.size = w.heap.size → K (a.put op.dst undef) w') : op.wp P a w K Q := by
  refine wp_store_mid ty x y ho b 0 cells hx hy (fun j hj => ?_) hi h1 (h _ ?_ (grownBy_setCells _ _ _) (setCells_size _ _ _))
  · obtain ⟨v, hv⟩ : ∃ v, olds[j]? = some v := ⟨_, List.getElem?_eq_getElem (by omega)⟩
    rw [Nat.zero_add]
    exact ⟨by rw [hblk.cell hv]; rfl, hblk.free j⟩
  · have := Blk.setCells (b := b) (t := t) cells.toList [] [] olds w (by simpa using hl) (by simpa using hblk)
    simpa using this
theorem step_store_blk {ops : Array Oper} {op : Oper} {a : Act} {w : World} {K : Act → World → Prop} {Q : Exit → Act → World → Prop} {E : Prop} (hgd : op.guard = none) (ty : TypeId) (x y : Operand) (ho : op.op = .store ty x y)
    (b : Nat) (t : TypeId) (olds : List Value) (cells : Array Value) (hx : a.eval x = .pointer (some ⟨b, 0, none⟩)) (hy : a.eval y = .agg cells)
    (hblk : Blk w b t olds) (hl : olds.length = cells.size) (hi : (P.info? ty).map (·.size) = some cells.size) (h1 : cells.all (·.oneCell') = true)
    (h : ∀ w', Blk w' b t cells.toList → w.grownBy w' (some b) → w'.heap.size = w.heap.size → K (a.put op.dst undef) w') :
    if Region.wanted op (yielded ops a.tmps) = true then Oper.wp P op a w K Q else E := by
  have hw : Region.wanted op (yielded ops a.tmps) = true := by simp [Region.wanted, hgd]
  rw [if_pos hw]
  exact wp_store_blk ty x y ho b t olds cells hx hy hblk hl hi h1 h
theorem wpList_store_blk {ops : Array Oper} {rest : List Oper} {op : Oper} {a : Act} {w : World} {Q : Exit → Act → World → Prop} (hgd : op.guard = none) (ty : TypeId) (x y : Operand) (ho : op.op = .store ty x y)
    (b : Nat) (t : TypeId) (olds : List Value) (cells : Array Value) (hx : a.eval x = .pointer (some ⟨b, 0, none⟩)) (hy : a.eval y = .agg cells)
    (hblk : Blk w b t olds) (hl : olds.length = cells.size) (hi : (P.info? ty).map (·.size) = some cells.size) (h1 : cells.all (·.oneCell') = true)
    (h : ∀ w', Blk w' b t cells.toList → w.grownBy w' (some b) → w'.heap.size = w.heap.size → wpList P ops Q rest (a.put op.dst undef) w') : wpList P ops Q (op :: rest) a w :=
  wpList_plain hgd fun _ hK => wp_store_blk ty x y ho b t olds cells hx hy hblk hl hi h1 fun w' h2 h3 h4 => hK _ _ (h w' h2 h3 h4)
end

/-- Numbers of 32 bits as cells. -/
def u32s (l : List Nat) : List Value := l.map fun (n : Nat) => Value.int .u32 (n : Int)
theorem u32s_length (l : List Nat) : (u32s l).length = l.length := by simp [u32s]
theorem u32s_get (l : List Nat) (j : Nat) (h : j < l.length) : (u32s l)[j]? = some (.int .u32 ((l.getD j 0 : Nat) : Int)) := by simp [u32s, h]
theorem u32s_one (l : List Nat) : (u32s l).toArray.all (·.oneCell') = true := all_oneCell_toArray fun v hv => by
  simp only [u32s, List.mem_map] at hv
  obtain ⟨n, _, rfl⟩ := hv
  rfl
theorem u32s_set (l : List Nat) (j : Nat) (n : Nat) : (u32s l).set j (.int .u32 (n : Int)) = u32s (l.set j n) := by simp [u32s, List.map_set]
end Go.Proofs.YtlllcdjcihnkdaaDoor
