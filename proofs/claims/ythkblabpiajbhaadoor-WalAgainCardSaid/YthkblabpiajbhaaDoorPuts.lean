/- Lists of puts, and lists of these, as they lie in memory (they are only read). -/
import Derived.Test.YthkblabpiajbhaaDoorContent
namespace Go.Proofs.YthkblabpiajbhaaDoor
open Go.RowKit Lib

abbrev PutD := Int × ByteArray
/-- v reads as the puts l. -/
def RdP (w : World) (v : Value) (l : List PutD) : Prop :=
  ∃ (a : Option Addr) (cap : Nat), v = .slice a l.length cap ∧ l.length ≤ cap ∧ l.length ≤ 9223372036854775807 ∧ ∀ i (_ : i < l.length), (-9223372036854775808 ≤ l[i].1 ∧ l[i].1 ≤ 9223372036854775807) ∧ ∃ g o, a = some ⟨g, o, none⟩ ∧ g < w.heap.size ∧
    ∀ j (hj : j < l.length), w.cell? ⟨g, o + j * 2, none⟩ = some (.int .i64 l[j].1) ∧ w.cell? ⟨g, o + j * 2 + 1, none⟩ = some (.string l[j].2)
/-- v reads as the lists ll; each lies in the value beside it. -/
def RdL (w : World) (v : Value) (ll : List (Value × List PutD)) : Prop :=
  ∃ (a : Option Addr) (cap : Nat), v = .slice a ll.length cap ∧ ll.length ≤ cap ∧ ll.length ≤ 9223372036854775807 ∧ ∀ i (hi : i < ll.length), RdP w ll[i].1 ll[i].2 ∧ ∃ g o, a = some ⟨g, o, none⟩ ∧ g < w.heap.size ∧
    ∀ j (hj : j < ll.length), w.cell? ⟨g, o + j, none⟩ = some ll[j].1
theorem RdP.below {w w' : World} {v : Value} {l : List PutD} (h : RdP w v l) (hb : Below w.heap.size w w') : RdP w' v l := by
  obtain ⟨a, cap, rfl, hc, hm, hi⟩ := h
  refine ⟨a, cap, rfl, hc, hm, fun i hil => ?_⟩
  obtain ⟨h0, g, o, rfl, e2, e3⟩ := hi i hil
  exact ⟨h0, g, o, rfl, Nat.lt_of_lt_of_le e2 hb.size, fun j hj => ⟨(hb.cell (p := ⟨g, o + j * 2, none⟩) e2).trans (e3 j hj).1, (hb.cell (p := ⟨g, o + j * 2 + 1, none⟩) e2).trans (e3 j hj).2⟩⟩
theorem RdL.below {w w' : World} {v : Value} {l : List (Value × List PutD)} (h : RdL w v l) (hb : Below w.heap.size w w') : RdL w' v l := by
  obtain ⟨a, cap, rfl, hc, hm, hi⟩ := h
  refine ⟨a, cap, rfl, hc, hm, fun i hil => ?_⟩
  obtain ⟨h0, g, o, rfl, e2, e3⟩ := hi i hil
  exact ⟨h0.below hb, g, o, rfl, Nat.lt_of_lt_of_le e2 hb.size, fun j hj => (hb.cell (p := ⟨g, o + j, none⟩) e2).trans (e3 j hj)⟩
theorem RdP.nil (w : World) : RdP w (.slice none 0 0) [] := ⟨none, 0, rfl, Nat.le_refl _, by decide, fun i hi => by cases hi⟩
theorem RdL.nil (w : World) : RdL w (.slice none 0 0) [] := ⟨none, 0, rfl, Nat.le_refl _, by decide, fun i hi => by cases hi⟩
/-- A put in the mathematics' words; all puts of some lists. -/
def pt (p : PutD) : Int × Wl.Text := (p.1, p.2.data.toList)
def pts (l : List PutD) : List (Int × Wl.Text) := l.map pt
def ptsL (ll : List (Value × List PutD)) : List (Int × Wl.Text) := (ll.map fun x => pts x.2).flatten
theorem pts_take (l : List PutD) (k : Nat) (h : k < l.length) : pts (l.take (k + 1)) = pts (l.take k) ++ [pt l[k]] := by
  unfold pts; rw [List.take_succ_eq_append_getElem h, List.map_append]; rfl
theorem ptsL_take (ll : List (Value × List PutD)) (k : Nat) (h : k < ll.length) : ptsL (ll.take (k + 1)) = ptsL (ll.take k) ++ pts ll[k].2 := by
  unfold ptsL; rw [List.take_succ_eq_append_getElem h, List.map_append, List.flatten_append]; simp
theorem ptsL_split (ll : List (Value × List PutD)) (k : Nat) : ptsL ll = ptsL (ll.take k) ++ ptsL (ll.drop k) := by
  unfold ptsL; rw [← List.flatten_append, ← List.map_append, List.take_append_drop]
theorem pts_split (l : List PutD) (k : Nat) : pts l = pts (l.take k) ++ pts (l.drop k) := by
  unfold pts; rw [← List.map_append, List.take_append_drop]
namespace Wl
theorem gather_stop {homes : Nat} {a : List (Int × Text)} {c : Int} (hc : c ≠ 0) (h : gather homes [] a = (c, [])) (b : List (Int × Text)) : gather homes [] (a ++ b) = (c, []) := by
  rw [gather_append, h, if_neg hc]
theorem gather_go {homes : Nat} {a : List (Int × Text)} {G : Grp} (h : gather homes [] a = (0, G)) (p : Int × Text) : gather homes [] (a ++ [p]) = if p.1 < 0 ∨ (homes : Int) ≤ p.1 then (2, []) else if 512 < p.2.length then (5, []) else (0, ins p.1.toNat (Dk.full p.2) G) := by
  rw [gather_append, h, if_pos rfl, gather_cons]
  rfl
theorem rising_length : ∀ (m : Grp) (b c : Nat), Rising m → (∀ x ∈ m, b ≤ x.1 ∧ x.1 < c) → m.length ≤ c - b
  | [], _, _, _, _ => Nat.zero_le _
  | x :: m, b, c, hr, hb => by
    obtain ⟨r1, r2⟩ := List.pairwise_cons.1 hr
    have h0 := hb x List.mem_cons_self
    have := rising_length m (x.1 + 1) c r2 fun y hy => ⟨r1 y hy, (hb y (List.mem_cons_of_mem _ hy)).2⟩
    rw [List.length_cons]; omega
theorem fits_length {homes : Nat} {m : Grp} (h : Fits homes m) : m.length ≤ homes := rising_length m 0 homes h.1 fun x hx => ⟨Nat.zero_le _, (h.2 x hx).1⟩
end Wl
end Go.Proofs.YthkblabpiajbhaaDoor
