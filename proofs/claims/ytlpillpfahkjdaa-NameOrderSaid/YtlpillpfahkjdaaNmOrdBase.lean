/- NameOrder's two boxes, and rows of texts (no law yet). -/
import Derived.Test.YtlpillpfahkjdaaNmWithin
import Derived.Deep.RegionHeld3
import Derived.Deep.DeepCutAuto
namespace Go.Proofs.Ytlpillpfahkjdaa
open Go.RowKit Lib

namespace Nm
/-- What stands in the two boxes of the statement's arguments. -/
def Six (p : Nat) (B1 I1 B2 I2 : ByteArray) (n1 n2 : Nat) (X : World) : Prop :=
  X.cell? ⟨p, 0, none⟩ = some (.string B1) ∧ X.cell? ⟨p, 1, none⟩ = some (.string I1) ∧ X.cell? ⟨p, 2, none⟩ = some (.int .u64 n1) ∧ X.cell? ⟨p + 1, 0, none⟩ = some (.string B2) ∧ X.cell? ⟨p + 1, 1, none⟩ = some (.string I2) ∧ X.cell? ⟨p + 1, 2, none⟩ = some (.int .u64 n2)
theorem cell_lt {X : World} {g o : Nat} {v : Value} (h : X.cell? ⟨g, o, none⟩ = some v) : g < X.heap.size := by
  unfold World.cell? at h
  rcases Nat.lt_or_ge g X.heap.size with h' | h'
  · exact h'
  · rw [Array.getElem?_eq_none h'] at h; cases h
theorem Six.below {p : Nat} {B1 I1 B2 I2 : ByteArray} {n1 n2 : Nat} {X X' : World} (h : Six p B1 I1 B2 I2 n1 n2 X) (hb : Below X.heap.size X X') : Six p B1 I1 B2 I2 n1 n2 X' := by
  obtain ⟨h0, h1, h2, h3, h4, h5⟩ := h
  exact ⟨(hb.cell (cell_lt h0)).trans h0, (hb.cell (cell_lt h1)).trans h1, (hb.cell (cell_lt h2)).trans h2, (hb.cell (cell_lt h3)).trans h3, (hb.cell (cell_lt h4)).trans h4, (hb.cell (cell_lt h5)).trans h5⟩
theorem Six.new (w : World) (B1 I1 B2 I2 : ByteArray) (n1 n2 : Nat) (T : TypeId) : Six w.heap.size B1 I1 B2 I2 n1 n2 ((w.alloc (.cells #[.string B1, .string I1, .int .u64 n1] T)).alloc (.cells #[.string B2, .string I2, .int .u64 n2] T)) := by
  have h1 := (Blk.new w #[.string B1, .string I1, .int .u64 n1] T).alloc (.cells #[.string B2, .string I2, .int .u64 n2] T)
  have h2 := Blk.new (w.alloc (.cells #[.string B1, .string I1, .int .u64 n1] T)) #[.string B2, .string I2, .int .u64 n2] T
  rw [show (w.alloc (.cells #[.string B1, .string I1, .int .u64 n1] T)).heap.size = w.heap.size + 1 by simp] at h2
  exact ⟨h1.cell rfl, h1.cell rfl, h1.cell rfl, h2.cell rfl, h2.cell rfl, h2.cell rfl⟩
theorem Six.drew {p : Nat} {B1 I1 B2 I2 : ByteArray} {n1 n2 : Nat} {X : World} (h : Six p B1 I1 B2 I2 n1 n2 X) : Six p B1 I1 B2 I2 n1 n2 X.drew := h
/-- A row of texts made: what stood stands. -/
theorem row_one {w W : World} {p : Nat} {B1 I1 B2 I2 : ByteArray} {n1 n2 : Nat} (h : Below w.heap.size w W ∧ Six p B1 I1 B2 I2 n1 n2 W) (b : ByteArray) :
    (Below w.heap.size w (W.alloc (.cells #[.string b] 9)) ∧ Six p B1 I1 B2 I2 n1 n2 (W.alloc (.cells #[.string b] 9))) ∧ Reads (W.alloc (.cells #[.string b] 9)) (.slice (some ⟨W.heap.size, 0, none⟩) 1 1) [b.data.toList] ∧ Below W.heap.size W (W.alloc (.cells #[.string b] 9)) :=
  ⟨⟨h.1.alloc h.1.size _, h.2.below ((Below.refl _ _).alloc (Nat.le_refl _) _)⟩, reads_lit W [b.data.toList], (Below.refl _ _).alloc (Nat.le_refl _) _⟩
theorem row_two {w W : World} {p : Nat} {B1 I1 B2 I2 : ByteArray} {n1 n2 : Nat} (h : Below w.heap.size w W ∧ Six p B1 I1 B2 I2 n1 n2 W) (b i : ByteArray) :
    (Below w.heap.size w (W.alloc (.cells #[.string b, .string i] 9)) ∧ Six p B1 I1 B2 I2 n1 n2 (W.alloc (.cells #[.string b, .string i] 9))) ∧ Reads (W.alloc (.cells #[.string b, .string i] 9)) (.slice (some ⟨W.heap.size, 0, none⟩) 2 2) [b.data.toList, i.data.toList] ∧ Below W.heap.size W (W.alloc (.cells #[.string b, .string i] 9)) :=
  ⟨⟨h.1.alloc h.1.size _, h.2.below ((Below.refl _ _).alloc (Nat.le_refl _) _)⟩, reads_lit W [b.data.toList, i.data.toList], (Below.refl _ _).alloc (Nat.le_refl _) _⟩
end Nm
theorem reads_at {w : World} {g g' n c : Nat} {l : List Pk.Text} (h : Reads w (.slice (some ⟨g, 0, none⟩) n c) l) (e : g' = g) : Reads w (.slice (some ⟨g', 0, none⟩) n c) l := by rw [e]; exact h
theorem reads_drew {w : World} {v : Value} {l : List Pk.Text} (h : Reads w v l) : Reads w.drew v l := h
end Go.Proofs.Ytlpillpfahkjdaa
