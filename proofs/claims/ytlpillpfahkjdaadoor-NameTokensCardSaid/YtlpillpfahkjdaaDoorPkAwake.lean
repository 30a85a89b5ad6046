/- Walk of the statements' awake. -/
import Derived.Test.YtlpillpfahkjdaaDoorPkFalls
namespace Go.Proofs.YtlpillpfahkjdaaDoor
open Go.RowKit Lib

theorem rdF_new (w : World) (l : List Pk.Fd) (hn : ∀ i (h : i < l.length), l[i].n < 2 ^ 64) : RdF (w.alloc (.cells (fdElem.cells l).toArray 36)) (.slice (some ⟨w.heap.size, 0, none⟩) l.length l.length) l := by
  have hL : Lies fdElem (w.alloc (.cells (fdElem.cells l).toArray 36)) w.heap.size 0 l := Lies.of_blk (Blk.new w (fdElem.cells l).toArray 36) rfl
  refine ⟨_, _, rfl, Nat.le_refl _, fun i hi => ⟨hn i hi, w.heap.size, 0, rfl, by simp, fun j hj => ⟨?_, ?_⟩⟩⟩
  · have := hL.at j 0 (by decide) hj (.int .u64 l[j].n) rfl
    simpa [fdElem] using this
  · have := hL.at j 1 (by decide) hj (.string (bs l[j].s)) rfl
    simpa [fdElem, Nat.add_assoc] using this
end Go.Proofs.YtlpillpfahkjdaaDoor
