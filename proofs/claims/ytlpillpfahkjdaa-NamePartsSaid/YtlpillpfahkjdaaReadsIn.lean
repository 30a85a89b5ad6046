/- A slice of strings that came in, as Reads has it. -/
import Derived.Test.YtlpillpfahkjdaaStays
import Derived.Test.YtlpillpfahkjdaaTexts
namespace Go.Proofs.Ytlpillpfahkjdaa
open Go.ChangeShapes Go.WideShapes Go.ChangeAt Go.RowKit

theorem reads_in {H : Type} {enc : TypeId × Value → H} {W : World} {base : Nat} {v : Value} {d : DataW H} {p : List MemPlace}
    (hval : Value.okWide Try.prog W .any base 35 v) (hd : DataW.Trod enc Try.prog W 0 (fun _ => true) true 35 v d p) (hw : ∀ n ∈ d.weights Try.prog 35, n ≤ reachBytes) :
    ∃ l : List (List UInt8), Reads W v l ∧ (∀ i (hi : i < l.length), l[i].length ≤ 140737488355328) ∧ l.length ≤ 140737488355328 := by
  obtain ⟨a, n, cap, S, rfl, hc, hn, hS⟩ := strings_in Try.underlying35 Try.underlying9 (by kernel_rfl) (by decide +kernel) hval hd hw
  refine ⟨(List.range n).map fun i => (S i).data.toList, ⟨a, cap, by rw [List.length_map, List.length_range], by rw [List.length_map, List.length_range]; exact hc, fun i hi => ?_⟩, fun i hi => ?_, by rw [List.length_map, List.length_range]; exact hn⟩
  · rw [List.length_map, List.length_range] at hi
    obtain ⟨_, g, o, rfl, hg, hx⟩ := hS i hi
    refine ⟨g, o, rfl, hg, fun j hj => ?_⟩
    rw [List.length_map, List.length_range] at hj
    rw [hx j hj, List.getElem_map, List.getElem_range]
    rfl
  · rw [List.length_map, List.length_range] at hi
    rw [List.getElem_map, List.getElem_range, Array.length_toList]
    exact (hS i hi).1
end Go.Proofs.Ytlpillpfahkjdaa
