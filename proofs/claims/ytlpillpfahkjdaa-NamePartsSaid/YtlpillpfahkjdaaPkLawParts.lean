/- Walk of the statement PackParts. -/
import Derived.Test.YtlpillpfahkjdaaPkAwake
import Derived.Test.YtlpillpfahkjdaaPkPart
namespace Go.Proofs.Ytlpillpfahkjdaa
open Go.RowKit Lib

namespace Pk
theorem lt_eq' : ∀ a b : List UInt8, Op.bytesLess a b = lt a b
  | [], [] => rfl
  | _ :: _, [] => rfl
  | [], _ :: _ => rfl
  | a :: x, b :: y => by
    show (decide (a < b) || (a == b && Op.bytesLess x y)) = (decide (a < b) || (a == b && lt x y))
    rw [lt_eq' x y]
end Pk
theorem cutv_form (o : Option (Pk.Text × Pk.Text)) : ∃ u v b, cutv o = .tuple #[.string u, .string v, .bool b] := by
  cases o with
  | none => exact ⟨_, _, _, rfl⟩
  | some p => obtain ⟨x, y⟩ := p; exact ⟨_, _, _, rfl⟩
end Go.Proofs.Ytlpillpfahkjdaa
