/- What the cards share: a world in which the tables are laid. -/
import Derived.Test.YtlllcdjcihnkdaaDoorCards
import Derived.Test.YtlllcdjcihnkdaaDoorTie
import Derived.Test.YtlllcdjcihnkdaaDoorLaid
import Derived.WalkKit
import Derived.ProofKit
import Derived.OpenShut
import Derived.ShutString
import Derived.Deep.DeepHandedRow
namespace Go.Proofs.YtlllcdjcihnkdaaDoor
open Go.ChangeShapes Go.WideShapes Go.ChangeAt Go.RowKit
open Go.ChangeMaps (open_string shut_string)

theorem own : ownKnob Tryd.prog.godebug = none := by kernel_rfl

/-- A world for the witness: the settled one, the tables holding what their initialisers lay. -/
def refill (cs : Array Value) : Obj → Obj
  | .cells _ t frozen => .cells cs t frozen
  | o => o
noncomputable def laidWorld (os : Os) : World :=
  { World.holding Tryd.prog os ⟨#[], #[], []⟩ with heap := ((World.holding Tryd.prog os ⟨#[], #[], []⟩).heap.modify 0 (refill ((ints Crc.nib).map (Value.int .u32)).toArray)).modify 1 (refill ((ints Sha.cubes).map (Value.int .u32)).toArray) }

end Go.Proofs.YtlllcdjcihnkdaaDoor
