/- The layings of slices.Sorted(maps.Keys(m)), keys of the kind int, at this dump, in plain declarations (made by program: iter.py). -/
import Derived.Shelf.SlIterI.Nil
import Derived.Shelf.SortM.Plain
import Derived.Shelf.SortM.SortNone
import Derived.Test.YtlpfhjbpknbndaaGreatDoorProg
namespace Go.Proofs.YtlpfhjbpknbndaaGreatDoor
open Go.Shelf

end Go.Proofs.YtlpfhjbpknbndaaGreatDoor
