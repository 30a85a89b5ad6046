/- A part of the law. -/
import Derived.Test.YtahnhhhhfioibaaGreatDoorG18
import Derived.Deep.CutBlock
import Derived.Deep.DeepCutAuto
import Derived.Test.YtahnhhhhfioibaaGreatDoorBlPartsM
namespace Go.Proofs.YtahnhhhhfioibaaGreatDoor
open Go.RowKit Lib
set_option maxRecDepth 100000 in
set_option maxHeartbeats 100000000 in
theorem bl_other_0 : bl_g3 := by
  intro _ _ _ _ _ _ _ _ _ _ _ _ _ _ _ _ _ _ _ _ _ _ _ _ _ _ _ _ _ _ _ _ _ _ _ _ _ _ _ _ _ _ _ _ _ _ _ _ _ _ _ _ _ _ _ _ _ _ _ _ _ _ _ _ _ _ _ _ _ _ _ _ _ _ _ _ _ _ _ _ _ _ _ _ _ _ _ _ _ _ _ _ _ _ _ _ _ _ _ _ _ _ _ _ _ _ _ _ _ _ _ _ _ _ _ _ _ _ _ _ _ _ _ _ _ _ _ _ _ _ _ _ _ _ _ _ _ _ _ _ _ _ _ _ _ _ _ _ _ _ _ _ _ _ _ _ _ _ _ _ _ _ _ _ _ _ _ _ _ _ _ _ _ _ _ _ _ _ _ _ _ _ _ _ _ _ _ _ _ _ _ _ _ _ _ _ _ _ _ _ _ _ _ _ _ _ _ _ _ _ _ _ _ _ _ _ _ _ _ _ _ _ _ _ _ _ _ _ _ _ _ _ _ _ _ _ _ _ _ _ _ _ _ _ _ _ _ _ _ _ _ _ _ _ _ _ _ _ _ _ _ _ _ _ _ _ _ _ _ _ _ k pg B _ _ _ _ _ _ _ _ _ _ _ _ _ _ HY _ _ _ _ _ _ _ _ _ _ _ _ _ _ _ _ _
  go_wp2
  go_meet
  case rel => exact ⟨pg, B, rfl, Lib.hid (HY.out.1.more (show 1040 * k ≤ 1040 * (k + 1) by omega))⟩
end Go.Proofs.YtahnhhhhfioibaaGreatDoor
