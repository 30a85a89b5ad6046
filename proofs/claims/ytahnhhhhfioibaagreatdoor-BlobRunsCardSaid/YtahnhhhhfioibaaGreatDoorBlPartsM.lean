/- A part of the law. -/
import Derived.Test.YtahnhhhhfioibaaGreatDoorBlWalk0M
namespace Go.Proofs.YtahnhhhhfioibaaGreatDoor
open Go.RowKit Lib
def bl_g0 : Prop := bl_of bl_walk0._proof_25
def bl_g1 : Prop := bl_of bl_walk0._proof_26
def bl_g2 : Prop := bl_of bl_walk0._proof_27
def bl_g3 : Prop := bl_of bl_walk0._proof_28
def bl_g4 : Prop := bl_of bl_walk0._proof_29
end Go.Proofs.YtahnhhhhfioibaaGreatDoor
