/- A part of the law. -/
import Derived.Test.YtahnhhhhfioibaaGreatDoorTxWalk0M
namespace Go.Proofs.YtahnhhhhfioibaaGreatDoor
open Go.RowKit Lib
def tx_g0 : Prop := tx_of tx_walk0._proof_24
def tx_g1 : Prop := tx_of tx_walk0._proof_32
def tx_g2 : Prop := tx_of tx_walk0._proof_25
def tx_g3 : Prop := tx_of tx_walk0._proof_33
def tx_g4 : Prop := tx_of tx_walk0._proof_26
def tx_g5 : Prop := tx_of tx_walk0._proof_34
def tx_g6 : Prop := tx_of tx_walk0._proof_27
def tx_g7 : Prop := tx_of tx_walk0._proof_35
def tx_g8 : Prop := tx_of tx_walk0._proof_28
def tx_g9 : Prop := tx_of tx_walk0._proof_36
def tx_g10 : Prop := tx_of tx_walk0._proof_29
def tx_g11 : Prop := tx_of tx_walk0._proof_37
def tx_g12 : Prop := tx_of tx_walk0._proof_30
def tx_g13 : Prop := tx_of tx_walk0._proof_38
def tx_g14 : Prop := tx_of tx_walk0._proof_31
def tx_g15 : Prop := tx_of tx_walk0._proof_39
end Go.Proofs.YtahnhhhhfioibaaGreatDoor
