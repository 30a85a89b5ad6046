/-
  DERIVED. GIVEN WITH THE SEED: THE CARDS: each row of YtobmjcfemjpgcaaGreatDoorRows.lean that lists a variable, with what it lists TIED to the program's text (the seventh form; the later family's looks); each row that meets fmt, with fmt's text TOLD by the authors' own Lean function (tested against real Go, not proved from fmt's source: count such statements apart). THE CARD IS WHAT COUNTS. Prove the row's statement (the work); the ties are given (YtobmjcfemjpgcaaGreatDoorTie.lean); close each card by the builder's one call (the guide's Derived/Test/ToyasCard.lean, 'card_holds'). Laid BY PROGRAM, IN A SANDBOX (cutbox-door.mjs). By AI agents, Wed Nov 11 2026. No macro, syntax, notation, axiom, sorry.
-/
import Derived.Test.YtobmjcfemjpgcaaGreatDoorRows
import GoSem.ClaimSeven
namespace Go.Proofs.YtobmjcfemjpgcaaGreatDoor
namespace Rows

/-- THE TIED CARD OF 'cooperagelaw06.TxRuns'. -/
def txRunsCard : Claim7 := { stood := { row := txRunsRow, standIns := [], harness := (true, "283b30081bd1b6e7391451c0ded8d037db2c06f9fef2b064676430cbb92d014c"), looks := false }, kinds := [], alts := [], laidByText := true, laidKinds := [.data, .pinned], laidTests := true, laidLooks := .later }
def TxRunsCardSaid : Prop := Claim7.holds Tryz.pinned (.plain (OpenSpec.ofChange txRunsSpec)) txRunsCard

/-- THE TIED CARD OF 'cooperagelaw07.RoomRuns'. -/
def roomRunsCard : Claim7 := { stood := { row := roomRunsRow, standIns := [], harness := (true, "283b30081bd1b6e7391451c0ded8d037db2c06f9fef2b064676430cbb92d014c"), looks := false }, kinds := [], alts := [], laidByText := true, laidKinds := [.data, .pinned], laidTests := true, laidLooks := .later }
def RoomRunsCardSaid : Prop := Claim7.holds Tryz.pinned (.plain (OpenSpec.ofChange roomRunsSpec)) roomRunsCard

/-- THE TIED CARD OF 'cooperagelaw07.RoomPages'. -/
def roomPagesCard : Claim7 := { stood := { row := roomPagesRow, standIns := [], harness := (true, "283b30081bd1b6e7391451c0ded8d037db2c06f9fef2b064676430cbb92d014c"), looks := false }, kinds := [], alts := [], laidByText := true, laidKinds := [.data, .pinned], laidTests := true, laidLooks := .later }
def RoomPagesCardSaid : Prop := Claim7.holds Tryz.pinned (.plain (OpenSpec.ofChange roomPagesSpec)) roomPagesCard

/-- THE TIED CARD OF 'cooperagelaw07.RoomApart'. -/
def roomApartCard : Claim7 := { stood := { row := roomApartRow, standIns := [], harness := (true, "283b30081bd1b6e7391451c0ded8d037db2c06f9fef2b064676430cbb92d014c"), looks := false }, kinds := [], alts := [], laidByText := true, laidKinds := [.data, .pinned], laidTests := true, laidLooks := .later }
def RoomApartCardSaid : Prop := Claim7.holds Tryz.pinned (.plain (OpenSpec.ofChange roomApartSpec)) roomApartCard

/-- THE SECOND FORM's CARD OF 'cooperagelaw06.TxRuns'. -/
def txRunsUptoCard : Claim7 := { stood := { row := txRunsUptoRow, standIns := [], harness := (true, "283b30081bd1b6e7391451c0ded8d037db2c06f9fef2b064676430cbb92d014c"), looks := false }, kinds := [], alts := [], laidByText := true, laidKinds := [.data, .pinned], laidTests := true, laidLooks := .later }
def TxRunsUptoCardSaid : Prop := Claim7.holds Tryz.pinned (.plain (OpenSpec.upto txRunsSpec)) txRunsUptoCard

/-- THE SECOND FORM's CARD OF 'cooperagelaw07.RoomRuns'. -/
def roomRunsUptoCard : Claim7 := { stood := { row := roomRunsUptoRow, standIns := [], harness := (true, "283b30081bd1b6e7391451c0ded8d037db2c06f9fef2b064676430cbb92d014c"), looks := false }, kinds := [], alts := [], laidByText := true, laidKinds := [.data, .pinned], laidTests := true, laidLooks := .later }
def RoomRunsUptoCardSaid : Prop := Claim7.holds Tryz.pinned (.plain (OpenSpec.upto roomRunsSpec)) roomRunsUptoCard

/-- THE SECOND FORM's CARD OF 'cooperagelaw07.RoomPages'. -/
def roomPagesUptoCard : Claim7 := { stood := { row := roomPagesUptoRow, standIns := [], harness := (true, "283b30081bd1b6e7391451c0ded8d037db2c06f9fef2b064676430cbb92d014c"), looks := false }, kinds := [], alts := [], laidByText := true, laidKinds := [.data, .pinned], laidTests := true, laidLooks := .later }
def RoomPagesUptoCardSaid : Prop := Claim7.holds Tryz.pinned (.plain (OpenSpec.upto roomPagesSpec)) roomPagesUptoCard

/-- THE SECOND FORM's CARD OF 'cooperagelaw07.RoomApart'. -/
def roomApartUptoCard : Claim7 := { stood := { row := roomApartUptoRow, standIns := [], harness := (true, "283b30081bd1b6e7391451c0ded8d037db2c06f9fef2b064676430cbb92d014c"), looks := false }, kinds := [], alts := [], laidByText := true, laidKinds := [.data, .pinned], laidTests := true, laidLooks := .later }
def RoomApartUptoCardSaid : Prop := Claim7.holds Tryz.pinned (.plain (OpenSpec.upto roomApartSpec)) roomApartUptoCard
end Rows
end Go.Proofs.YtobmjcfemjpgcaaGreatDoor
