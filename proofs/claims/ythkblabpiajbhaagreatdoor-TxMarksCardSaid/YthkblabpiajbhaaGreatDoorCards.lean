/-
  DERIVED. GIVEN WITH THE SEED: THE CARDS: each row of YthkblabpiajbhaaGreatDoorRows.lean that lists a variable, with what it lists TIED to the program's text (the seventh form; the later family's looks); each row that meets fmt, with fmt's text TOLD by the authors' own Lean function (tested against real Go, not proved from fmt's source: count such statements apart). THE CARD IS WHAT COUNTS. Prove the row's statement (the work); the ties are given (YthkblabpiajbhaaGreatDoorTie.lean); close each card by the builder's one call (the guide's Derived/Test/ToyasCard.lean, 'card_holds'). Laid BY PROGRAM, IN A SANDBOX (cutbox-door.mjs). By AI agents, Wed Nov 11 2026. No macro, syntax, notation, axiom, sorry.
-/
import Derived.Test.YthkblabpiajbhaaGreatDoorRows
import GoSem.ClaimSeven
namespace Go.Proofs.YthkblabpiajbhaaGreatDoor
namespace Rows

/-- THE TIED CARD OF 'cooperagelaw05.WalRuns'. -/
def walRunsCard : Claim7 := { stood := { row := walRunsRow, standIns := [], harness := (true, "f8f73a56944841a79ac3e128133003db34d8149e549eb14094069a5d1c611706"), looks := false }, kinds := [], alts := [], laidByText := true, laidKinds := [.data, .pinned], laidTests := true, laidLooks := .later }
def WalRunsCardSaid : Prop := Claim7.holds Tryz.pinned (.plain (OpenSpec.ofChange walRunsSpec)) walRunsCard

/-- THE TIED CARD OF 'cooperagelaw05.WalFalls'. -/
def walFallsCard : Claim7 := { stood := { row := walFallsRow, standIns := [], harness := (true, "f8f73a56944841a79ac3e128133003db34d8149e549eb14094069a5d1c611706"), looks := false }, kinds := [], alts := [], laidByText := true, laidKinds := [.data, .pinned], laidTests := true, laidLooks := .later }
def WalFallsCardSaid : Prop := Claim7.holds Tryz.pinned (.plain (OpenSpec.ofChange walFallsSpec)) walFallsCard

/-- THE TIED CARD OF 'cooperagelaw05.WalGroups'. -/
def walGroupsCard : Claim7 := { stood := { row := walGroupsRow, standIns := [], harness := (true, "f8f73a56944841a79ac3e128133003db34d8149e549eb14094069a5d1c611706"), looks := false }, kinds := [], alts := [], laidByText := true, laidKinds := [.data, .pinned], laidTests := true, laidLooks := .later }
def WalGroupsCardSaid : Prop := Claim7.holds Tryz.pinned (.plain (OpenSpec.ofChange walGroupsSpec)) walGroupsCard

/-- THE TIED CARD OF 'cooperagelaw06.TxRuns'. -/
def txRunsCard : Claim7 := { stood := { row := txRunsRow, standIns := [], harness := (true, "f8f73a56944841a79ac3e128133003db34d8149e549eb14094069a5d1c611706"), looks := false }, kinds := [], alts := [], laidByText := true, laidKinds := [.data, .pinned], laidTests := true, laidLooks := .later }
def TxRunsCardSaid : Prop := Claim7.holds Tryz.pinned (.plain (OpenSpec.ofChange txRunsSpec)) txRunsCard

/-- THE TIED CARD OF 'cooperagelaw06.TxLast'. -/
def txLastCard : Claim7 := { stood := { row := txLastRow, standIns := [], harness := (true, "f8f73a56944841a79ac3e128133003db34d8149e549eb14094069a5d1c611706"), looks := false }, kinds := [], alts := [], laidByText := true, laidKinds := [.data, .pinned], laidTests := true, laidLooks := .later }
def TxLastCardSaid : Prop := Claim7.holds Tryz.pinned (.plain (OpenSpec.ofChange txLastSpec)) txLastCard

/-- THE TIED CARD OF 'cooperagelaw06.TxMarks'. -/
def txMarksCard : Claim7 := { stood := { row := txMarksRow, standIns := [], harness := (true, "f8f73a56944841a79ac3e128133003db34d8149e549eb14094069a5d1c611706"), looks := false }, kinds := [], alts := [], laidByText := true, laidKinds := [.data, .pinned], laidTests := true, laidLooks := .later }
def TxMarksCardSaid : Prop := Claim7.holds Tryz.pinned (.plain (OpenSpec.ofChange txMarksSpec)) txMarksCard

/-- THE SECOND FORM's CARD OF 'cooperagelaw05.WalRuns'. -/
def walRunsUptoCard : Claim7 := { stood := { row := walRunsUptoRow, standIns := [], harness := (true, "f8f73a56944841a79ac3e128133003db34d8149e549eb14094069a5d1c611706"), looks := false }, kinds := [], alts := [], laidByText := true, laidKinds := [.data, .pinned], laidTests := true, laidLooks := .later }
def WalRunsUptoCardSaid : Prop := Claim7.holds Tryz.pinned (.plain (OpenSpec.upto walRunsSpec)) walRunsUptoCard

/-- THE SECOND FORM's CARD OF 'cooperagelaw05.WalFalls'. -/
def walFallsUptoCard : Claim7 := { stood := { row := walFallsUptoRow, standIns := [], harness := (true, "f8f73a56944841a79ac3e128133003db34d8149e549eb14094069a5d1c611706"), looks := false }, kinds := [], alts := [], laidByText := true, laidKinds := [.data, .pinned], laidTests := true, laidLooks := .later }
def WalFallsUptoCardSaid : Prop := Claim7.holds Tryz.pinned (.plain (OpenSpec.upto walFallsSpec)) walFallsUptoCard

/-- THE SECOND FORM's CARD OF 'cooperagelaw05.WalGroups'. -/
def walGroupsUptoCard : Claim7 := { stood := { row := walGroupsUptoRow, standIns := [], harness := (true, "f8f73a56944841a79ac3e128133003db34d8149e549eb14094069a5d1c611706"), looks := false }, kinds := [], alts := [], laidByText := true, laidKinds := [.data, .pinned], laidTests := true, laidLooks := .later }
def WalGroupsUptoCardSaid : Prop := Claim7.holds Tryz.pinned (.plain (OpenSpec.upto walGroupsSpec)) walGroupsUptoCard

/-- THE SECOND FORM's CARD OF 'cooperagelaw06.TxRuns'. -/
def txRunsUptoCard : Claim7 := { stood := { row := txRunsUptoRow, standIns := [], harness := (true, "f8f73a56944841a79ac3e128133003db34d8149e549eb14094069a5d1c611706"), looks := false }, kinds := [], alts := [], laidByText := true, laidKinds := [.data, .pinned], laidTests := true, laidLooks := .later }
def TxRunsUptoCardSaid : Prop := Claim7.holds Tryz.pinned (.plain (OpenSpec.upto txRunsSpec)) txRunsUptoCard

/-- THE SECOND FORM's CARD OF 'cooperagelaw06.TxLast'. -/
def txLastUptoCard : Claim7 := { stood := { row := txLastUptoRow, standIns := [], harness := (true, "f8f73a56944841a79ac3e128133003db34d8149e549eb14094069a5d1c611706"), looks := false }, kinds := [], alts := [], laidByText := true, laidKinds := [.data, .pinned], laidTests := true, laidLooks := .later }
def TxLastUptoCardSaid : Prop := Claim7.holds Tryz.pinned (.plain (OpenSpec.upto txLastSpec)) txLastUptoCard

/-- THE SECOND FORM's CARD OF 'cooperagelaw06.TxMarks'. -/
def txMarksUptoCard : Claim7 := { stood := { row := txMarksUptoRow, standIns := [], harness := (true, "f8f73a56944841a79ac3e128133003db34d8149e549eb14094069a5d1c611706"), looks := false }, kinds := [], alts := [], laidByText := true, laidKinds := [.data, .pinned], laidTests := true, laidLooks := .later }
def TxMarksUptoCardSaid : Prop := Claim7.holds Tryz.pinned (.plain (OpenSpec.upto txMarksSpec)) txMarksUptoCard
end Rows
end Go.Proofs.YthkblabpiajbhaaGreatDoor
