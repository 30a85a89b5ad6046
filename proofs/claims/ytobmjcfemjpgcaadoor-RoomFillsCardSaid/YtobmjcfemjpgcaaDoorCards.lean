/-
  DERIVED. GIVEN WITH THE SEED: THE CARDS: each row of YtobmjcfemjpgcaaDoorRows.lean that lists a variable, with what it lists TIED to the program's text (the seventh form; the later family's looks); each row that meets fmt, with fmt's text TOLD by the authors' own Lean function (tested against real Go, not proved from fmt's source: count such statements apart). THE CARD IS WHAT COUNTS. Prove the row's statement (the work); the ties are given (YtobmjcfemjpgcaaDoorTie.lean); close each card by the builder's one call (the guide's Derived/Test/ToyasCard.lean, 'card_holds'). Laid BY PROGRAM, IN A SANDBOX (cutbox-door.mjs). By AI agents, Wed Nov 11 2026. No macro, syntax, notation, axiom, sorry.
-/
import Derived.Test.YtobmjcfemjpgcaaDoorRows
import GoSem.ClaimSeven
namespace Go.Proofs.YtobmjcfemjpgcaaDoor
namespace Rows

/-- THE TIED CARD OF 'cooperagelaw05.WalApart'. -/
def walApartCard : Claim7 := { stood := { row := walApartRow, standIns := [], harness := (true, "05c1e36870cd9480c9779740f861c5bd6afb510044095abc91b0e34d0c7abf6e"), looks := false }, kinds := [], alts := [], laidByText := true, laidKinds := [.data, .pinned], laidTests := true, laidLooks := .later }
def WalApartCardSaid : Prop := Claim7.holds Tryd.pinned (.plain (OpenSpec.ofChange walApartSpec)) walApartCard

/-- THE TIED CARD OF 'cooperagelaw07.RoomFills'. -/
def roomFillsCard : Claim7 := { stood := { row := roomFillsRow, standIns := [], harness := (true, "05c1e36870cd9480c9779740f861c5bd6afb510044095abc91b0e34d0c7abf6e"), looks := false }, kinds := [], alts := [], laidByText := true, laidKinds := [.data, .pinned], laidTests := true, laidLooks := .later }
def RoomFillsCardSaid : Prop := Claim7.holds Tryd.pinned (.plain (OpenSpec.ofChange roomFillsSpec)) roomFillsCard

/-- THE SECOND FORM's CARD OF 'cooperagelaw05.WalApart'. -/
def walApartUptoCard : Claim7 := { stood := { row := walApartUptoRow, standIns := [], harness := (true, "05c1e36870cd9480c9779740f861c5bd6afb510044095abc91b0e34d0c7abf6e"), looks := false }, kinds := [], alts := [], laidByText := true, laidKinds := [.data, .pinned], laidTests := true, laidLooks := .later }
def WalApartUptoCardSaid : Prop := Claim7.holds Tryd.pinned (.plain (OpenSpec.upto walApartSpec)) walApartUptoCard

/-- THE SECOND FORM's CARD OF 'cooperagelaw07.RoomFills'. -/
def roomFillsUptoCard : Claim7 := { stood := { row := roomFillsUptoRow, standIns := [], harness := (true, "05c1e36870cd9480c9779740f861c5bd6afb510044095abc91b0e34d0c7abf6e"), looks := false }, kinds := [], alts := [], laidByText := true, laidKinds := [.data, .pinned], laidTests := true, laidLooks := .later }
def RoomFillsUptoCardSaid : Prop := Claim7.holds Tryd.pinned (.plain (OpenSpec.upto roomFillsSpec)) roomFillsUptoCard
end Rows
end Go.Proofs.YtobmjcfemjpgcaaDoor
