/-
  DERIVED. GIVEN WITH THE SEED: THE CARDS: each row of YtahnhhhhfioibaaGreatDoorRows.lean that lists a variable, with what it lists TIED to the program's text (the seventh form; the later family's looks); each row that meets fmt, with fmt's text TOLD by the authors' own Lean function (tested against real Go, not proved from fmt's source: count such statements apart). THE CARD IS WHAT COUNTS. Prove the row's statement (the work); the ties are given (YtahnhhhhfioibaaGreatDoorTie.lean); close each card by the builder's one call (the guide's Derived/Test/ToyasCard.lean, 'card_holds'). Laid BY PROGRAM, IN A SANDBOX (cutbox-door.mjs). By AI agents, Wed Nov 11 2026. No macro, syntax, notation, axiom, sorry.
-/
import Derived.Test.YtahnhhhhfioibaaGreatDoorRows
import GoSem.ClaimSeven
namespace Go.Proofs.YtahnhhhhfioibaaGreatDoor
namespace Rows

/-- THE TIED CARD OF 'cooperagelaw06.TxRuns'. -/
def txRunsCard : Claim7 := { stood := { row := txRunsRow, standIns := [], harness := (true, "7610a2970822134843dfc84ae3d5b40da828ff05d781af8912d74d3e8bfb0e6a"), looks := false }, kinds := [], alts := [], laidByText := true, laidKinds := [.data, .pinned], laidTests := true, laidLooks := .later }
def TxRunsCardSaid : Prop := Claim7.holds Tryz.pinned (.plain (OpenSpec.ofChange txRunsSpec)) txRunsCard

/-- THE TIED CARD OF 'cooperagelaw08.BlobPages'. -/
def blobPagesCard : Claim7 := { stood := { row := blobPagesRow, standIns := [], harness := (true, "7610a2970822134843dfc84ae3d5b40da828ff05d781af8912d74d3e8bfb0e6a"), looks := false }, kinds := [], alts := [], laidByText := true, laidKinds := [.data, .pinned], laidTests := true, laidLooks := .later }
def BlobPagesCardSaid : Prop := Claim7.holds Tryz.pinned (.plain (OpenSpec.ofChange blobPagesSpec)) blobPagesCard

/-- THE TIED CARD OF 'cooperagelaw08.BlobRuns'. -/
def blobRunsCard : Claim7 := { stood := { row := blobRunsRow, standIns := [], harness := (true, "7610a2970822134843dfc84ae3d5b40da828ff05d781af8912d74d3e8bfb0e6a"), looks := false }, kinds := [], alts := [], laidByText := true, laidKinds := [.data, .pinned], laidTests := true, laidLooks := .later }
def BlobRunsCardSaid : Prop := Claim7.holds Tryz.pinned (.plain (OpenSpec.ofChange blobRunsSpec)) blobRunsCard

/-- THE TIED CARD OF 'cooperagelaw08.BlobBig'. -/
def blobBigCard : Claim7 := { stood := { row := blobBigRow, standIns := [], harness := (true, "7610a2970822134843dfc84ae3d5b40da828ff05d781af8912d74d3e8bfb0e6a"), looks := false }, kinds := [], alts := [], laidByText := true, laidKinds := [.data, .pinned], laidTests := true, laidLooks := .later }
def BlobBigCardSaid : Prop := Claim7.holds Tryz.pinned (.plain (OpenSpec.ofChange blobBigSpec)) blobBigCard

/-- THE SECOND FORM's CARD OF 'cooperagelaw06.TxRuns'. -/
def txRunsUptoCard : Claim7 := { stood := { row := txRunsUptoRow, standIns := [], harness := (true, "7610a2970822134843dfc84ae3d5b40da828ff05d781af8912d74d3e8bfb0e6a"), looks := false }, kinds := [], alts := [], laidByText := true, laidKinds := [.data, .pinned], laidTests := true, laidLooks := .later }
def TxRunsUptoCardSaid : Prop := Claim7.holds Tryz.pinned (.plain (OpenSpec.upto txRunsSpec)) txRunsUptoCard

/-- THE SECOND FORM's CARD OF 'cooperagelaw08.BlobPages'. -/
def blobPagesUptoCard : Claim7 := { stood := { row := blobPagesUptoRow, standIns := [], harness := (true, "7610a2970822134843dfc84ae3d5b40da828ff05d781af8912d74d3e8bfb0e6a"), looks := false }, kinds := [], alts := [], laidByText := true, laidKinds := [.data, .pinned], laidTests := true, laidLooks := .later }
def BlobPagesUptoCardSaid : Prop := Claim7.holds Tryz.pinned (.plain (OpenSpec.upto blobPagesSpec)) blobPagesUptoCard

/-- THE SECOND FORM's CARD OF 'cooperagelaw08.BlobRuns'. -/
def blobRunsUptoCard : Claim7 := { stood := { row := blobRunsUptoRow, standIns := [], harness := (true, "7610a2970822134843dfc84ae3d5b40da828ff05d781af8912d74d3e8bfb0e6a"), looks := false }, kinds := [], alts := [], laidByText := true, laidKinds := [.data, .pinned], laidTests := true, laidLooks := .later }
def BlobRunsUptoCardSaid : Prop := Claim7.holds Tryz.pinned (.plain (OpenSpec.upto blobRunsSpec)) blobRunsUptoCard

/-- THE SECOND FORM's CARD OF 'cooperagelaw08.BlobBig'. -/
def blobBigUptoCard : Claim7 := { stood := { row := blobBigUptoRow, standIns := [], harness := (true, "7610a2970822134843dfc84ae3d5b40da828ff05d781af8912d74d3e8bfb0e6a"), looks := false }, kinds := [], alts := [], laidByText := true, laidKinds := [.data, .pinned], laidTests := true, laidLooks := .later }
def BlobBigUptoCardSaid : Prop := Claim7.holds Tryz.pinned (.plain (OpenSpec.upto blobBigSpec)) blobBigUptoCard
end Rows
end Go.Proofs.YtahnhhhhfioibaaGreatDoor
