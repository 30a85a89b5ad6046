/-
  DERIVED. GIVEN WITH THE SEED: THE CARDS: each row of YtlpfhjbpknbndaaGreatDoorRows.lean that lists a variable, with what it lists TIED to the program's text (the seventh form; the later family's looks); each row that meets fmt, with fmt's text TOLD by the authors' own Lean function (tested against real Go, not proved from fmt's source: count such statements apart). THE CARD IS WHAT COUNTS. Prove the row's statement (the work); the ties are given (YtlpfhjbpknbndaaGreatDoorTie.lean); close each card by the builder's one call (the guide's Derived/Test/ToyasCard.lean, 'card_holds'). Laid BY PROGRAM, IN A SANDBOX (cutbox-door.mjs). By AI agents, Wed Nov 11 2026. No macro, syntax, notation, axiom, sorry.
-/
import Derived.Test.YtlpfhjbpknbndaaGreatDoorRows
import GoSem.ClaimSeven
namespace Go.Proofs.YtlpfhjbpknbndaaGreatDoor
namespace Rows

/-- THE TIED CARD OF 'cooperagelaw14.BucketRuns'. -/
def bucketRunsCard : Claim7 := { stood := { row := bucketRunsRow, standIns := [], harness := (true, "20da485183dba90fc082a3eeb5b0a403c625a01c499e87d800fb3678d239fda3"), looks := false }, kinds := [], alts := [], laidByText := true, laidKinds := [.data, .pinned], laidTests := true, laidLooks := .later }
def BucketRunsCardSaid : Prop := Claim7.holds Tryz.pinned (.plain (OpenSpec.ofChange bucketRunsSpec)) bucketRunsCard

/-- THE TIED CARD OF 'cooperagelaw14.BucketApart'. -/
def bucketApartCard : Claim7 := { stood := { row := bucketApartRow, standIns := [], harness := (true, "20da485183dba90fc082a3eeb5b0a403c625a01c499e87d800fb3678d239fda3"), looks := false }, kinds := [], alts := [], laidByText := true, laidKinds := [.data, .pinned], laidTests := true, laidLooks := .later }
def BucketApartCardSaid : Prop := Claim7.holds Tryz.pinned (.plain (OpenSpec.ofChange bucketApartSpec)) bucketApartCard

/-- THE SECOND FORM's CARD OF 'cooperagelaw14.BucketRuns'. -/
def bucketRunsUptoCard : Claim7 := { stood := { row := bucketRunsUptoRow, standIns := [], harness := (true, "20da485183dba90fc082a3eeb5b0a403c625a01c499e87d800fb3678d239fda3"), looks := false }, kinds := [], alts := [], laidByText := true, laidKinds := [.data, .pinned], laidTests := true, laidLooks := .later }
def BucketRunsUptoCardSaid : Prop := Claim7.holds Tryz.pinned (.plain (OpenSpec.upto bucketRunsSpec)) bucketRunsUptoCard

/-- THE SECOND FORM's CARD OF 'cooperagelaw14.BucketApart'. -/
def bucketApartUptoCard : Claim7 := { stood := { row := bucketApartUptoRow, standIns := [], harness := (true, "20da485183dba90fc082a3eeb5b0a403c625a01c499e87d800fb3678d239fda3"), looks := false }, kinds := [], alts := [], laidByText := true, laidKinds := [.data, .pinned], laidTests := true, laidLooks := .later }
def BucketApartUptoCardSaid : Prop := Claim7.holds Tryz.pinned (.plain (OpenSpec.upto bucketApartSpec)) bucketApartUptoCard
end Rows
end Go.Proofs.YtlpfhjbpknbndaaGreatDoor
