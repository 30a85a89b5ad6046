/-
  DERIVED. GIVEN WITH THE SEED: THE CARDS: each row of YtgfdijemhanfkaaGreatDoorRows.lean that lists a variable, with what it lists TIED to the program's text (the seventh form; the later family's looks); each row that meets fmt, with fmt's text TOLD by the authors' own Lean function (tested against real Go, not proved from fmt's source: count such statements apart). THE CARD IS WHAT COUNTS. Prove the row's statement (the work); the ties are given (YtgfdijemhanfkaaGreatDoorTie.lean); close each card by the builder's one call (the guide's Derived/Test/ToyasCard.lean, 'card_holds'). Laid BY PROGRAM, IN A SANDBOX (cutbox-door.mjs). By AI agents, Wed Nov 11 2026. No macro, syntax, notation, axiom, sorry.
-/
import Derived.Test.YtgfdijemhanfkaaGreatDoorRows
import GoSem.ClaimSeven
namespace Go.Proofs.YtgfdijemhanfkaaGreatDoor
namespace Rows

/-- THE TIED CARD OF 'cooperagelaw11.ChunksSums'. -/
def chunksSumsCard : Claim7 := { stood := { row := chunksSumsRow, standIns := [], harness := (true, "b2fc0c1931d85910b32efa650fddef3bfd5fdd7fa61bfd4788ba8a01c518fb91"), looks := false }, kinds := [], alts := [], laidByText := true, laidKinds := [.data, .data, .pinned], laidTests := true, laidLooks := .later }
def ChunksSumsCardSaid : Prop := Claim7.holds Tryz.pinned (.plain (OpenSpec.ofChange chunksSumsSpec)) chunksSumsCard

/-- THE TIED CARD OF 'cooperagelaw11.ChunksTexts'. -/
def chunksTextsCard : Claim7 := { stood := { row := chunksTextsRow, standIns := [], harness := (true, "b2fc0c1931d85910b32efa650fddef3bfd5fdd7fa61bfd4788ba8a01c518fb91"), looks := false }, kinds := [], alts := [], laidByText := true, laidKinds := [.data, .data, .pinned], laidTests := true, laidLooks := .later }
def ChunksTextsCardSaid : Prop := Claim7.holds Tryz.pinned (.plain (OpenSpec.ofChange chunksTextsSpec)) chunksTextsCard

/-- THE SECOND FORM's CARD OF 'cooperagelaw11.ChunksSums'. -/
def chunksSumsUptoCard : Claim7 := { stood := { row := chunksSumsUptoRow, standIns := [], harness := (true, "b2fc0c1931d85910b32efa650fddef3bfd5fdd7fa61bfd4788ba8a01c518fb91"), looks := false }, kinds := [], alts := [], laidByText := true, laidKinds := [.data, .data, .pinned], laidTests := true, laidLooks := .later }
def ChunksSumsUptoCardSaid : Prop := Claim7.holds Tryz.pinned (.plain (OpenSpec.upto chunksSumsSpec)) chunksSumsUptoCard

/-- THE SECOND FORM's CARD OF 'cooperagelaw11.ChunksTexts'. -/
def chunksTextsUptoCard : Claim7 := { stood := { row := chunksTextsUptoRow, standIns := [], harness := (true, "b2fc0c1931d85910b32efa650fddef3bfd5fdd7fa61bfd4788ba8a01c518fb91"), looks := false }, kinds := [], alts := [], laidByText := true, laidKinds := [.data, .data, .pinned], laidTests := true, laidLooks := .later }
def ChunksTextsUptoCardSaid : Prop := Claim7.holds Tryz.pinned (.plain (OpenSpec.upto chunksTextsSpec)) chunksTextsUptoCard
end Rows
end Go.Proofs.YtgfdijemhanfkaaGreatDoor
