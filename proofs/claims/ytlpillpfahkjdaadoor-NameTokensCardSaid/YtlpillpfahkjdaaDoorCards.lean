/-
  DERIVED. GIVEN WITH THE SEED: THE CARDS: each row of YtlpillpfahkjdaaDoorRows.lean that lists a variable, with what it lists TIED to the program's text (the seventh form; the later family's looks); each row that meets fmt, with fmt's text TOLD by the authors' own Lean function (tested against real Go, not proved from fmt's source: count such statements apart). THE CARD IS WHAT COUNTS. Prove the row's statement (the work); the ties are given (YtlpillpfahkjdaaDoorTie.lean); close each card by the builder's one call (the guide's Derived/Test/ToyasCard.lean, 'card_holds'). Laid BY PROGRAM, IN A SANDBOX (cutbox-door.mjs). By AI agents, Wed Nov 11 2026. No macro, syntax, notation, axiom, sorry.
-/
import Derived.Test.YtlpillpfahkjdaaDoorRows
import GoSem.ClaimSeven
namespace Go.Proofs.YtlpillpfahkjdaaDoor
namespace Rows

/-- THE TIED CARD OF 'cooperagelaw13.NameTokens'. -/
def nameTokensCard : Claim7 := { stood := { row := nameTokensRow, standIns := [], harness := (true, "77abf1a2141dbeb89d9be229ac4b0f244b319f87ef0554cc4db1acd04b8f15b6"), looks := false }, kinds := [], alts := [], laidByText := true, laidKinds := [.data], laidTests := true, laidLooks := .later }
def NameTokensCardSaid : Prop := Claim7.holds Tryd.pinned (.plain (OpenSpec.ofChange nameTokensSpec)) nameTokensCard

/-- THE SECOND FORM's CARD OF 'cooperagelaw13.NameTokens'. -/
def nameTokensUptoCard : Claim7 := { stood := { row := nameTokensUptoRow, standIns := [], harness := (true, "77abf1a2141dbeb89d9be229ac4b0f244b319f87ef0554cc4db1acd04b8f15b6"), looks := false }, kinds := [], alts := [], laidByText := true, laidKinds := [.data], laidTests := true, laidLooks := .later }
def NameTokensUptoCardSaid : Prop := Claim7.holds Tryd.pinned (.plain (OpenSpec.upto nameTokensSpec)) nameTokensUptoCard
end Rows
end Go.Proofs.YtlpillpfahkjdaaDoor
