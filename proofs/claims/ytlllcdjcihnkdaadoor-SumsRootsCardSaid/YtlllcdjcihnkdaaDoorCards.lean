/-
  DERIVED. GIVEN WITH THE SEED: THE CARDS: each row of YtlllcdjcihnkdaaDoorRows.lean that lists a variable, with what it lists TIED to the program's text (the seventh form; the later family's looks); each row that meets fmt, with fmt's text TOLD by the authors' own Lean function (tested against real Go, not proved from fmt's source: count such statements apart). THE CARD IS WHAT COUNTS. Prove the row's statement (the work); the ties are given (YtlllcdjcihnkdaaDoorTie.lean); close each card by the builder's one call (the guide's Derived/Test/ToyasCard.lean, 'card_holds'). Laid BY PROGRAM, IN A SANDBOX (cutbox-door.mjs). By AI agents, Wed Nov 11 2026. No macro, syntax, notation, axiom, sorry.
-/
import Derived.Test.YtlllcdjcihnkdaaDoorRows
import GoSem.ClaimSeven
namespace Go.Proofs.YtlllcdjcihnkdaaDoor
namespace Rows

/-- THE TIED CARD OF 'cooperagelaw01.SumsPrints'. -/
def sumsPrintsCard : Claim7 := { stood := { row := sumsPrintsRow, standIns := [], harness := (true, "1a2196cf61226d28733655b06c49ed83718f1355fae142202dd28ada9df7e001"), looks := false }, kinds := [], alts := [], laidByText := true, laidKinds := [.data, .data], laidTests := true, laidLooks := .later }
def SumsPrintsCardSaid : Prop := Claim7.holds Tryd.pinned (.plain (OpenSpec.ofChange sumsPrintsSpec)) sumsPrintsCard

/-- THE TIED CARD OF 'cooperagelaw01.SumsRoots'. -/
def sumsRootsCard : Claim7 := { stood := { row := sumsRootsRow, standIns := [], harness := (true, "1a2196cf61226d28733655b06c49ed83718f1355fae142202dd28ada9df7e001"), looks := false }, kinds := [], alts := [], laidByText := true, laidKinds := [.data, .data], laidTests := true, laidLooks := .later }
def SumsRootsCardSaid : Prop := Claim7.holds Tryd.pinned (.plain (OpenSpec.ofChange sumsRootsSpec)) sumsRootsCard

/-- THE TIED CARD OF 'cooperagelaw01.SumsChecks'. -/
def sumsChecksCard : Claim7 := { stood := { row := sumsChecksRow, standIns := [], harness := (true, "1a2196cf61226d28733655b06c49ed83718f1355fae142202dd28ada9df7e001"), looks := false }, kinds := [], alts := [], laidByText := true, laidKinds := [.data, .data], laidTests := true, laidLooks := .later }
def SumsChecksCardSaid : Prop := Claim7.holds Tryd.pinned (.plain (OpenSpec.ofChange sumsChecksSpec)) sumsChecksCard

/-- THE TIED CARD OF 'cooperagelaw01.SumsUnlike'. -/
def sumsUnlikeCard : Claim7 := { stood := { row := sumsUnlikeRow, standIns := [], harness := (true, "1a2196cf61226d28733655b06c49ed83718f1355fae142202dd28ada9df7e001"), looks := false }, kinds := [], alts := [], laidByText := true, laidKinds := [.data, .data], laidTests := true, laidLooks := .later }
def SumsUnlikeCardSaid : Prop := Claim7.holds Tryd.pinned (.plain (OpenSpec.ofChange sumsUnlikeSpec)) sumsUnlikeCard

/-- THE TIED CARD OF 'cooperagelaw01.SumsDigits'. -/
def sumsDigitsCard : Claim7 := { stood := { row := sumsDigitsRow, standIns := [], harness := (true, "1a2196cf61226d28733655b06c49ed83718f1355fae142202dd28ada9df7e001"), looks := false }, kinds := [], alts := [], laidByText := true, laidKinds := [.data, .data], laidTests := true, laidLooks := .later }
def SumsDigitsCardSaid : Prop := Claim7.holds Tryd.pinned (.plain (OpenSpec.ofChange sumsDigitsSpec)) sumsDigitsCard

/-- THE SECOND FORM's CARD OF 'cooperagelaw01.SumsPrints'. -/
def sumsPrintsUptoCard : Claim7 := { stood := { row := sumsPrintsUptoRow, standIns := [], harness := (true, "1a2196cf61226d28733655b06c49ed83718f1355fae142202dd28ada9df7e001"), looks := false }, kinds := [], alts := [], laidByText := true, laidKinds := [.data, .data], laidTests := true, laidLooks := .later }
def SumsPrintsUptoCardSaid : Prop := Claim7.holds Tryd.pinned (.plain (OpenSpec.upto sumsPrintsSpec)) sumsPrintsUptoCard

/-- THE SECOND FORM's CARD OF 'cooperagelaw01.SumsRoots'. -/
def sumsRootsUptoCard : Claim7 := { stood := { row := sumsRootsUptoRow, standIns := [], harness := (true, "1a2196cf61226d28733655b06c49ed83718f1355fae142202dd28ada9df7e001"), looks := false }, kinds := [], alts := [], laidByText := true, laidKinds := [.data, .data], laidTests := true, laidLooks := .later }
def SumsRootsUptoCardSaid : Prop := Claim7.holds Tryd.pinned (.plain (OpenSpec.upto sumsRootsSpec)) sumsRootsUptoCard

/-- THE SECOND FORM's CARD OF 'cooperagelaw01.SumsChecks'. -/
def sumsChecksUptoCard : Claim7 := { stood := { row := sumsChecksUptoRow, standIns := [], harness := (true, "1a2196cf61226d28733655b06c49ed83718f1355fae142202dd28ada9df7e001"), looks := false }, kinds := [], alts := [], laidByText := true, laidKinds := [.data, .data], laidTests := true, laidLooks := .later }
def SumsChecksUptoCardSaid : Prop := Claim7.holds Tryd.pinned (.plain (OpenSpec.upto sumsChecksSpec)) sumsChecksUptoCard

/-- THE SECOND FORM's CARD OF 'cooperagelaw01.SumsUnlike'. -/
def sumsUnlikeUptoCard : Claim7 := { stood := { row := sumsUnlikeUptoRow, standIns := [], harness := (true, "1a2196cf61226d28733655b06c49ed83718f1355fae142202dd28ada9df7e001"), looks := false }, kinds := [], alts := [], laidByText := true, laidKinds := [.data, .data], laidTests := true, laidLooks := .later }
def SumsUnlikeUptoCardSaid : Prop := Claim7.holds Tryd.pinned (.plain (OpenSpec.upto sumsUnlikeSpec)) sumsUnlikeUptoCard

/-- THE SECOND FORM's CARD OF 'cooperagelaw01.SumsDigits'. -/
def sumsDigitsUptoCard : Claim7 := { stood := { row := sumsDigitsUptoRow, standIns := [], harness := (true, "1a2196cf61226d28733655b06c49ed83718f1355fae142202dd28ada9df7e001"), looks := false }, kinds := [], alts := [], laidByText := true, laidKinds := [.data, .data], laidTests := true, laidLooks := .later }
def SumsDigitsUptoCardSaid : Prop := Claim7.holds Tryd.pinned (.plain (OpenSpec.upto sumsDigitsSpec)) sumsDigitsUptoCard
end Rows
end Go.Proofs.YtlllcdjcihnkdaaDoor
