/-
  NARROWER THAN 'FOR EVERY INPUT', by the rows' own cells (each row's printed sentence says how): TxRuns: laid · BlobPages: laid · BlobRuns: laid · BlobBig: laid.
  DERIVED. THE GIVEN ROWS OF THIS SEAT. 4 by the template 'for every input the law returns true; each argument reads behind the call as it read before'; 0 by the template 'total and deterministic' (their statements: YtahnhhhhfioibaaGreatDoorTotals.lean).
  GIVEN WITH THE SEED: the statements are not yours to turn. If you find one false, say at which input.
  Laid BY PROGRAM, IN A SANDBOX (cutbox-rows.mjs): the forced cells as the released guide's own fill.sh prints them over the translation 7a0c9bc3116e0668… (all of the seat's roots in one cut). By AI agents, Wed Nov 11 2026. No macro, syntax, notation, axiom, sorry.
-/
import Derived.Test.YtahnhhhhfioibaaGreatDoorChecked
import GoSem.PinnedTables
import GoSem.Claim
import GoSem.ClaimJoined
import GoSem.ClaimMapViews
import Derived.JoinedTies
import Derived.KernelRfl
namespace Go.Proofs.YtahnhhhhfioibaaGreatDoor
/- THE CELL 'sum', in the pinned program and in every row, IS THE sha256 OF THE DUMP (.gsa) THAT YtahnhhhhfioibaaGreatDoorProg.lean LOADS. Nothing in Lean hashes anything: it is a label: what it is worth is what the hold of that sum in a sandbox is worth. -/
noncomputable def Tryz.pinned : Pinned := { name := "ytahnhhhhfioibaagreatdoor", sum := "7a0c9bc3116e0668fa60385c35def853fe21b8fd1cd32b2ee64212c33fbe2210", checked := Tryz.checked }
namespace Rows
def none {H : Type} : Left H := { results := [], args := [] }

/- WHAT THE LISTED PACKAGE-LEVEL VARIABLES READ AS WHEN THE CALL BEGINS. Each datum BY PROGRAM (the guide's laid-datum.mjs) off the statement by which the dump's own 'gosem.cut.vars' lays the variable. In a bare row this is a premise. The card (YtahnhhhhfioibaaGreatDoorCards.lean) ties it to the program's text. -/
def laid_unicode_utf8_acceptRanges {H : Type} : DataW H := .agg [.agg [.lit (.int .u8 128), .lit (.int .u8 191)], .agg [.lit (.int .u8 160), .lit (.int .u8 191)], .agg [.lit (.int .u8 128), .lit (.int .u8 159)], .agg [.lit (.int .u8 144), .lit (.int .u8 191)], .agg [.lit (.int .u8 128), .lit (.int .u8 143)], .agg [.lit (.int .u8 0), .lit (.int .u8 0)], .agg [.lit (.int .u8 0), .lit (.int .u8 0)], .agg [.lit (.int .u8 0), .lit (.int .u8 0)], .agg [.lit (.int .u8 0), .lit (.int .u8 0)], .agg [.lit (.int .u8 0), .lit (.int .u8 0)], .agg [.lit (.int .u8 0), .lit (.int .u8 0)], .agg [.lit (.int .u8 0), .lit (.int .u8 0)], .agg [.lit (.int .u8 0), .lit (.int .u8 0)], .agg [.lit (.int .u8 0), .lit (.int .u8 0)], .agg [.lit (.int .u8 0), .lit (.int .u8 0)], .agg [.lit (.int .u8 0), .lit (.int .u8 0)]]
/-- One of Go's own tables, pinned by name: the form's constant. -/
def laid_unicode_utf8_first : DataW Unit := Go.Pinned.utf8First

/-- 'cooperagelaw06.TxRuns': WHATEVER THE INPUT: true; the input reads as it did. -/
def txRunsSpec : ChangeSpec := { name := "txRuns", fn := fun _ => fun
  | [d] => { results := [.lit (.bool true)], args := [d] }
  | _ => none }
def txRunsRow : OpenClaim := { program := "ytahnhhhhfioibaagreatdoor", sum := "7a0c9bc3116e0668fa60385c35def853fe21b8fd1cd32b2ee64212c33fbe2210", func := "cooperage/cooperagelaw06.TxRuns", spec := "txRuns", inPlace := ["internal/bytealg.IndexByteString", "internal/bytealg.IndexString"], unfollowed := true, recurses := true, named := ["unicode/utf8.first", "unicode/utf8.acceptRanges", "internal/bytealg.MaxLen"], apart := false, laid := [("unicode/utf8.acceptRanges", laid_unicode_utf8_acceptRanges), ("unicode/utf8.first", laid_unicode_utf8_first)] }
def TxRunsSaid : Prop := txRunsRow.holds Tryz.pinned (OpenSpec.ofChange txRunsSpec)

/-- ITS FALSE NEIGHBOUR: 'it returns false'. Refute it at one input. -/
def txRunsWrong : ChangeSpec := { name := "txRuns", fn := fun _ => fun
  | [d] => { results := [.lit (.bool false)], args := [d] }
  | _ => none }
def TxRunsWrongFalsely : Prop := txRunsRow.holds Tryz.pinned (OpenSpec.ofChange txRunsWrong)

/-- 'cooperagelaw08.BlobPages': WHATEVER THE INPUT: true; the input reads as it did. -/
def blobPagesSpec : ChangeSpec := { name := "blobPages", fn := fun _ => fun
  | [d] => { results := [.lit (.bool true)], args := [d] }
  | _ => none }
def blobPagesRow : OpenClaim := { program := "ytahnhhhhfioibaagreatdoor", sum := "7a0c9bc3116e0668fa60385c35def853fe21b8fd1cd32b2ee64212c33fbe2210", func := "cooperage/cooperagelaw08.BlobPages", spec := "blobPages", inPlace := ["internal/bytealg.IndexByteString", "internal/bytealg.IndexString", "internal/abi.NoEscape"], named := ["unicode/utf8.first", "unicode/utf8.acceptRanges", "internal/bytealg.MaxLen"], apart := false, laid := [("unicode/utf8.acceptRanges", laid_unicode_utf8_acceptRanges), ("unicode/utf8.first", laid_unicode_utf8_first)] }
def BlobPagesSaid : Prop := blobPagesRow.holds Tryz.pinned (OpenSpec.ofChange blobPagesSpec)

/-- ITS FALSE NEIGHBOUR: 'it returns false'. Refute it at one input. -/
def blobPagesWrong : ChangeSpec := { name := "blobPages", fn := fun _ => fun
  | [d] => { results := [.lit (.bool false)], args := [d] }
  | _ => none }
def BlobPagesWrongFalsely : Prop := blobPagesRow.holds Tryz.pinned (OpenSpec.ofChange blobPagesWrong)

/-- 'cooperagelaw08.BlobRuns': WHATEVER THE INPUT: true; the input reads as it did. -/
def blobRunsSpec : ChangeSpec := { name := "blobRuns", fn := fun _ => fun
  | [d1, d2] => { results := [.lit (.bool true)], args := [d1, d2] }
  | _ => none }
def blobRunsRow : OpenClaim := { program := "ytahnhhhhfioibaagreatdoor", sum := "7a0c9bc3116e0668fa60385c35def853fe21b8fd1cd32b2ee64212c33fbe2210", func := "cooperage/cooperagelaw08.BlobRuns", spec := "blobRuns", inPlace := ["internal/bytealg.IndexByteString", "internal/bytealg.IndexString", "internal/abi.NoEscape"], named := ["unicode/utf8.first", "unicode/utf8.acceptRanges", "internal/bytealg.MaxLen"], apart := false, laid := [("unicode/utf8.acceptRanges", laid_unicode_utf8_acceptRanges), ("unicode/utf8.first", laid_unicode_utf8_first)] }
def BlobRunsSaid : Prop := blobRunsRow.holds Tryz.pinned (OpenSpec.ofChange blobRunsSpec)

/-- ITS FALSE NEIGHBOUR: 'it returns false'. Refute it at one input. -/
def blobRunsWrong : ChangeSpec := { name := "blobRuns", fn := fun _ => fun
  | [d1, d2] => { results := [.lit (.bool false)], args := [d1, d2] }
  | _ => none }
def BlobRunsWrongFalsely : Prop := blobRunsRow.holds Tryz.pinned (OpenSpec.ofChange blobRunsWrong)

/-- 'cooperagelaw08.BlobBig': WHATEVER THE INPUT: true; the input reads as it did. -/
def blobBigSpec : ChangeSpec := { name := "blobBig", fn := fun _ => fun
  | [d] => { results := [.lit (.bool true)], args := [d] }
  | _ => none }
def blobBigRow : OpenClaim := { program := "ytahnhhhhfioibaagreatdoor", sum := "7a0c9bc3116e0668fa60385c35def853fe21b8fd1cd32b2ee64212c33fbe2210", func := "cooperage/cooperagelaw08.BlobBig", spec := "blobBig", inPlace := ["internal/bytealg.IndexByteString", "internal/bytealg.IndexString", "internal/abi.NoEscape"], named := ["unicode/utf8.first", "unicode/utf8.acceptRanges", "internal/bytealg.MaxLen"], apart := false, laid := [("unicode/utf8.acceptRanges", laid_unicode_utf8_acceptRanges), ("unicode/utf8.first", laid_unicode_utf8_first)] }
def BlobBigSaid : Prop := blobBigRow.holds Tryz.pinned (OpenSpec.ofChange blobBigSpec)

/-- ITS FALSE NEIGHBOUR: 'it returns false'. Refute it at one input. -/
def blobBigWrong : ChangeSpec := { name := "blobBig", fn := fun _ => fun
  | [d] => { results := [.lit (.bool false)], args := [d] }
  | _ => none }
def BlobBigWrongFalsely : Prop := blobBigRow.holds Tryz.pinned (OpenSpec.ofChange blobBigWrong)

/- THE SECOND FORM. 'bulk': how many values and letters a reading holds, each counted each time it is reached (what is shared counts as often as it is met; a slice's spare places count too). A statement '..UptoSaid' is the law's where the arguments, and the package variables that the reading takes, are together of bulk at most 1048576: NARROWER than '..Said'. Prove '..Said' where nothing that the law and all that it calls make is longer than what came in: it says more and counts as full. Else prove '..UptoSaid'. A law counts once. -/
mutual
def uptoBulk {H : Type} : DataW H → Nat
  | .lit (.string bytes) => bytes.length + 1
  | .lit _ => 1
  | .nil => 1
  | .ptr d => uptoBulk d + 1
  | .slice elems spare => uptoBulkAll elems + uptoBulkAll spare + 1
  | .agg parts => uptoBulkAll parts + 1
  | .iface _ d => uptoBulk d + 1
  | .map entries => uptoBulkEntries entries + 1
  | .held _ => 1
def uptoBulkAll {H : Type} : List (DataW H) → Nat
  | [] => 0
  | d :: r => uptoBulk d + uptoBulkAll r
def uptoBulkEntries {H : Type} : List (Lit × DataW H) → Nat
  | [] => 0
  | x :: r => uptoBulkEntry x + uptoBulkEntries r
def uptoBulkEntry {H : Type} : Lit × DataW H → Nat
  | (.string bytes, d) => bytes.length + uptoBulk d + 1
  | (_, d) => uptoBulk d + 1
 end
def uptoSmall : (H : Type) → List (DataW H) → Bool := fun _ ds => decide (uptoBulkAll ds ≤ 1048576)
def OpenSpec.upto (s : _root_.Go.ChangeSpec) : _root_.Go.OpenSpec := { _root_.Go.OpenSpec.ofChange s with cond := some uptoSmall }

/-- 'cooperagelaw06.TxRuns', WHERE WHAT IT READS IS OF BULK AT MOST 1048576: true; the input reads as it did. -/
def txRunsUptoRow : OpenClaim := { program := "ytahnhhhhfioibaagreatdoor", sum := "7a0c9bc3116e0668fa60385c35def853fe21b8fd1cd32b2ee64212c33fbe2210", func := "cooperage/cooperagelaw06.TxRuns", spec := "txRuns", inPlace := ["internal/bytealg.IndexByteString", "internal/bytealg.IndexString"], unfollowed := true, recurses := true, named := ["unicode/utf8.first", "unicode/utf8.acceptRanges", "internal/bytealg.MaxLen"], apart := false, laid := [("unicode/utf8.acceptRanges", laid_unicode_utf8_acceptRanges), ("unicode/utf8.first", laid_unicode_utf8_first)], narrowed := true }
def TxRunsUptoSaid : Prop := txRunsUptoRow.holds Tryz.pinned (OpenSpec.upto txRunsSpec)

/-- 'cooperagelaw08.BlobPages', WHERE WHAT IT READS IS OF BULK AT MOST 1048576: true; the input reads as it did. -/
def blobPagesUptoRow : OpenClaim := { program := "ytahnhhhhfioibaagreatdoor", sum := "7a0c9bc3116e0668fa60385c35def853fe21b8fd1cd32b2ee64212c33fbe2210", func := "cooperage/cooperagelaw08.BlobPages", spec := "blobPages", inPlace := ["internal/bytealg.IndexByteString", "internal/bytealg.IndexString", "internal/abi.NoEscape"], named := ["unicode/utf8.first", "unicode/utf8.acceptRanges", "internal/bytealg.MaxLen"], apart := false, laid := [("unicode/utf8.acceptRanges", laid_unicode_utf8_acceptRanges), ("unicode/utf8.first", laid_unicode_utf8_first)], narrowed := true }
def BlobPagesUptoSaid : Prop := blobPagesUptoRow.holds Tryz.pinned (OpenSpec.upto blobPagesSpec)

/-- 'cooperagelaw08.BlobRuns', WHERE WHAT IT READS IS OF BULK AT MOST 1048576: true; the input reads as it did. -/
def blobRunsUptoRow : OpenClaim := { program := "ytahnhhhhfioibaagreatdoor", sum := "7a0c9bc3116e0668fa60385c35def853fe21b8fd1cd32b2ee64212c33fbe2210", func := "cooperage/cooperagelaw08.BlobRuns", spec := "blobRuns", inPlace := ["internal/bytealg.IndexByteString", "internal/bytealg.IndexString", "internal/abi.NoEscape"], named := ["unicode/utf8.first", "unicode/utf8.acceptRanges", "internal/bytealg.MaxLen"], apart := false, laid := [("unicode/utf8.acceptRanges", laid_unicode_utf8_acceptRanges), ("unicode/utf8.first", laid_unicode_utf8_first)], narrowed := true }
def BlobRunsUptoSaid : Prop := blobRunsUptoRow.holds Tryz.pinned (OpenSpec.upto blobRunsSpec)

/-- 'cooperagelaw08.BlobBig', WHERE WHAT IT READS IS OF BULK AT MOST 1048576: true; the input reads as it did. -/
def blobBigUptoRow : OpenClaim := { program := "ytahnhhhhfioibaagreatdoor", sum := "7a0c9bc3116e0668fa60385c35def853fe21b8fd1cd32b2ee64212c33fbe2210", func := "cooperage/cooperagelaw08.BlobBig", spec := "blobBig", inPlace := ["internal/bytealg.IndexByteString", "internal/bytealg.IndexString", "internal/abi.NoEscape"], named := ["unicode/utf8.first", "unicode/utf8.acceptRanges", "internal/bytealg.MaxLen"], apart := false, laid := [("unicode/utf8.acceptRanges", laid_unicode_utf8_acceptRanges), ("unicode/utf8.first", laid_unicode_utf8_first)], narrowed := true }
def BlobBigUptoSaid : Prop := blobBigUptoRow.holds Tryz.pinned (OpenSpec.upto blobBigSpec)

end Rows
end Go.Proofs.YtahnhhhhfioibaaGreatDoor
