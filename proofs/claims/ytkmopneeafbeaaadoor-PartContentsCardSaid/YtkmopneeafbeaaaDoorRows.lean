/-
  NARROWER THAN 'FOR EVERY INPUT', by the rows' own cells (each row's printed sentence says how): PartValues: laid · PartTrees: laid · PartContents: laid · PartMade: laid · PartMany: laid · PartNested: laid.
  DERIVED. THE GIVEN ROWS OF THIS SEAT. 6 by the template 'for every input the law returns true; each argument reads behind the call as it read before'; 0 by the template 'total and deterministic' (their statements: YtkmopneeafbeaaaDoorTotals.lean).
  GIVEN WITH THE SEED: the statements are not yours to turn. If you find one false, say at which input.
  Laid BY PROGRAM, IN A SANDBOX (cutbox-rows.mjs): the forced cells as the released guide's own fill.sh prints them over the translation 7b780e087fd2f806… (all of the seat's roots in one cut). By AI agents, Wed Nov 11 2026. No macro, syntax, notation, axiom, sorry.
-/
import Derived.Test.YtkmopneeafbeaaaDoorChecked
import GoSem.PinnedTables
import GoSem.Claim
import GoSem.ClaimJoined
import GoSem.ClaimMapViews
import Derived.JoinedTies
import Derived.KernelRfl
namespace Go.Proofs.YtkmopneeafbeaaaDoor
/- THE CELL 'sum', in the pinned program and in every row, IS THE sha256 OF THE DUMP (.gsa) THAT YtkmopneeafbeaaaDoorProg.lean LOADS. Nothing in Lean hashes anything: it is a label: what it is worth is what the hold of that sum in a sandbox is worth. -/
noncomputable def Tryd.pinned : Pinned := { name := "ytkmopneeafbeaaadoor", sum := "7b780e087fd2f8062f7a6087d9e7ce553b8abe91311803c7a0b5bc9cff86ed5f", checked := Tryd.checked }
namespace Rows
def none {H : Type} : Left H := { results := [], args := [] }

/- WHAT THE LISTED PACKAGE-LEVEL VARIABLES READ AS WHEN THE CALL BEGINS. Each datum BY PROGRAM (the guide's laid-datum.mjs) off the statement by which the dump's own 'gosem.cut.vars' lays the variable. In a bare row this is a premise. The card (YtkmopneeafbeaaaDoorCards.lean) ties it to the program's text. -/
def laid_unicode_utf8_acceptRanges {H : Type} : DataW H := .agg [.agg [.lit (.int .u8 128), .lit (.int .u8 191)], .agg [.lit (.int .u8 160), .lit (.int .u8 191)], .agg [.lit (.int .u8 128), .lit (.int .u8 159)], .agg [.lit (.int .u8 144), .lit (.int .u8 191)], .agg [.lit (.int .u8 128), .lit (.int .u8 143)], .agg [.lit (.int .u8 0), .lit (.int .u8 0)], .agg [.lit (.int .u8 0), .lit (.int .u8 0)], .agg [.lit (.int .u8 0), .lit (.int .u8 0)], .agg [.lit (.int .u8 0), .lit (.int .u8 0)], .agg [.lit (.int .u8 0), .lit (.int .u8 0)], .agg [.lit (.int .u8 0), .lit (.int .u8 0)], .agg [.lit (.int .u8 0), .lit (.int .u8 0)], .agg [.lit (.int .u8 0), .lit (.int .u8 0)], .agg [.lit (.int .u8 0), .lit (.int .u8 0)], .agg [.lit (.int .u8 0), .lit (.int .u8 0)], .agg [.lit (.int .u8 0), .lit (.int .u8 0)]]
/-- One of Go's own tables, pinned by name: the form's constant. -/
def laid_unicode_utf8_first : DataW Unit := Go.Pinned.utf8First

/-- 'pillarboxlaw13.PartValues': WHATEVER THE INPUT: true; the input reads as it did. -/
def partValuesSpec : ChangeSpec := { name := "partValues", fn := fun _ => fun
  | [d] => { results := [.lit (.bool true)], args := [d] }
  | _ => none }
def partValuesRow : OpenClaim := { program := "ytkmopneeafbeaaadoor", sum := "7b780e087fd2f8062f7a6087d9e7ce553b8abe91311803c7a0b5bc9cff86ed5f", func := "pillarbox/pillarboxlaw13.PartValues", spec := "partValues", inPlace := ["internal/bytealg.IndexByteString", "internal/bytealg.IndexString", "internal/abi.NoEscape", "internal/bytealg.MakeNoZero"], unfollowed := true, recurses := true, named := ["internal/bytealg.MaxLen", "unicode/utf8.first", "unicode/utf8.acceptRanges"], apart := false, laid := [("unicode/utf8.acceptRanges", laid_unicode_utf8_acceptRanges), ("unicode/utf8.first", laid_unicode_utf8_first)] }
def PartValuesSaid : Prop := partValuesRow.holds Tryd.pinned (OpenSpec.ofChange partValuesSpec)

/-- ITS FALSE NEIGHBOUR: 'it returns false'. Refute it at one input. -/
def partValuesWrong : ChangeSpec := { name := "partValues", fn := fun _ => fun
  | [d] => { results := [.lit (.bool false)], args := [d] }
  | _ => none }
def PartValuesWrongFalsely : Prop := partValuesRow.holds Tryd.pinned (OpenSpec.ofChange partValuesWrong)

/-- 'pillarboxlaw13.PartTrees': WHATEVER THE INPUT: true; the input reads as it did. -/
def partTreesSpec : ChangeSpec := { name := "partTrees", fn := fun _ => fun
  | [d] => { results := [.lit (.bool true)], args := [d] }
  | _ => none }
def partTreesRow : OpenClaim := { program := "ytkmopneeafbeaaadoor", sum := "7b780e087fd2f8062f7a6087d9e7ce553b8abe91311803c7a0b5bc9cff86ed5f", func := "pillarbox/pillarboxlaw13.PartTrees", spec := "partTrees", inPlace := ["internal/bytealg.IndexByteString", "internal/bytealg.IndexString", "internal/abi.NoEscape", "internal/bytealg.MakeNoZero"], unfollowed := true, recurses := true, named := ["internal/bytealg.MaxLen", "unicode/utf8.first", "unicode/utf8.acceptRanges"], apart := false, laid := [("unicode/utf8.acceptRanges", laid_unicode_utf8_acceptRanges), ("unicode/utf8.first", laid_unicode_utf8_first)] }
def PartTreesSaid : Prop := partTreesRow.holds Tryd.pinned (OpenSpec.ofChange partTreesSpec)

/-- ITS FALSE NEIGHBOUR: 'it returns false'. Refute it at one input. -/
def partTreesWrong : ChangeSpec := { name := "partTrees", fn := fun _ => fun
  | [d] => { results := [.lit (.bool false)], args := [d] }
  | _ => none }
def PartTreesWrongFalsely : Prop := partTreesRow.holds Tryd.pinned (OpenSpec.ofChange partTreesWrong)

/-- 'pillarboxlaw13.PartContents': WHATEVER THE INPUT: true; the input reads as it did. -/
def partContentsSpec : ChangeSpec := { name := "partContents", fn := fun _ => fun
  | [d] => { results := [.lit (.bool true)], args := [d] }
  | _ => none }
def partContentsRow : OpenClaim := { program := "ytkmopneeafbeaaadoor", sum := "7b780e087fd2f8062f7a6087d9e7ce553b8abe91311803c7a0b5bc9cff86ed5f", func := "pillarbox/pillarboxlaw13.PartContents", spec := "partContents", inPlace := ["internal/bytealg.IndexByteString", "internal/bytealg.IndexString", "internal/abi.NoEscape", "internal/bytealg.MakeNoZero"], unfollowed := true, recurses := true, named := ["internal/bytealg.MaxLen", "unicode/utf8.first", "unicode/utf8.acceptRanges"], apart := false, laid := [("unicode/utf8.acceptRanges", laid_unicode_utf8_acceptRanges), ("unicode/utf8.first", laid_unicode_utf8_first)] }
def PartContentsSaid : Prop := partContentsRow.holds Tryd.pinned (OpenSpec.ofChange partContentsSpec)

/-- ITS FALSE NEIGHBOUR: 'it returns false'. Refute it at one input. -/
def partContentsWrong : ChangeSpec := { name := "partContents", fn := fun _ => fun
  | [d] => { results := [.lit (.bool false)], args := [d] }
  | _ => none }
def PartContentsWrongFalsely : Prop := partContentsRow.holds Tryd.pinned (OpenSpec.ofChange partContentsWrong)

/-- 'pillarboxlaw13.PartMade': WHATEVER THE INPUT: true; the input reads as it did. -/
def partMadeSpec : ChangeSpec := { name := "partMade", fn := fun _ => fun
  | [d1, d2, d3, d4] => { results := [.lit (.bool true)], args := [d1, d2, d3, d4] }
  | _ => none }
def partMadeRow : OpenClaim := { program := "ytkmopneeafbeaaadoor", sum := "7b780e087fd2f8062f7a6087d9e7ce553b8abe91311803c7a0b5bc9cff86ed5f", func := "pillarbox/pillarboxlaw13.PartMade", spec := "partMade", inPlace := ["internal/bytealg.IndexByteString", "internal/bytealg.IndexString", "internal/abi.NoEscape", "internal/bytealg.MakeNoZero"], unfollowed := true, recurses := true, named := ["internal/bytealg.MaxLen", "unicode/utf8.first", "unicode/utf8.acceptRanges"], apart := false, laid := [("unicode/utf8.acceptRanges", laid_unicode_utf8_acceptRanges), ("unicode/utf8.first", laid_unicode_utf8_first)] }
def PartMadeSaid : Prop := partMadeRow.holds Tryd.pinned (OpenSpec.ofChange partMadeSpec)

/-- ITS FALSE NEIGHBOUR: 'it returns false'. Refute it at one input. -/
def partMadeWrong : ChangeSpec := { name := "partMade", fn := fun _ => fun
  | [d1, d2, d3, d4] => { results := [.lit (.bool false)], args := [d1, d2, d3, d4] }
  | _ => none }
def PartMadeWrongFalsely : Prop := partMadeRow.holds Tryd.pinned (OpenSpec.ofChange partMadeWrong)

/-- 'pillarboxlaw13.PartMany': WHATEVER THE INPUT: true; the input reads as it did. -/
def partManySpec : ChangeSpec := { name := "partMany", fn := fun _ => fun
  | [d1, d2] => { results := [.lit (.bool true)], args := [d1, d2] }
  | _ => none }
def partManyRow : OpenClaim := { program := "ytkmopneeafbeaaadoor", sum := "7b780e087fd2f8062f7a6087d9e7ce553b8abe91311803c7a0b5bc9cff86ed5f", func := "pillarbox/pillarboxlaw13.PartMany", spec := "partMany", inPlace := ["internal/bytealg.IndexByteString", "internal/bytealg.IndexString", "internal/abi.NoEscape", "internal/bytealg.MakeNoZero"], unfollowed := true, recurses := true, named := ["internal/bytealg.MaxLen", "unicode/utf8.first", "unicode/utf8.acceptRanges"], apart := false, laid := [("unicode/utf8.acceptRanges", laid_unicode_utf8_acceptRanges), ("unicode/utf8.first", laid_unicode_utf8_first)] }
def PartManySaid : Prop := partManyRow.holds Tryd.pinned (OpenSpec.ofChange partManySpec)

/-- ITS FALSE NEIGHBOUR: 'it returns false'. Refute it at one input. -/
def partManyWrong : ChangeSpec := { name := "partMany", fn := fun _ => fun
  | [d1, d2] => { results := [.lit (.bool false)], args := [d1, d2] }
  | _ => none }
def PartManyWrongFalsely : Prop := partManyRow.holds Tryd.pinned (OpenSpec.ofChange partManyWrong)

/-- 'pillarboxlaw13.PartNested': WHATEVER THE INPUT: true; the input reads as it did. -/
def partNestedSpec : ChangeSpec := { name := "partNested", fn := fun _ => fun
  | [d1, d2, d3, d4] => { results := [.lit (.bool true)], args := [d1, d2, d3, d4] }
  | _ => none }
def partNestedRow : OpenClaim := { program := "ytkmopneeafbeaaadoor", sum := "7b780e087fd2f8062f7a6087d9e7ce553b8abe91311803c7a0b5bc9cff86ed5f", func := "pillarbox/pillarboxlaw13.PartNested", spec := "partNested", inPlace := ["internal/bytealg.IndexByteString", "internal/bytealg.IndexString", "internal/abi.NoEscape", "internal/bytealg.MakeNoZero"], unfollowed := true, recurses := true, named := ["internal/bytealg.MaxLen", "unicode/utf8.first", "unicode/utf8.acceptRanges"], apart := false, laid := [("unicode/utf8.acceptRanges", laid_unicode_utf8_acceptRanges), ("unicode/utf8.first", laid_unicode_utf8_first)] }
def PartNestedSaid : Prop := partNestedRow.holds Tryd.pinned (OpenSpec.ofChange partNestedSpec)

/-- ITS FALSE NEIGHBOUR: 'it returns false'. Refute it at one input. -/
def partNestedWrong : ChangeSpec := { name := "partNested", fn := fun _ => fun
  | [d1, d2, d3, d4] => { results := [.lit (.bool false)], args := [d1, d2, d3, d4] }
  | _ => none }
def PartNestedWrongFalsely : Prop := partNestedRow.holds Tryd.pinned (OpenSpec.ofChange partNestedWrong)

/- THE SECOND FORM. 'bulk': how many values and letters a reading holds, each counted each time it is reached (what is shared counts as often as it is met; a slice's spare places count too). A statement '..UptoSaid' is the law's where the arguments, and the package variables that the reading takes, are together of bulk at most 1048576: NARROWER than '..Said'. Prove '..Said' where nothing that the law and all that it calls make is longer than what came in: it says more and counts as full. Else prove '..UptoSaid'. A law counts once. -/
mutual
def uptoBulk {H : Type} : DataW H → Nat
  | .lit (.string bytes) => bytes.length + 1
  | .lit _ => 1
  | .nil => 1
  | .ptr d => uptoBulk d + 1
  | .slice elems spare => uptoBulkAll elems + uptoBulkAll spare + 1
  | .agg parts => uptoBulkAll parts + 1
  | .iface _ d => uptoBulk d + 1
  | .map entries => uptoBulkEntries entries + 1
  | .held _ => 1
def uptoBulkAll {H : Type} : List (DataW H) → Nat
  | [] => 0
  | d :: r => uptoBulk d + uptoBulkAll r
def uptoBulkEntries {H : Type} : List (Lit × DataW H) → Nat
  | [] => 0
  | x :: r => uptoBulkEntry x + uptoBulkEntries r
def uptoBulkEntry {H : Type} : Lit × DataW H → Nat
  | (.string bytes, d) => bytes.length + uptoBulk d + 1
  | (_, d) => uptoBulk d + 1
 end
def uptoSmall : (H : Type) → List (DataW H) → Bool := fun _ ds => decide (uptoBulkAll ds ≤ 1048576)
def OpenSpec.upto (s : _root_.Go.ChangeSpec) : _root_.Go.OpenSpec := { _root_.Go.OpenSpec.ofChange s with cond := some uptoSmall }

/-- 'pillarboxlaw13.PartValues', WHERE WHAT IT READS IS OF BULK AT MOST 1048576: true; the input reads as it did. -/
def partValuesUptoRow : OpenClaim := { program := "ytkmopneeafbeaaadoor", sum := "7b780e087fd2f8062f7a6087d9e7ce553b8abe91311803c7a0b5bc9cff86ed5f", func := "pillarbox/pillarboxlaw13.PartValues", spec := "partValues", inPlace := ["internal/bytealg.IndexByteString", "internal/bytealg.IndexString", "internal/abi.NoEscape", "internal/bytealg.MakeNoZero"], unfollowed := true, recurses := true, named := ["internal/bytealg.MaxLen", "unicode/utf8.first", "unicode/utf8.acceptRanges"], apart := false, laid := [("unicode/utf8.acceptRanges", laid_unicode_utf8_acceptRanges), ("unicode/utf8.first", laid_unicode_utf8_first)], narrowed := true }
def PartValuesUptoSaid : Prop := partValuesUptoRow.holds Tryd.pinned (OpenSpec.upto partValuesSpec)

/-- 'pillarboxlaw13.PartTrees', WHERE WHAT IT READS IS OF BULK AT MOST 1048576: true; the input reads as it did. -/
def partTreesUptoRow : OpenClaim := { program := "ytkmopneeafbeaaadoor", sum := "7b780e087fd2f8062f7a6087d9e7ce553b8abe91311803c7a0b5bc9cff86ed5f", func := "pillarbox/pillarboxlaw13.PartTrees", spec := "partTrees", inPlace := ["internal/bytealg.IndexByteString", "internal/bytealg.IndexString", "internal/abi.NoEscape", "internal/bytealg.MakeNoZero"], unfollowed := true, recurses := true, named := ["internal/bytealg.MaxLen", "unicode/utf8.first", "unicode/utf8.acceptRanges"], apart := false, laid := [("unicode/utf8.acceptRanges", laid_unicode_utf8_acceptRanges), ("unicode/utf8.first", laid_unicode_utf8_first)], narrowed := true }
def PartTreesUptoSaid : Prop := partTreesUptoRow.holds Tryd.pinned (OpenSpec.upto partTreesSpec)

/-- 'pillarboxlaw13.PartContents', WHERE WHAT IT READS IS OF BULK AT MOST 1048576: true; the input reads as it did. -/
def partContentsUptoRow : OpenClaim := { program := "ytkmopneeafbeaaadoor", sum := "7b780e087fd2f8062f7a6087d9e7ce553b8abe91311803c7a0b5bc9cff86ed5f", func := "pillarbox/pillarboxlaw13.PartContents", spec := "partContents", inPlace := ["internal/bytealg.IndexByteString", "internal/bytealg.IndexString", "internal/abi.NoEscape", "internal/bytealg.MakeNoZero"], unfollowed := true, recurses := true, named := ["internal/bytealg.MaxLen", "unicode/utf8.first", "unicode/utf8.acceptRanges"], apart := false, laid := [("unicode/utf8.acceptRanges", laid_unicode_utf8_acceptRanges), ("unicode/utf8.first", laid_unicode_utf8_first)], narrowed := true }
def PartContentsUptoSaid : Prop := partContentsUptoRow.holds Tryd.pinned (OpenSpec.upto partContentsSpec)

/-- 'pillarboxlaw13.PartMade', WHERE WHAT IT READS IS OF BULK AT MOST 1048576: true; the input reads as it did. -/
def partMadeUptoRow : OpenClaim := { program := "ytkmopneeafbeaaadoor", sum := "7b780e087fd2f8062f7a6087d9e7ce553b8abe91311803c7a0b5bc9cff86ed5f", func := "pillarbox/pillarboxlaw13.PartMade", spec := "partMade", inPlace := ["internal/bytealg.IndexByteString", "internal/bytealg.IndexString", "internal/abi.NoEscape", "internal/bytealg.MakeNoZero"], unfollowed := true, recurses := true, named := ["internal/bytealg.MaxLen", "unicode/utf8.first", "unicode/utf8.acceptRanges"], apart := false, laid := [("unicode/utf8.acceptRanges", laid_unicode_utf8_acceptRanges), ("unicode/utf8.first", laid_unicode_utf8_first)], narrowed := true }
def PartMadeUptoSaid : Prop := partMadeUptoRow.holds Tryd.pinned (OpenSpec.upto partMadeSpec)

/-- 'pillarboxlaw13.PartMany', WHERE WHAT IT READS IS OF BULK AT MOST 1048576: true; the input reads as it did. -/
def partManyUptoRow : OpenClaim := { program := "ytkmopneeafbeaaadoor", sum := "7b780e087fd2f8062f7a6087d9e7ce553b8abe91311803c7a0b5bc9cff86ed5f", func := "pillarbox/pillarboxlaw13.PartMany", spec := "partMany", inPlace := ["internal/bytealg.IndexByteString", "internal/bytealg.IndexString", "internal/abi.NoEscape", "internal/bytealg.MakeNoZero"], unfollowed := true, recurses := true, named := ["internal/bytealg.MaxLen", "unicode/utf8.first", "unicode/utf8.acceptRanges"], apart := false, laid := [("unicode/utf8.acceptRanges", laid_unicode_utf8_acceptRanges), ("unicode/utf8.first", laid_unicode_utf8_first)], narrowed := true }
def PartManyUptoSaid : Prop := partManyUptoRow.holds Tryd.pinned (OpenSpec.upto partManySpec)

/-- 'pillarboxlaw13.PartNested', WHERE WHAT IT READS IS OF BULK AT MOST 1048576: true; the input reads as it did. -/
def partNestedUptoRow : OpenClaim := { program := "ytkmopneeafbeaaadoor", sum := "7b780e087fd2f8062f7a6087d9e7ce553b8abe91311803c7a0b5bc9cff86ed5f", func := "pillarbox/pillarboxlaw13.PartNested", spec := "partNested", inPlace := ["internal/bytealg.IndexByteString", "internal/bytealg.IndexString", "internal/abi.NoEscape", "internal/bytealg.MakeNoZero"], unfollowed := true, recurses := true, named := ["internal/bytealg.MaxLen", "unicode/utf8.first", "unicode/utf8.acceptRanges"], apart := false, laid := [("unicode/utf8.acceptRanges", laid_unicode_utf8_acceptRanges), ("unicode/utf8.first", laid_unicode_utf8_first)], narrowed := true }
def PartNestedUptoSaid : Prop := partNestedUptoRow.holds Tryd.pinned (OpenSpec.upto partNestedSpec)

end Rows
end Go.Proofs.YtkmopneeafbeaaaDoor
