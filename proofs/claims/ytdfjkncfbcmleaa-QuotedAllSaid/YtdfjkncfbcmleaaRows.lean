/-
  No cell of these rows narrows 'for every input' (looked for: loops, veiled, ifaces, maps, wideKeys, modest, calm, conditions, laid).
  DERIVED. THE GIVEN ROWS OF THIS SEAT. 5 by the template 'for every input the law returns true; each argument reads behind the call as it read before'; 0 by the template 'total and deterministic' (their statements: YtdfjkncfbcmleaaTotals.lean).
  GIVEN WITH THE SEED: the statements are not yours to turn. If you find one false, say at which input.
  Laid BY PROGRAM, IN A SANDBOX (cutbox-rows.mjs): the forced cells as the released guide's own fill.sh prints them over the translation 0672cece814eef8e… (all of the seat's roots in one cut). By AI agents, Wed Nov 11 2026. No macro, syntax, notation, axiom, sorry.
-/
import Derived.Test.YtdfjkncfbcmleaaChecked
import GoSem.Claim
import GoSem.ClaimJoined
import GoSem.ClaimMapViews
import Derived.JoinedTies
import Derived.KernelRfl
namespace Go.Proofs.Ytdfjkncfbcmleaa
/- THE CELL 'sum', in the pinned program and in every row, IS THE sha256 OF THE DUMP (.gsa) THAT YtdfjkncfbcmleaaProg.lean LOADS. Nothing in Lean hashes anything: it is a label: what it is worth is what the hold of that sum in a sandbox is worth. -/
noncomputable def Try.pinned : Pinned := { name := "ytdfjkncfbcmleaa", sum := "0672cece814eef8ea3658c11b882c30420e7a51e9ffb873035cac6eaab45edc6", checked := Try.checked }
namespace Rows
def none {H : Type} : Left H := { results := [], args := [] }

/-- 'pillarboxlaw4.QuotedAll': WHATEVER THE INPUT: true; the input reads as it did. -/
def quotedAllSpec : ChangeSpec := { name := "quotedAll", fn := fun _ => fun
  | [d] => { results := [.lit (.bool true)], args := [d] }
  | _ => none }
def quotedAllRow : OpenClaim := { program := "ytdfjkncfbcmleaa", sum := "0672cece814eef8ea3658c11b882c30420e7a51e9ffb873035cac6eaab45edc6", func := "pillarbox/pillarboxlaw4.QuotedAll", spec := "quotedAll", inPlace := ["internal/abi.NoEscape", "internal/bytealg.MakeNoZero", "internal/bytealg.IndexByteString", "internal/bytealg.IndexString"], unfollowed := true, recurses := true, named := ["internal/bytealg.MaxLen"], apart := false }
def QuotedAllSaid : Prop := quotedAllRow.holds Try.pinned (OpenSpec.ofChange quotedAllSpec)

/-- ITS FALSE NEIGHBOUR: 'it returns false'. Refute it at one input. -/
def quotedAllWrong : ChangeSpec := { name := "quotedAll", fn := fun _ => fun
  | [d] => { results := [.lit (.bool false)], args := [d] }
  | _ => none }
def QuotedAllWrongFalsely : Prop := quotedAllRow.holds Try.pinned (OpenSpec.ofChange quotedAllWrong)

/-- 'pillarboxlaw4.QuotedBack': WHATEVER THE INPUT: true; the input reads as it did. -/
def quotedBackSpec : ChangeSpec := { name := "quotedBack", fn := fun _ => fun
  | [d] => { results := [.lit (.bool true)], args := [d] }
  | _ => none }
def quotedBackRow : OpenClaim := { program := "ytdfjkncfbcmleaa", sum := "0672cece814eef8ea3658c11b882c30420e7a51e9ffb873035cac6eaab45edc6", func := "pillarbox/pillarboxlaw4.QuotedBack", spec := "quotedBack", inPlace := ["internal/abi.NoEscape", "internal/bytealg.MakeNoZero", "internal/bytealg.IndexByteString", "internal/bytealg.IndexString"], unfollowed := true, recurses := true, named := ["internal/bytealg.MaxLen"], apart := false }
def QuotedBackSaid : Prop := quotedBackRow.holds Try.pinned (OpenSpec.ofChange quotedBackSpec)

/-- ITS FALSE NEIGHBOUR: 'it returns false'. Refute it at one input. -/
def quotedBackWrong : ChangeSpec := { name := "quotedBack", fn := fun _ => fun
  | [d] => { results := [.lit (.bool false)], args := [d] }
  | _ => none }
def QuotedBackWrongFalsely : Prop := quotedBackRow.holds Try.pinned (OpenSpec.ofChange quotedBackWrong)

/-- 'pillarboxlaw4.QuotedPlain': WHATEVER THE INPUT: true; the input reads as it did. -/
def quotedPlainSpec : ChangeSpec := { name := "quotedPlain", fn := fun _ => fun
  | [d1, d2] => { results := [.lit (.bool true)], args := [d1, d2] }
  | _ => none }
def quotedPlainRow : OpenClaim := { program := "ytdfjkncfbcmleaa", sum := "0672cece814eef8ea3658c11b882c30420e7a51e9ffb873035cac6eaab45edc6", func := "pillarbox/pillarboxlaw4.QuotedPlain", spec := "quotedPlain", inPlace := ["internal/abi.NoEscape", "internal/bytealg.MakeNoZero", "internal/bytealg.IndexByteString", "internal/bytealg.IndexString"], unfollowed := true, recurses := true, named := ["internal/bytealg.MaxLen"], apart := false }
def QuotedPlainSaid : Prop := quotedPlainRow.holds Try.pinned (OpenSpec.ofChange quotedPlainSpec)

/-- ITS FALSE NEIGHBOUR: 'it returns false'. Refute it at one input. -/
def quotedPlainWrong : ChangeSpec := { name := "quotedPlain", fn := fun _ => fun
  | [d1, d2] => { results := [.lit (.bool false)], args := [d1, d2] }
  | _ => none }
def QuotedPlainWrongFalsely : Prop := quotedPlainRow.holds Try.pinned (OpenSpec.ofChange quotedPlainWrong)

/-- 'pillarboxlaw4.QuotedHex': WHATEVER THE INPUT: true; the input reads as it did. -/
def quotedHexSpec : ChangeSpec := { name := "quotedHex", fn := fun _ => fun
  | [d] => { results := [.lit (.bool true)], args := [d] }
  | _ => none }
def quotedHexRow : OpenClaim := { program := "ytdfjkncfbcmleaa", sum := "0672cece814eef8ea3658c11b882c30420e7a51e9ffb873035cac6eaab45edc6", func := "pillarbox/pillarboxlaw4.QuotedHex", spec := "quotedHex", inPlace := ["internal/abi.NoEscape", "internal/bytealg.MakeNoZero", "internal/bytealg.IndexByteString", "internal/bytealg.IndexString"], unfollowed := true, recurses := true, named := ["internal/bytealg.MaxLen"], apart := false }
def QuotedHexSaid : Prop := quotedHexRow.holds Try.pinned (OpenSpec.ofChange quotedHexSpec)

/-- ITS FALSE NEIGHBOUR: 'it returns false'. Refute it at one input. -/
def quotedHexWrong : ChangeSpec := { name := "quotedHex", fn := fun _ => fun
  | [d] => { results := [.lit (.bool false)], args := [d] }
  | _ => none }
def QuotedHexWrongFalsely : Prop := quotedHexRow.holds Try.pinned (OpenSpec.ofChange quotedHexWrong)

/-- 'pillarboxlaw4.QuotedBad': WHATEVER THE INPUT: true; the input reads as it did. -/
def quotedBadSpec : ChangeSpec := { name := "quotedBad", fn := fun _ => fun
  | [d1, d2] => { results := [.lit (.bool true)], args := [d1, d2] }
  | _ => none }
def quotedBadRow : OpenClaim := { program := "ytdfjkncfbcmleaa", sum := "0672cece814eef8ea3658c11b882c30420e7a51e9ffb873035cac6eaab45edc6", func := "pillarbox/pillarboxlaw4.QuotedBad", spec := "quotedBad", inPlace := ["internal/abi.NoEscape", "internal/bytealg.MakeNoZero", "internal/bytealg.IndexByteString", "internal/bytealg.IndexString"], unfollowed := true, recurses := true, named := ["internal/bytealg.MaxLen"], apart := false }
def QuotedBadSaid : Prop := quotedBadRow.holds Try.pinned (OpenSpec.ofChange quotedBadSpec)

/-- ITS FALSE NEIGHBOUR: 'it returns false'. Refute it at one input. -/
def quotedBadWrong : ChangeSpec := { name := "quotedBad", fn := fun _ => fun
  | [d1, d2] => { results := [.lit (.bool false)], args := [d1, d2] }
  | _ => none }
def QuotedBadWrongFalsely : Prop := quotedBadRow.holds Try.pinned (OpenSpec.ofChange quotedBadWrong)

/- THE SECOND FORM. 'bulk': how many values and letters a reading holds, each counted each time it is reached (what is shared counts as often as it is met; a slice's spare places count too). A statement '..UptoSaid' is the law's where the arguments, and the package variables that the reading takes, are together of bulk at most 1048576: NARROWER than '..Said'. Prove '..Said' where nothing that the law and all that it calls make is longer than what came in: it says more and counts as full. Else prove '..UptoSaid'. A law counts once. -/
mutual
def uptoBulk {H : Type} : DataW H → Nat
  | .lit (.string bytes) => bytes.length + 1
  | .lit _ => 1
  | .nil => 1
  | .ptr d => uptoBulk d + 1
  | .slice elems spare => uptoBulkAll elems + uptoBulkAll spare + 1
  | .agg parts => uptoBulkAll parts + 1
  | .iface _ d => uptoBulk d + 1
  | .map entries => uptoBulkEntries entries + 1
  | .held _ => 1
def uptoBulkAll {H : Type} : List (DataW H) → Nat
  | [] => 0
  | d :: r => uptoBulk d + uptoBulkAll r
def uptoBulkEntries {H : Type} : List (Lit × DataW H) → Nat
  | [] => 0
  | x :: r => uptoBulkEntry x + uptoBulkEntries r
def uptoBulkEntry {H : Type} : Lit × DataW H → Nat
  | (.string bytes, d) => bytes.length + uptoBulk d + 1
  | (_, d) => uptoBulk d + 1
 end
def uptoSmall : (H : Type) → List (DataW H) → Bool := fun _ ds => decide (uptoBulkAll ds ≤ 1048576)
def OpenSpec.upto (s : _root_.Go.ChangeSpec) : _root_.Go.OpenSpec := { _root_.Go.OpenSpec.ofChange s with cond := some uptoSmall }

/-- 'pillarboxlaw4.QuotedAll', WHERE WHAT IT READS IS OF BULK AT MOST 1048576: true; the input reads as it did. -/
def quotedAllUptoRow : OpenClaim := { program := "ytdfjkncfbcmleaa", sum := "0672cece814eef8ea3658c11b882c30420e7a51e9ffb873035cac6eaab45edc6", func := "pillarbox/pillarboxlaw4.QuotedAll", spec := "quotedAll", inPlace := ["internal/abi.NoEscape", "internal/bytealg.MakeNoZero", "internal/bytealg.IndexByteString", "internal/bytealg.IndexString"], unfollowed := true, recurses := true, named := ["internal/bytealg.MaxLen"], apart := false, narrowed := true }
def QuotedAllUptoSaid : Prop := quotedAllUptoRow.holds Try.pinned (OpenSpec.upto quotedAllSpec)

/-- 'pillarboxlaw4.QuotedBack', WHERE WHAT IT READS IS OF BULK AT MOST 1048576: true; the input reads as it did. -/
def quotedBackUptoRow : OpenClaim := { program := "ytdfjkncfbcmleaa", sum := "0672cece814eef8ea3658c11b882c30420e7a51e9ffb873035cac6eaab45edc6", func := "pillarbox/pillarboxlaw4.QuotedBack", spec := "quotedBack", inPlace := ["internal/abi.NoEscape", "internal/bytealg.MakeNoZero", "internal/bytealg.IndexByteString", "internal/bytealg.IndexString"], unfollowed := true, recurses := true, named := ["internal/bytealg.MaxLen"], apart := false, narrowed := true }
def QuotedBackUptoSaid : Prop := quotedBackUptoRow.holds Try.pinned (OpenSpec.upto quotedBackSpec)

/-- 'pillarboxlaw4.QuotedPlain', WHERE WHAT IT READS IS OF BULK AT MOST 1048576: true; the input reads as it did. -/
def quotedPlainUptoRow : OpenClaim := { program := "ytdfjkncfbcmleaa", sum := "0672cece814eef8ea3658c11b882c30420e7a51e9ffb873035cac6eaab45edc6", func := "pillarbox/pillarboxlaw4.QuotedPlain", spec := "quotedPlain", inPlace := ["internal/abi.NoEscape", "internal/bytealg.MakeNoZero", "internal/bytealg.IndexByteString", "internal/bytealg.IndexString"], unfollowed := true, recurses := true, named := ["internal/bytealg.MaxLen"], apart := false, narrowed := true }
def QuotedPlainUptoSaid : Prop := quotedPlainUptoRow.holds Try.pinned (OpenSpec.upto quotedPlainSpec)

/-- 'pillarboxlaw4.QuotedHex', WHERE WHAT IT READS IS OF BULK AT MOST 1048576: true; the input reads as it did. -/
def quotedHexUptoRow : OpenClaim := { program := "ytdfjkncfbcmleaa", sum := "0672cece814eef8ea3658c11b882c30420e7a51e9ffb873035cac6eaab45edc6", func := "pillarbox/pillarboxlaw4.QuotedHex", spec := "quotedHex", inPlace := ["internal/abi.NoEscape", "internal/bytealg.MakeNoZero", "internal/bytealg.IndexByteString", "internal/bytealg.IndexString"], unfollowed := true, recurses := true, named := ["internal/bytealg.MaxLen"], apart := false, narrowed := true }
def QuotedHexUptoSaid : Prop := quotedHexUptoRow.holds Try.pinned (OpenSpec.upto quotedHexSpec)

/-- 'pillarboxlaw4.QuotedBad', WHERE WHAT IT READS IS OF BULK AT MOST 1048576: true; the input reads as it did. -/
def quotedBadUptoRow : OpenClaim := { program := "ytdfjkncfbcmleaa", sum := "0672cece814eef8ea3658c11b882c30420e7a51e9ffb873035cac6eaab45edc6", func := "pillarbox/pillarboxlaw4.QuotedBad", spec := "quotedBad", inPlace := ["internal/abi.NoEscape", "internal/bytealg.MakeNoZero", "internal/bytealg.IndexByteString", "internal/bytealg.IndexString"], unfollowed := true, recurses := true, named := ["internal/bytealg.MaxLen"], apart := false, narrowed := true }
def QuotedBadUptoSaid : Prop := quotedBadUptoRow.holds Try.pinned (OpenSpec.upto quotedBadSpec)

end Rows
end Go.Proofs.Ytdfjkncfbcmleaa
