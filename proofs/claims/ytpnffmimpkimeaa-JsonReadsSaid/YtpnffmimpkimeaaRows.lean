/-
  No cell of these rows narrows 'for every input' (looked for: loops, veiled, ifaces, maps, wideKeys, modest, calm, conditions, laid).
  DERIVED. THE GIVEN ROWS OF THIS SEAT. 9 by the template 'for every input the law returns true; each argument reads behind the call as it read before'; 0 by the template 'total and deterministic' (their statements: YtpnffmimpkimeaaTotals.lean).
  GIVEN WITH THE SEED: the statements are not yours to turn. If you find one false, say at which input.
  Laid BY PROGRAM, IN A SANDBOX (cutbox-rows.mjs): the forced cells as the released guide's own fill.sh prints them over the translation ed565bcc2042647f… (all of the seat's roots in one cut). By AI agents, Wed Nov 11 2026. No macro, syntax, notation, axiom, sorry.
-/
import Derived.Test.YtpnffmimpkimeaaChecked
import GoSem.Claim
import GoSem.ClaimJoined
import GoSem.ClaimMapViews
import Derived.JoinedTies
import Derived.KernelRfl
namespace Go.Proofs.Ytpnffmimpkimeaa
/- THE CELL 'sum', in the pinned program and in every row, IS THE sha256 OF THE DUMP (.gsa) THAT YtpnffmimpkimeaaProg.lean LOADS. Nothing in Lean hashes anything: it is a label: what it is worth is what the hold of that sum in a sandbox is worth. -/
noncomputable def Try.pinned : Pinned := { name := "ytpnffmimpkimeaa", sum := "ed565bcc2042647fe7d12a8ac85b555edfe112c8f1fe4554b5bbf772599e914b", checked := Try.checked }
namespace Rows
def none {H : Type} : Left H := { results := [], args := [] }

/-- 'pillarboxlaw7.JsonReads': WHATEVER THE INPUT: true; the input reads as it did. -/
def jsonReadsSpec : ChangeSpec := { name := "jsonReads", fn := fun _ => fun
  | [d] => { results := [.lit (.bool true)], args := [d] }
  | _ => none }
def jsonReadsRow : OpenClaim := { program := "ytpnffmimpkimeaa", sum := "ed565bcc2042647fe7d12a8ac85b555edfe112c8f1fe4554b5bbf772599e914b", func := "pillarbox/pillarboxlaw7.JsonReads", spec := "jsonReads", inPlace := ["internal/abi.NoEscape"], unfollowed := true, recurses := true, apart := false }
def JsonReadsSaid : Prop := jsonReadsRow.holds Try.pinned (OpenSpec.ofChange jsonReadsSpec)

/-- ITS FALSE NEIGHBOUR: 'it returns false'. Refute it at one input. -/
def jsonReadsWrong : ChangeSpec := { name := "jsonReads", fn := fun _ => fun
  | [d] => { results := [.lit (.bool false)], args := [d] }
  | _ => none }
def JsonReadsWrongFalsely : Prop := jsonReadsRow.holds Try.pinned (OpenSpec.ofChange jsonReadsWrong)

/-- 'pillarboxlaw7.JsonBlanks': WHATEVER THE INPUT: true; the input reads as it did. -/
def jsonBlanksSpec : ChangeSpec := { name := "jsonBlanks", fn := fun _ => fun
  | [d1, d2, d3, d4] => { results := [.lit (.bool true)], args := [d1, d2, d3, d4] }
  | _ => none }
def jsonBlanksRow : OpenClaim := { program := "ytpnffmimpkimeaa", sum := "ed565bcc2042647fe7d12a8ac85b555edfe112c8f1fe4554b5bbf772599e914b", func := "pillarbox/pillarboxlaw7.JsonBlanks", spec := "jsonBlanks", inPlace := ["internal/abi.NoEscape"], unfollowed := true, recurses := true, apart := false }
def JsonBlanksSaid : Prop := jsonBlanksRow.holds Try.pinned (OpenSpec.ofChange jsonBlanksSpec)

/-- ITS FALSE NEIGHBOUR: 'it returns false'. Refute it at one input. -/
def jsonBlanksWrong : ChangeSpec := { name := "jsonBlanks", fn := fun _ => fun
  | [d1, d2, d3, d4] => { results := [.lit (.bool false)], args := [d1, d2, d3, d4] }
  | _ => none }
def JsonBlanksWrongFalsely : Prop := jsonBlanksRow.holds Try.pinned (OpenSpec.ofChange jsonBlanksWrong)

/-- 'pillarboxlaw7.JsonBack': WHATEVER THE INPUT: true; the input reads as it did. -/
def jsonBackSpec : ChangeSpec := { name := "jsonBack", fn := fun _ => fun
  | [d] => { results := [.lit (.bool true)], args := [d] }
  | _ => none }
def jsonBackRow : OpenClaim := { program := "ytpnffmimpkimeaa", sum := "ed565bcc2042647fe7d12a8ac85b555edfe112c8f1fe4554b5bbf772599e914b", func := "pillarbox/pillarboxlaw7.JsonBack", spec := "jsonBack", inPlace := ["internal/abi.NoEscape"], unfollowed := true, recurses := true, apart := false }
def JsonBackSaid : Prop := jsonBackRow.holds Try.pinned (OpenSpec.ofChange jsonBackSpec)

/-- ITS FALSE NEIGHBOUR: 'it returns false'. Refute it at one input. -/
def jsonBackWrong : ChangeSpec := { name := "jsonBack", fn := fun _ => fun
  | [d] => { results := [.lit (.bool false)], args := [d] }
  | _ => none }
def JsonBackWrongFalsely : Prop := jsonBackRow.holds Try.pinned (OpenSpec.ofChange jsonBackWrong)

/-- 'pillarboxlaw7.JsonDeep': WHATEVER THE INPUT: true; the input reads as it did. -/
def jsonDeepSpec : ChangeSpec := { name := "jsonDeep", fn := fun _ => fun
  | [d1, d2] => { results := [.lit (.bool true)], args := [d1, d2] }
  | _ => none }
def jsonDeepRow : OpenClaim := { program := "ytpnffmimpkimeaa", sum := "ed565bcc2042647fe7d12a8ac85b555edfe112c8f1fe4554b5bbf772599e914b", func := "pillarbox/pillarboxlaw7.JsonDeep", spec := "jsonDeep", inPlace := ["internal/abi.NoEscape"], unfollowed := true, recurses := true, apart := false }
def JsonDeepSaid : Prop := jsonDeepRow.holds Try.pinned (OpenSpec.ofChange jsonDeepSpec)

/-- ITS FALSE NEIGHBOUR: 'it returns false'. Refute it at one input. -/
def jsonDeepWrong : ChangeSpec := { name := "jsonDeep", fn := fun _ => fun
  | [d1, d2] => { results := [.lit (.bool false)], args := [d1, d2] }
  | _ => none }
def JsonDeepWrongFalsely : Prop := jsonDeepRow.holds Try.pinned (OpenSpec.ofChange jsonDeepWrong)

/-- 'pillarboxlaw7.JsonWhole': WHATEVER THE INPUT: true; the input reads as it did. -/
def jsonWholeSpec : ChangeSpec := { name := "jsonWhole", fn := fun _ => fun
  | [d] => { results := [.lit (.bool true)], args := [d] }
  | _ => none }
def jsonWholeRow : OpenClaim := { program := "ytpnffmimpkimeaa", sum := "ed565bcc2042647fe7d12a8ac85b555edfe112c8f1fe4554b5bbf772599e914b", func := "pillarbox/pillarboxlaw7.JsonWhole", spec := "jsonWhole", inPlace := ["internal/abi.NoEscape"], unfollowed := true, recurses := true, apart := false }
def JsonWholeSaid : Prop := jsonWholeRow.holds Try.pinned (OpenSpec.ofChange jsonWholeSpec)

/-- ITS FALSE NEIGHBOUR: 'it returns false'. Refute it at one input. -/
def jsonWholeWrong : ChangeSpec := { name := "jsonWhole", fn := fun _ => fun
  | [d] => { results := [.lit (.bool false)], args := [d] }
  | _ => none }
def JsonWholeWrongFalsely : Prop := jsonWholeRow.holds Try.pinned (OpenSpec.ofChange jsonWholeWrong)

/-- 'pillarboxlaw7.JsonTwice': WHATEVER THE INPUT: true; the input reads as it did. -/
def jsonTwiceSpec : ChangeSpec := { name := "jsonTwice", fn := fun _ => fun
  | [d1, d2] => { results := [.lit (.bool true)], args := [d1, d2] }
  | _ => none }
def jsonTwiceRow : OpenClaim := { program := "ytpnffmimpkimeaa", sum := "ed565bcc2042647fe7d12a8ac85b555edfe112c8f1fe4554b5bbf772599e914b", func := "pillarbox/pillarboxlaw7.JsonTwice", spec := "jsonTwice", inPlace := ["internal/abi.NoEscape"], unfollowed := true, recurses := true, apart := false }
def JsonTwiceSaid : Prop := jsonTwiceRow.holds Try.pinned (OpenSpec.ofChange jsonTwiceSpec)

/-- ITS FALSE NEIGHBOUR: 'it returns false'. Refute it at one input. -/
def jsonTwiceWrong : ChangeSpec := { name := "jsonTwice", fn := fun _ => fun
  | [d1, d2] => { results := [.lit (.bool false)], args := [d1, d2] }
  | _ => none }
def JsonTwiceWrongFalsely : Prop := jsonTwiceRow.holds Try.pinned (OpenSpec.ofChange jsonTwiceWrong)

/-- 'pillarboxlaw7.JsonEscapes': WHATEVER THE INPUT: true; the input reads as it did. -/
def jsonEscapesSpec : ChangeSpec := { name := "jsonEscapes", fn := fun _ => fun
  | [d] => { results := [.lit (.bool true)], args := [d] }
  | _ => none }
def jsonEscapesRow : OpenClaim := { program := "ytpnffmimpkimeaa", sum := "ed565bcc2042647fe7d12a8ac85b555edfe112c8f1fe4554b5bbf772599e914b", func := "pillarbox/pillarboxlaw7.JsonEscapes", spec := "jsonEscapes", inPlace := ["internal/abi.NoEscape"], unfollowed := true, recurses := true, apart := false }
def JsonEscapesSaid : Prop := jsonEscapesRow.holds Try.pinned (OpenSpec.ofChange jsonEscapesSpec)

/-- ITS FALSE NEIGHBOUR: 'it returns false'. Refute it at one input. -/
def jsonEscapesWrong : ChangeSpec := { name := "jsonEscapes", fn := fun _ => fun
  | [d] => { results := [.lit (.bool false)], args := [d] }
  | _ => none }
def JsonEscapesWrongFalsely : Prop := jsonEscapesRow.holds Try.pinned (OpenSpec.ofChange jsonEscapesWrong)

/-- 'pillarboxlaw7.JsonLong': WHATEVER THE INPUT: true; the input reads as it did. -/
def jsonLongSpec : ChangeSpec := { name := "jsonLong", fn := fun _ => fun
  | [d] => { results := [.lit (.bool true)], args := [d] }
  | _ => none }
def jsonLongRow : OpenClaim := { program := "ytpnffmimpkimeaa", sum := "ed565bcc2042647fe7d12a8ac85b555edfe112c8f1fe4554b5bbf772599e914b", func := "pillarbox/pillarboxlaw7.JsonLong", spec := "jsonLong", inPlace := ["internal/abi.NoEscape"], unfollowed := true, recurses := true, apart := false }
def JsonLongSaid : Prop := jsonLongRow.holds Try.pinned (OpenSpec.ofChange jsonLongSpec)

/-- ITS FALSE NEIGHBOUR: 'it returns false'. Refute it at one input. -/
def jsonLongWrong : ChangeSpec := { name := "jsonLong", fn := fun _ => fun
  | [d] => { results := [.lit (.bool false)], args := [d] }
  | _ => none }
def JsonLongWrongFalsely : Prop := jsonLongRow.holds Try.pinned (OpenSpec.ofChange jsonLongWrong)

/-- 'pillarboxlaw7.JsonLists': WHATEVER THE INPUT: true; the input reads as it did. -/
def jsonListsSpec : ChangeSpec := { name := "jsonLists", fn := fun _ => fun
  | [d] => { results := [.lit (.bool true)], args := [d] }
  | _ => none }
def jsonListsRow : OpenClaim := { program := "ytpnffmimpkimeaa", sum := "ed565bcc2042647fe7d12a8ac85b555edfe112c8f1fe4554b5bbf772599e914b", func := "pillarbox/pillarboxlaw7.JsonLists", spec := "jsonLists", inPlace := ["internal/abi.NoEscape"], unfollowed := true, recurses := true, apart := false }
def JsonListsSaid : Prop := jsonListsRow.holds Try.pinned (OpenSpec.ofChange jsonListsSpec)

/-- ITS FALSE NEIGHBOUR: 'it returns false'. Refute it at one input. -/
def jsonListsWrong : ChangeSpec := { name := "jsonLists", fn := fun _ => fun
  | [d] => { results := [.lit (.bool false)], args := [d] }
  | _ => none }
def JsonListsWrongFalsely : Prop := jsonListsRow.holds Try.pinned (OpenSpec.ofChange jsonListsWrong)

/- THE SECOND FORM. 'bulk': how many values and letters a reading holds, each counted each time it is reached (what is shared counts as often as it is met; a slice's spare places count too). A statement '..UptoSaid' is the law's where the arguments, and the package variables that the reading takes, are together of bulk at most 1048576: NARROWER than '..Said'. Prove '..Said' where nothing that the law and all that it calls make is longer than what came in: it says more and counts as full. Else prove '..UptoSaid'. A law counts once. -/
mutual
def uptoBulk {H : Type} : DataW H → Nat
  | .lit (.string bytes) => bytes.length + 1
  | .lit _ => 1
  | .nil => 1
  | .ptr d => uptoBulk d + 1
  | .slice elems spare => uptoBulkAll elems + uptoBulkAll spare + 1
  | .agg parts => uptoBulkAll parts + 1
  | .iface _ d => uptoBulk d + 1
  | .map entries => uptoBulkEntries entries + 1
  | .held _ => 1
def uptoBulkAll {H : Type} : List (DataW H) → Nat
  | [] => 0
  | d :: r => uptoBulk d + uptoBulkAll r
def uptoBulkEntries {H : Type} : List (Lit × DataW H) → Nat
  | [] => 0
  | x :: r => uptoBulkEntry x + uptoBulkEntries r
def uptoBulkEntry {H : Type} : Lit × DataW H → Nat
  | (.string bytes, d) => bytes.length + uptoBulk d + 1
  | (_, d) => uptoBulk d + 1
 end
def uptoSmall : (H : Type) → List (DataW H) → Bool := fun _ ds => decide (uptoBulkAll ds ≤ 1048576)
def OpenSpec.upto (s : _root_.Go.ChangeSpec) : _root_.Go.OpenSpec := { _root_.Go.OpenSpec.ofChange s with cond := some uptoSmall }

/-- 'pillarboxlaw7.JsonReads', WHERE WHAT IT READS IS OF BULK AT MOST 1048576: true; the input reads as it did. -/
def jsonReadsUptoRow : OpenClaim := { program := "ytpnffmimpkimeaa", sum := "ed565bcc2042647fe7d12a8ac85b555edfe112c8f1fe4554b5bbf772599e914b", func := "pillarbox/pillarboxlaw7.JsonReads", spec := "jsonReads", inPlace := ["internal/abi.NoEscape"], unfollowed := true, recurses := true, apart := false, narrowed := true }
def JsonReadsUptoSaid : Prop := jsonReadsUptoRow.holds Try.pinned (OpenSpec.upto jsonReadsSpec)

/-- 'pillarboxlaw7.JsonBlanks', WHERE WHAT IT READS IS OF BULK AT MOST 1048576: true; the input reads as it did. -/
def jsonBlanksUptoRow : OpenClaim := { program := "ytpnffmimpkimeaa", sum := "ed565bcc2042647fe7d12a8ac85b555edfe112c8f1fe4554b5bbf772599e914b", func := "pillarbox/pillarboxlaw7.JsonBlanks", spec := "jsonBlanks", inPlace := ["internal/abi.NoEscape"], unfollowed := true, recurses := true, apart := false, narrowed := true }
def JsonBlanksUptoSaid : Prop := jsonBlanksUptoRow.holds Try.pinned (OpenSpec.upto jsonBlanksSpec)

/-- 'pillarboxlaw7.JsonBack', WHERE WHAT IT READS IS OF BULK AT MOST 1048576: true; the input reads as it did. -/
def jsonBackUptoRow : OpenClaim := { program := "ytpnffmimpkimeaa", sum := "ed565bcc2042647fe7d12a8ac85b555edfe112c8f1fe4554b5bbf772599e914b", func := "pillarbox/pillarboxlaw7.JsonBack", spec := "jsonBack", inPlace := ["internal/abi.NoEscape"], unfollowed := true, recurses := true, apart := false, narrowed := true }
def JsonBackUptoSaid : Prop := jsonBackUptoRow.holds Try.pinned (OpenSpec.upto jsonBackSpec)

/-- 'pillarboxlaw7.JsonDeep', WHERE WHAT IT READS IS OF BULK AT MOST 1048576: true; the input reads as it did. -/
def jsonDeepUptoRow : OpenClaim := { program := "ytpnffmimpkimeaa", sum := "ed565bcc2042647fe7d12a8ac85b555edfe112c8f1fe4554b5bbf772599e914b", func := "pillarbox/pillarboxlaw7.JsonDeep", spec := "jsonDeep", inPlace := ["internal/abi.NoEscape"], unfollowed := true, recurses := true, apart := false, narrowed := true }
def JsonDeepUptoSaid : Prop := jsonDeepUptoRow.holds Try.pinned (OpenSpec.upto jsonDeepSpec)

/-- 'pillarboxlaw7.JsonWhole', WHERE WHAT IT READS IS OF BULK AT MOST 1048576: true; the input reads as it did. -/
def jsonWholeUptoRow : OpenClaim := { program := "ytpnffmimpkimeaa", sum := "ed565bcc2042647fe7d12a8ac85b555edfe112c8f1fe4554b5bbf772599e914b", func := "pillarbox/pillarboxlaw7.JsonWhole", spec := "jsonWhole", inPlace := ["internal/abi.NoEscape"], unfollowed := true, recurses := true, apart := false, narrowed := true }
def JsonWholeUptoSaid : Prop := jsonWholeUptoRow.holds Try.pinned (OpenSpec.upto jsonWholeSpec)

/-- 'pillarboxlaw7.JsonTwice', WHERE WHAT IT READS IS OF BULK AT MOST 1048576: true; the input reads as it did. -/
def jsonTwiceUptoRow : OpenClaim := { program := "ytpnffmimpkimeaa", sum := "ed565bcc2042647fe7d12a8ac85b555edfe112c8f1fe4554b5bbf772599e914b", func := "pillarbox/pillarboxlaw7.JsonTwice", spec := "jsonTwice", inPlace := ["internal/abi.NoEscape"], unfollowed := true, recurses := true, apart := false, narrowed := true }
def JsonTwiceUptoSaid : Prop := jsonTwiceUptoRow.holds Try.pinned (OpenSpec.upto jsonTwiceSpec)

/-- 'pillarboxlaw7.JsonEscapes', WHERE WHAT IT READS IS OF BULK AT MOST 1048576: true; the input reads as it did. -/
def jsonEscapesUptoRow : OpenClaim := { program := "ytpnffmimpkimeaa", sum := "ed565bcc2042647fe7d12a8ac85b555edfe112c8f1fe4554b5bbf772599e914b", func := "pillarbox/pillarboxlaw7.JsonEscapes", spec := "jsonEscapes", inPlace := ["internal/abi.NoEscape"], unfollowed := true, recurses := true, apart := false, narrowed := true }
def JsonEscapesUptoSaid : Prop := jsonEscapesUptoRow.holds Try.pinned (OpenSpec.upto jsonEscapesSpec)

/-- 'pillarboxlaw7.JsonLong', WHERE WHAT IT READS IS OF BULK AT MOST 1048576: true; the input reads as it did. -/
def jsonLongUptoRow : OpenClaim := { program := "ytpnffmimpkimeaa", sum := "ed565bcc2042647fe7d12a8ac85b555edfe112c8f1fe4554b5bbf772599e914b", func := "pillarbox/pillarboxlaw7.JsonLong", spec := "jsonLong", inPlace := ["internal/abi.NoEscape"], unfollowed := true, recurses := true, apart := false, narrowed := true }
def JsonLongUptoSaid : Prop := jsonLongUptoRow.holds Try.pinned (OpenSpec.upto jsonLongSpec)

/-- 'pillarboxlaw7.JsonLists', WHERE WHAT IT READS IS OF BULK AT MOST 1048576: true; the input reads as it did. -/
def jsonListsUptoRow : OpenClaim := { program := "ytpnffmimpkimeaa", sum := "ed565bcc2042647fe7d12a8ac85b555edfe112c8f1fe4554b5bbf772599e914b", func := "pillarbox/pillarboxlaw7.JsonLists", spec := "jsonLists", inPlace := ["internal/abi.NoEscape"], unfollowed := true, recurses := true, apart := false, narrowed := true }
def JsonListsUptoSaid : Prop := jsonListsUptoRow.holds Try.pinned (OpenSpec.upto jsonListsSpec)

end Rows
end Go.Proofs.Ytpnffmimpkimeaa
