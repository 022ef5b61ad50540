/-
  No cell of these rows narrows 'for every input' (looked for: loops, veiled, ifaces, maps, wideKeys, modest, calm, conditions, laid).
  DERIVED. THE GIVEN ROWS OF THIS SEAT. 5 by the template 'for every input the law returns true; each argument reads behind the call as it read before'; 0 by the template 'total and deterministic' (their statements: YtggnkpbadfabcaaTotals.lean).
  GIVEN WITH THE SEED: the statements are not yours to turn. If you find one false, say at which input.
  Laid BY PROGRAM, IN A SANDBOX (cutbox-rows.mjs): the forced cells as the released guide's own fill.sh prints them over the translation 8face5010c15689a… (all of the seat's roots in one cut). By AI agents, Wed Nov 11 2026. No macro, syntax, notation, axiom, sorry.
-/
import Derived.Test.YtggnkpbadfabcaaChecked
import GoSem.Claim
import GoSem.ClaimJoined
import GoSem.ClaimMapViews
import Derived.JoinedTies
import Derived.KernelRfl
namespace Go.Proofs.Ytggnkpbadfabcaa
/- THE CELL 'sum', in the pinned program and in every row, IS THE sha256 OF THE DUMP (.gsa) THAT YtggnkpbadfabcaaProg.lean LOADS. Nothing in Lean hashes anything: it is a label: what it is worth is what the hold of that sum in a sandbox is worth. -/
noncomputable def Try.pinned : Pinned := { name := "ytggnkpbadfabcaa", sum := "8face5010c15689adc09a85b1b3f6aedeb8d0ff09faffa649be971ce4e7c9b7f", checked := Try.checked }
namespace Rows
def none {H : Type} : Left H := { results := [], args := [] }

/-- 'pillarboxlaw15.FlagAll': WHATEVER THE INPUT: true; the input reads as it did. -/
def flagAllSpec : ChangeSpec := { name := "flagAll", fn := fun _ => fun
  | [d1, d2] => { results := [.lit (.bool true)], args := [d1, d2] }
  | _ => none }
def flagAllRow : OpenClaim := { program := "ytggnkpbadfabcaa", sum := "8face5010c15689adc09a85b1b3f6aedeb8d0ff09faffa649be971ce4e7c9b7f", func := "pillarbox/pillarboxlaw15.FlagAll", spec := "flagAll", inPlace := ["internal/abi.NoEscape", "internal/bytealg.MakeNoZero"], unfollowed := true, recurses := true, apart := false }
def FlagAllSaid : Prop := flagAllRow.holds Try.pinned (OpenSpec.ofChange flagAllSpec)

/-- ITS FALSE NEIGHBOUR: 'it returns false'. Refute it at one input. -/
def flagAllWrong : ChangeSpec := { name := "flagAll", fn := fun _ => fun
  | [d1, d2] => { results := [.lit (.bool false)], args := [d1, d2] }
  | _ => none }
def FlagAllWrongFalsely : Prop := flagAllRow.holds Try.pinned (OpenSpec.ofChange flagAllWrong)

/-- 'pillarboxlaw15.FlagBack': WHATEVER THE INPUT: true; the input reads as it did. -/
def flagBackSpec : ChangeSpec := { name := "flagBack", fn := fun _ => fun
  | [d1, d2] => { results := [.lit (.bool true)], args := [d1, d2] }
  | _ => none }
def flagBackRow : OpenClaim := { program := "ytggnkpbadfabcaa", sum := "8face5010c15689adc09a85b1b3f6aedeb8d0ff09faffa649be971ce4e7c9b7f", func := "pillarbox/pillarboxlaw15.FlagBack", spec := "flagBack", inPlace := ["internal/abi.NoEscape", "internal/bytealg.MakeNoZero"], apart := false }
def FlagBackSaid : Prop := flagBackRow.holds Try.pinned (OpenSpec.ofChange flagBackSpec)

/-- ITS FALSE NEIGHBOUR: 'it returns false'. Refute it at one input. -/
def flagBackWrong : ChangeSpec := { name := "flagBack", fn := fun _ => fun
  | [d1, d2] => { results := [.lit (.bool false)], args := [d1, d2] }
  | _ => none }
def FlagBackWrongFalsely : Prop := flagBackRow.holds Try.pinned (OpenSpec.ofChange flagBackWrong)

/-- 'pillarboxlaw15.FlagSorts': WHATEVER THE INPUT: true; the input reads as it did. -/
def flagSortsSpec : ChangeSpec := { name := "flagSorts", fn := fun _ => fun
  | [d] => { results := [.lit (.bool true)], args := [d] }
  | _ => none }
def flagSortsRow : OpenClaim := { program := "ytggnkpbadfabcaa", sum := "8face5010c15689adc09a85b1b3f6aedeb8d0ff09faffa649be971ce4e7c9b7f", func := "pillarbox/pillarboxlaw15.FlagSorts", spec := "flagSorts", inPlace := ["internal/abi.NoEscape", "internal/bytealg.MakeNoZero"], unfollowed := true, recurses := true, apart := false }
def FlagSortsSaid : Prop := flagSortsRow.holds Try.pinned (OpenSpec.ofChange flagSortsSpec)

/-- ITS FALSE NEIGHBOUR: 'it returns false'. Refute it at one input. -/
def flagSortsWrong : ChangeSpec := { name := "flagSorts", fn := fun _ => fun
  | [d] => { results := [.lit (.bool false)], args := [d] }
  | _ => none }
def FlagSortsWrongFalsely : Prop := flagSortsRow.holds Try.pinned (OpenSpec.ofChange flagSortsWrong)

/-- 'pillarboxlaw15.FlagSizes': WHATEVER THE INPUT: true; the input reads as it did. -/
def flagSizesSpec : ChangeSpec := { name := "flagSizes", fn := fun _ => fun
  | [d1, d2] => { results := [.lit (.bool true)], args := [d1, d2] }
  | _ => none }
def flagSizesRow : OpenClaim := { program := "ytggnkpbadfabcaa", sum := "8face5010c15689adc09a85b1b3f6aedeb8d0ff09faffa649be971ce4e7c9b7f", func := "pillarbox/pillarboxlaw15.FlagSizes", spec := "flagSizes", inPlace := ["internal/abi.NoEscape", "internal/bytealg.MakeNoZero"], apart := false }
def FlagSizesSaid : Prop := flagSizesRow.holds Try.pinned (OpenSpec.ofChange flagSizesSpec)

/-- ITS FALSE NEIGHBOUR: 'it returns false'. Refute it at one input. -/
def flagSizesWrong : ChangeSpec := { name := "flagSizes", fn := fun _ => fun
  | [d1, d2] => { results := [.lit (.bool false)], args := [d1, d2] }
  | _ => none }
def FlagSizesWrongFalsely : Prop := flagSizesRow.holds Try.pinned (OpenSpec.ofChange flagSizesWrong)

/-- 'pillarboxlaw15.FlagMany': WHATEVER THE INPUT: true; the input reads as it did. -/
def flagManySpec : ChangeSpec := { name := "flagMany", fn := fun _ => fun
  | [d1, d2] => { results := [.lit (.bool true)], args := [d1, d2] }
  | _ => none }
def flagManyRow : OpenClaim := { program := "ytggnkpbadfabcaa", sum := "8face5010c15689adc09a85b1b3f6aedeb8d0ff09faffa649be971ce4e7c9b7f", func := "pillarbox/pillarboxlaw15.FlagMany", spec := "flagMany", inPlace := ["internal/abi.NoEscape", "internal/bytealg.MakeNoZero"], unfollowed := true, recurses := true, apart := false }
def FlagManySaid : Prop := flagManyRow.holds Try.pinned (OpenSpec.ofChange flagManySpec)

/-- ITS FALSE NEIGHBOUR: 'it returns false'. Refute it at one input. -/
def flagManyWrong : ChangeSpec := { name := "flagMany", fn := fun _ => fun
  | [d1, d2] => { results := [.lit (.bool false)], args := [d1, d2] }
  | _ => none }
def FlagManyWrongFalsely : Prop := flagManyRow.holds Try.pinned (OpenSpec.ofChange flagManyWrong)

/- THE SECOND FORM. 'bulk': how many values and letters a reading holds, each counted each time it is reached (what is shared counts as often as it is met; a slice's spare places count too). A statement '..UptoSaid' is the law's where the arguments, and the package variables that the reading takes, are together of bulk at most 1048576: NARROWER than '..Said'. Prove '..Said' where nothing that the law and all that it calls make is longer than what came in: it says more and counts as full. Else prove '..UptoSaid'. A law counts once. -/
mutual
def uptoBulk {H : Type} : DataW H → Nat
  | .lit (.string bytes) => bytes.length + 1
  | .lit _ => 1
  | .nil => 1
  | .ptr d => uptoBulk d + 1
  | .slice elems spare => uptoBulkAll elems + uptoBulkAll spare + 1
  | .agg parts => uptoBulkAll parts + 1
  | .iface _ d => uptoBulk d + 1
  | .map entries => uptoBulkEntries entries + 1
  | .held _ => 1
def uptoBulkAll {H : Type} : List (DataW H) → Nat
  | [] => 0
  | d :: r => uptoBulk d + uptoBulkAll r
def uptoBulkEntries {H : Type} : List (Lit × DataW H) → Nat
  | [] => 0
  | x :: r => uptoBulkEntry x + uptoBulkEntries r
def uptoBulkEntry {H : Type} : Lit × DataW H → Nat
  | (.string bytes, d) => bytes.length + uptoBulk d + 1
  | (_, d) => uptoBulk d + 1
 end
def uptoSmall : (H : Type) → List (DataW H) → Bool := fun _ ds => decide (uptoBulkAll ds ≤ 1048576)
def OpenSpec.upto (s : _root_.Go.ChangeSpec) : _root_.Go.OpenSpec := { _root_.Go.OpenSpec.ofChange s with cond := some uptoSmall }

/-- 'pillarboxlaw15.FlagAll', WHERE WHAT IT READS IS OF BULK AT MOST 1048576: true; the input reads as it did. -/
def flagAllUptoRow : OpenClaim := { program := "ytggnkpbadfabcaa", sum := "8face5010c15689adc09a85b1b3f6aedeb8d0ff09faffa649be971ce4e7c9b7f", func := "pillarbox/pillarboxlaw15.FlagAll", spec := "flagAll", inPlace := ["internal/abi.NoEscape", "internal/bytealg.MakeNoZero"], unfollowed := true, recurses := true, apart := false, narrowed := true }
def FlagAllUptoSaid : Prop := flagAllUptoRow.holds Try.pinned (OpenSpec.upto flagAllSpec)

/-- 'pillarboxlaw15.FlagBack', WHERE WHAT IT READS IS OF BULK AT MOST 1048576: true; the input reads as it did. -/
def flagBackUptoRow : OpenClaim := { program := "ytggnkpbadfabcaa", sum := "8face5010c15689adc09a85b1b3f6aedeb8d0ff09faffa649be971ce4e7c9b7f", func := "pillarbox/pillarboxlaw15.FlagBack", spec := "flagBack", inPlace := ["internal/abi.NoEscape", "internal/bytealg.MakeNoZero"], apart := false, narrowed := true }
def FlagBackUptoSaid : Prop := flagBackUptoRow.holds Try.pinned (OpenSpec.upto flagBackSpec)

/-- 'pillarboxlaw15.FlagSorts', WHERE WHAT IT READS IS OF BULK AT MOST 1048576: true; the input reads as it did. -/
def flagSortsUptoRow : OpenClaim := { program := "ytggnkpbadfabcaa", sum := "8face5010c15689adc09a85b1b3f6aedeb8d0ff09faffa649be971ce4e7c9b7f", func := "pillarbox/pillarboxlaw15.FlagSorts", spec := "flagSorts", inPlace := ["internal/abi.NoEscape", "internal/bytealg.MakeNoZero"], unfollowed := true, recurses := true, apart := false, narrowed := true }
def FlagSortsUptoSaid : Prop := flagSortsUptoRow.holds Try.pinned (OpenSpec.upto flagSortsSpec)

/-- 'pillarboxlaw15.FlagSizes', WHERE WHAT IT READS IS OF BULK AT MOST 1048576: true; the input reads as it did. -/
def flagSizesUptoRow : OpenClaim := { program := "ytggnkpbadfabcaa", sum := "8face5010c15689adc09a85b1b3f6aedeb8d0ff09faffa649be971ce4e7c9b7f", func := "pillarbox/pillarboxlaw15.FlagSizes", spec := "flagSizes", inPlace := ["internal/abi.NoEscape", "internal/bytealg.MakeNoZero"], apart := false, narrowed := true }
def FlagSizesUptoSaid : Prop := flagSizesUptoRow.holds Try.pinned (OpenSpec.upto flagSizesSpec)

/-- 'pillarboxlaw15.FlagMany', WHERE WHAT IT READS IS OF BULK AT MOST 1048576: true; the input reads as it did. -/
def flagManyUptoRow : OpenClaim := { program := "ytggnkpbadfabcaa", sum := "8face5010c15689adc09a85b1b3f6aedeb8d0ff09faffa649be971ce4e7c9b7f", func := "pillarbox/pillarboxlaw15.FlagMany", spec := "flagMany", inPlace := ["internal/abi.NoEscape", "internal/bytealg.MakeNoZero"], unfollowed := true, recurses := true, apart := false, narrowed := true }
def FlagManyUptoSaid : Prop := flagManyUptoRow.holds Try.pinned (OpenSpec.upto flagManySpec)

end Rows
end Go.Proofs.Ytggnkpbadfabcaa
