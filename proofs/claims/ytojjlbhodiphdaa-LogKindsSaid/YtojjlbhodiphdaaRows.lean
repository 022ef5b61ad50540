/-
  No cell of these rows narrows 'for every input' (looked for: loops, veiled, ifaces, maps, wideKeys, modest, calm, conditions, laid).
  DERIVED. THE GIVEN ROWS OF THIS SEAT. 5 by the template 'for every input the law returns true; each argument reads behind the call as it read before'; 0 by the template 'total and deterministic' (their statements: YtojjlbhodiphdaaTotals.lean).
  GIVEN WITH THE SEED: the statements are not yours to turn. If you find one false, say at which input.
  Laid BY PROGRAM, IN A SANDBOX (cutbox-rows.mjs): the forced cells as the released guide's own fill.sh prints them over the translation 9b440c70c0f1a947… (all of the seat's roots in one cut). By AI agents, Wed Nov 11 2026. No macro, syntax, notation, axiom, sorry.
-/
import Derived.Test.YtojjlbhodiphdaaChecked
import GoSem.Claim
import GoSem.ClaimJoined
import GoSem.ClaimMapViews
import Derived.JoinedTies
import Derived.KernelRfl
namespace Go.Proofs.Ytojjlbhodiphdaa
/- THE CELL 'sum', in the pinned program and in every row, IS THE sha256 OF THE DUMP (.gsa) THAT YtojjlbhodiphdaaProg.lean LOADS. Nothing in Lean hashes anything: it is a label: what it is worth is what the hold of that sum in a sandbox is worth. -/
noncomputable def Try.pinned : Pinned := { name := "ytojjlbhodiphdaa", sum := "9b440c70c0f1a9475d68e25ebf725a4fb655de106b8b308af390dd404c903bdb", checked := Try.checked }
namespace Rows
def none {H : Type} : Left H := { results := [], args := [] }

/-- 'pillarboxlaw17.LogRuns': WHATEVER THE INPUT: true; the input reads as it did. -/
def logRunsSpec : ChangeSpec := { name := "logRuns", fn := fun _ => fun
  | [d1, d2, d3] => { results := [.lit (.bool true)], args := [d1, d2, d3] }
  | _ => none }
def logRunsRow : OpenClaim := { program := "ytojjlbhodiphdaa", sum := "9b440c70c0f1a9475d68e25ebf725a4fb655de106b8b308af390dd404c903bdb", func := "pillarbox/pillarboxlaw17.LogRuns", spec := "logRuns", unfollowed := true, recurses := true, apart := false }
def LogRunsSaid : Prop := logRunsRow.holds Try.pinned (OpenSpec.ofChange logRunsSpec)

/-- ITS FALSE NEIGHBOUR: 'it returns false'. Refute it at one input. -/
def logRunsWrong : ChangeSpec := { name := "logRuns", fn := fun _ => fun
  | [d1, d2, d3] => { results := [.lit (.bool false)], args := [d1, d2, d3] }
  | _ => none }
def LogRunsWrongFalsely : Prop := logRunsRow.holds Try.pinned (OpenSpec.ofChange logRunsWrong)

/-- 'pillarboxlaw17.LogReplays': WHATEVER THE INPUT: true; the input reads as it did. -/
def logReplaysSpec : ChangeSpec := { name := "logReplays", fn := fun _ => fun
  | [d1, d2, d3] => { results := [.lit (.bool true)], args := [d1, d2, d3] }
  | _ => none }
def logReplaysRow : OpenClaim := { program := "ytojjlbhodiphdaa", sum := "9b440c70c0f1a9475d68e25ebf725a4fb655de106b8b308af390dd404c903bdb", func := "pillarbox/pillarboxlaw17.LogReplays", spec := "logReplays", unfollowed := true, recurses := true, apart := false }
def LogReplaysSaid : Prop := logReplaysRow.holds Try.pinned (OpenSpec.ofChange logReplaysSpec)

/-- ITS FALSE NEIGHBOUR: 'it returns false'. Refute it at one input. -/
def logReplaysWrong : ChangeSpec := { name := "logReplays", fn := fun _ => fun
  | [d1, d2, d3] => { results := [.lit (.bool false)], args := [d1, d2, d3] }
  | _ => none }
def LogReplaysWrongFalsely : Prop := logReplaysRow.holds Try.pinned (OpenSpec.ofChange logReplaysWrong)

/-- 'pillarboxlaw17.LogFloors': WHATEVER THE INPUT: true; the input reads as it did. -/
def logFloorsSpec : ChangeSpec := { name := "logFloors", fn := fun _ => fun
  | [d1, d2] => { results := [.lit (.bool true)], args := [d1, d2] }
  | _ => none }
def logFloorsRow : OpenClaim := { program := "ytojjlbhodiphdaa", sum := "9b440c70c0f1a9475d68e25ebf725a4fb655de106b8b308af390dd404c903bdb", func := "pillarbox/pillarboxlaw17.LogFloors", spec := "logFloors", unfollowed := true, recurses := true, apart := false }
def LogFloorsSaid : Prop := logFloorsRow.holds Try.pinned (OpenSpec.ofChange logFloorsSpec)

/-- ITS FALSE NEIGHBOUR: 'it returns false'. Refute it at one input. -/
def logFloorsWrong : ChangeSpec := { name := "logFloors", fn := fun _ => fun
  | [d1, d2] => { results := [.lit (.bool false)], args := [d1, d2] }
  | _ => none }
def LogFloorsWrongFalsely : Prop := logFloorsRow.holds Try.pinned (OpenSpec.ofChange logFloorsWrong)

/-- 'pillarboxlaw17.LogKinds': WHATEVER THE INPUT: true; the input reads as it did. -/
def logKindsSpec : ChangeSpec := { name := "logKinds", fn := fun _ => fun
  | [d1, d2] => { results := [.lit (.bool true)], args := [d1, d2] }
  | _ => none }
def logKindsRow : OpenClaim := { program := "ytojjlbhodiphdaa", sum := "9b440c70c0f1a9475d68e25ebf725a4fb655de106b8b308af390dd404c903bdb", func := "pillarbox/pillarboxlaw17.LogKinds", spec := "logKinds", unfollowed := true, recurses := true, apart := false }
def LogKindsSaid : Prop := logKindsRow.holds Try.pinned (OpenSpec.ofChange logKindsSpec)

/-- ITS FALSE NEIGHBOUR: 'it returns false'. Refute it at one input. -/
def logKindsWrong : ChangeSpec := { name := "logKinds", fn := fun _ => fun
  | [d1, d2] => { results := [.lit (.bool false)], args := [d1, d2] }
  | _ => none }
def LogKindsWrongFalsely : Prop := logKindsRow.holds Try.pinned (OpenSpec.ofChange logKindsWrong)

/-- 'pillarboxlaw17.LogOrders': WHATEVER THE INPUT: true; the input reads as it did. -/
def logOrdersSpec : ChangeSpec := { name := "logOrders", fn := fun _ => fun
  | [d1, d2, d3] => { results := [.lit (.bool true)], args := [d1, d2, d3] }
  | _ => none }
def logOrdersRow : OpenClaim := { program := "ytojjlbhodiphdaa", sum := "9b440c70c0f1a9475d68e25ebf725a4fb655de106b8b308af390dd404c903bdb", func := "pillarbox/pillarboxlaw17.LogOrders", spec := "logOrders", unfollowed := true, recurses := true, apart := false }
def LogOrdersSaid : Prop := logOrdersRow.holds Try.pinned (OpenSpec.ofChange logOrdersSpec)

/-- ITS FALSE NEIGHBOUR: 'it returns false'. Refute it at one input. -/
def logOrdersWrong : ChangeSpec := { name := "logOrders", fn := fun _ => fun
  | [d1, d2, d3] => { results := [.lit (.bool false)], args := [d1, d2, d3] }
  | _ => none }
def LogOrdersWrongFalsely : Prop := logOrdersRow.holds Try.pinned (OpenSpec.ofChange logOrdersWrong)

/- THE SECOND FORM. 'bulk': how many values and letters a reading holds, each counted each time it is reached (what is shared counts as often as it is met; a slice's spare places count too). A statement '..UptoSaid' is the law's where the arguments, and the package variables that the reading takes, are together of bulk at most 1048576: NARROWER than '..Said'. Prove '..Said' where nothing that the law and all that it calls make is longer than what came in: it says more and counts as full. Else prove '..UptoSaid'. A law counts once. -/
mutual
def uptoBulk {H : Type} : DataW H → Nat
  | .lit (.string bytes) => bytes.length + 1
  | .lit _ => 1
  | .nil => 1
  | .ptr d => uptoBulk d + 1
  | .slice elems spare => uptoBulkAll elems + uptoBulkAll spare + 1
  | .agg parts => uptoBulkAll parts + 1
  | .iface _ d => uptoBulk d + 1
  | .map entries => uptoBulkEntries entries + 1
  | .held _ => 1
def uptoBulkAll {H : Type} : List (DataW H) → Nat
  | [] => 0
  | d :: r => uptoBulk d + uptoBulkAll r
def uptoBulkEntries {H : Type} : List (Lit × DataW H) → Nat
  | [] => 0
  | x :: r => uptoBulkEntry x + uptoBulkEntries r
def uptoBulkEntry {H : Type} : Lit × DataW H → Nat
  | (.string bytes, d) => bytes.length + uptoBulk d + 1
  | (_, d) => uptoBulk d + 1
 end
def uptoSmall : (H : Type) → List (DataW H) → Bool := fun _ ds => decide (uptoBulkAll ds ≤ 1048576)
def OpenSpec.upto (s : _root_.Go.ChangeSpec) : _root_.Go.OpenSpec := { _root_.Go.OpenSpec.ofChange s with cond := some uptoSmall }

/-- 'pillarboxlaw17.LogRuns', WHERE WHAT IT READS IS OF BULK AT MOST 1048576: true; the input reads as it did. -/
def logRunsUptoRow : OpenClaim := { program := "ytojjlbhodiphdaa", sum := "9b440c70c0f1a9475d68e25ebf725a4fb655de106b8b308af390dd404c903bdb", func := "pillarbox/pillarboxlaw17.LogRuns", spec := "logRuns", unfollowed := true, recurses := true, apart := false, narrowed := true }
def LogRunsUptoSaid : Prop := logRunsUptoRow.holds Try.pinned (OpenSpec.upto logRunsSpec)

/-- 'pillarboxlaw17.LogReplays', WHERE WHAT IT READS IS OF BULK AT MOST 1048576: true; the input reads as it did. -/
def logReplaysUptoRow : OpenClaim := { program := "ytojjlbhodiphdaa", sum := "9b440c70c0f1a9475d68e25ebf725a4fb655de106b8b308af390dd404c903bdb", func := "pillarbox/pillarboxlaw17.LogReplays", spec := "logReplays", unfollowed := true, recurses := true, apart := false, narrowed := true }
def LogReplaysUptoSaid : Prop := logReplaysUptoRow.holds Try.pinned (OpenSpec.upto logReplaysSpec)

/-- 'pillarboxlaw17.LogFloors', WHERE WHAT IT READS IS OF BULK AT MOST 1048576: true; the input reads as it did. -/
def logFloorsUptoRow : OpenClaim := { program := "ytojjlbhodiphdaa", sum := "9b440c70c0f1a9475d68e25ebf725a4fb655de106b8b308af390dd404c903bdb", func := "pillarbox/pillarboxlaw17.LogFloors", spec := "logFloors", unfollowed := true, recurses := true, apart := false, narrowed := true }
def LogFloorsUptoSaid : Prop := logFloorsUptoRow.holds Try.pinned (OpenSpec.upto logFloorsSpec)

/-- 'pillarboxlaw17.LogKinds', WHERE WHAT IT READS IS OF BULK AT MOST 1048576: true; the input reads as it did. -/
def logKindsUptoRow : OpenClaim := { program := "ytojjlbhodiphdaa", sum := "9b440c70c0f1a9475d68e25ebf725a4fb655de106b8b308af390dd404c903bdb", func := "pillarbox/pillarboxlaw17.LogKinds", spec := "logKinds", unfollowed := true, recurses := true, apart := false, narrowed := true }
def LogKindsUptoSaid : Prop := logKindsUptoRow.holds Try.pinned (OpenSpec.upto logKindsSpec)

/-- 'pillarboxlaw17.LogOrders', WHERE WHAT IT READS IS OF BULK AT MOST 1048576: true; the input reads as it did. -/
def logOrdersUptoRow : OpenClaim := { program := "ytojjlbhodiphdaa", sum := "9b440c70c0f1a9475d68e25ebf725a4fb655de106b8b308af390dd404c903bdb", func := "pillarbox/pillarboxlaw17.LogOrders", spec := "logOrders", unfollowed := true, recurses := true, apart := false, narrowed := true }
def LogOrdersUptoSaid : Prop := logOrdersUptoRow.holds Try.pinned (OpenSpec.upto logOrdersSpec)

end Rows
end Go.Proofs.Ytojjlbhodiphdaa
