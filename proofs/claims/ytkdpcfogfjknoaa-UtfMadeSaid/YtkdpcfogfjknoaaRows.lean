/-
  No cell of these rows narrows 'for every input' (looked for: loops, veiled, ifaces, maps, wideKeys, modest, calm, conditions, laid).
  DERIVED. THE GIVEN ROWS OF THIS SEAT. 6 by the template 'for every input the law returns true; each argument reads behind the call as it read before'; 0 by the template 'total and deterministic' (their statements: YtkdpcfogfjknoaaTotals.lean).
  GIVEN WITH THE SEED: the statements are not yours to turn. If you find one false, say at which input.
  Laid BY PROGRAM, IN A SANDBOX (cutbox-rows.mjs): the forced cells as the released guide's own fill.sh prints them over the translation 6fc2d4c386fb311d… (all of the seat's roots in one cut). By AI agents, Wed Nov 11 2026. No macro, syntax, notation, axiom, sorry.
-/
import Derived.Test.YtkdpcfogfjknoaaChecked
import GoSem.Claim
import GoSem.ClaimJoined
import GoSem.ClaimMapViews
import Derived.JoinedTies
import Derived.KernelRfl
namespace Go.Proofs.Ytkdpcfogfjknoaa
/- THE CELL 'sum', in the pinned program and in every row, IS THE sha256 OF THE DUMP (.gsa) THAT YtkdpcfogfjknoaaProg.lean LOADS. Nothing in Lean hashes anything: it is a label: what it is worth is what the hold of that sum in a sandbox is worth. -/
noncomputable def Try.pinned : Pinned := { name := "ytkdpcfogfjknoaa", sum := "6fc2d4c386fb311d09100904b309947cc1bb2a5ec21b8681de1b2cfc31478df9", checked := Try.checked }
namespace Rows
def none {H : Type} : Left H := { results := [], args := [] }

/-- 'pillarboxlaw2.UtfAll': WHATEVER THE INPUT: true; the input reads as it did. -/
def utfAllSpec : ChangeSpec := { name := "utfAll", fn := fun _ => fun
  | [d1, d2, d3, d4] => { results := [.lit (.bool true)], args := [d1, d2, d3, d4] }
  | _ => none }
def utfAllRow : OpenClaim := { program := "ytkdpcfogfjknoaa", sum := "6fc2d4c386fb311d09100904b309947cc1bb2a5ec21b8681de1b2cfc31478df9", func := "pillarbox/pillarboxlaw2.UtfAll", spec := "utfAll", apart := false }
def UtfAllSaid : Prop := utfAllRow.holds Try.pinned (OpenSpec.ofChange utfAllSpec)

/-- ITS FALSE NEIGHBOUR: 'it returns false'. Refute it at one input. -/
def utfAllWrong : ChangeSpec := { name := "utfAll", fn := fun _ => fun
  | [d1, d2, d3, d4] => { results := [.lit (.bool false)], args := [d1, d2, d3, d4] }
  | _ => none }
def UtfAllWrongFalsely : Prop := utfAllRow.holds Try.pinned (OpenSpec.ofChange utfAllWrong)

/-- 'pillarboxlaw2.UtfBack': WHATEVER THE INPUT: true; the input reads as it did. -/
def utfBackSpec : ChangeSpec := { name := "utfBack", fn := fun _ => fun
  | [d1, d2, d3] => { results := [.lit (.bool true)], args := [d1, d2, d3] }
  | _ => none }
def utfBackRow : OpenClaim := { program := "ytkdpcfogfjknoaa", sum := "6fc2d4c386fb311d09100904b309947cc1bb2a5ec21b8681de1b2cfc31478df9", func := "pillarbox/pillarboxlaw2.UtfBack", spec := "utfBack", apart := false }
def UtfBackSaid : Prop := utfBackRow.holds Try.pinned (OpenSpec.ofChange utfBackSpec)

/-- ITS FALSE NEIGHBOUR: 'it returns false'. Refute it at one input. -/
def utfBackWrong : ChangeSpec := { name := "utfBack", fn := fun _ => fun
  | [d1, d2, d3] => { results := [.lit (.bool false)], args := [d1, d2, d3] }
  | _ => none }
def UtfBackWrongFalsely : Prop := utfBackRow.holds Try.pinned (OpenSpec.ofChange utfBackWrong)

/-- 'pillarboxlaw2.UtfMade': WHATEVER THE INPUT: true; the input reads as it did. -/
def utfMadeSpec : ChangeSpec := { name := "utfMade", fn := fun _ => fun
  | [d1, d2] => { results := [.lit (.bool true)], args := [d1, d2] }
  | _ => none }
def utfMadeRow : OpenClaim := { program := "ytkdpcfogfjknoaa", sum := "6fc2d4c386fb311d09100904b309947cc1bb2a5ec21b8681de1b2cfc31478df9", func := "pillarbox/pillarboxlaw2.UtfMade", spec := "utfMade", apart := false }
def UtfMadeSaid : Prop := utfMadeRow.holds Try.pinned (OpenSpec.ofChange utfMadeSpec)

/-- ITS FALSE NEIGHBOUR: 'it returns false'. Refute it at one input. -/
def utfMadeWrong : ChangeSpec := { name := "utfMade", fn := fun _ => fun
  | [d1, d2] => { results := [.lit (.bool false)], args := [d1, d2] }
  | _ => none }
def UtfMadeWrongFalsely : Prop := utfMadeRow.holds Try.pinned (OpenSpec.ofChange utfMadeWrong)

/-- 'pillarboxlaw2.UtfSpoilt': WHATEVER THE INPUT: true; the input reads as it did. -/
def utfSpoiltSpec : ChangeSpec := { name := "utfSpoilt", fn := fun _ => fun
  | [d1, d2, d3] => { results := [.lit (.bool true)], args := [d1, d2, d3] }
  | _ => none }
def utfSpoiltRow : OpenClaim := { program := "ytkdpcfogfjknoaa", sum := "6fc2d4c386fb311d09100904b309947cc1bb2a5ec21b8681de1b2cfc31478df9", func := "pillarbox/pillarboxlaw2.UtfSpoilt", spec := "utfSpoilt", apart := false }
def UtfSpoiltSaid : Prop := utfSpoiltRow.holds Try.pinned (OpenSpec.ofChange utfSpoiltSpec)

/-- ITS FALSE NEIGHBOUR: 'it returns false'. Refute it at one input. -/
def utfSpoiltWrong : ChangeSpec := { name := "utfSpoilt", fn := fun _ => fun
  | [d1, d2, d3] => { results := [.lit (.bool false)], args := [d1, d2, d3] }
  | _ => none }
def UtfSpoiltWrongFalsely : Prop := utfSpoiltRow.holds Try.pinned (OpenSpec.ofChange utfSpoiltWrong)

/-- 'pillarboxlaw2.UtfOrders': WHATEVER THE INPUT: true; the input reads as it did. -/
def utfOrdersSpec : ChangeSpec := { name := "utfOrders", fn := fun _ => fun
  | [d1, d2] => { results := [.lit (.bool true)], args := [d1, d2] }
  | _ => none }
def utfOrdersRow : OpenClaim := { program := "ytkdpcfogfjknoaa", sum := "6fc2d4c386fb311d09100904b309947cc1bb2a5ec21b8681de1b2cfc31478df9", func := "pillarbox/pillarboxlaw2.UtfOrders", spec := "utfOrders", apart := false }
def UtfOrdersSaid : Prop := utfOrdersRow.holds Try.pinned (OpenSpec.ofChange utfOrdersSpec)

/-- ITS FALSE NEIGHBOUR: 'it returns false'. Refute it at one input. -/
def utfOrdersWrong : ChangeSpec := { name := "utfOrders", fn := fun _ => fun
  | [d1, d2] => { results := [.lit (.bool false)], args := [d1, d2] }
  | _ => none }
def UtfOrdersWrongFalsely : Prop := utfOrdersRow.holds Try.pinned (OpenSpec.ofChange utfOrdersWrong)

/-- 'pillarboxlaw2.UtfJoins': WHATEVER THE INPUT: true; the input reads as it did. -/
def utfJoinsSpec : ChangeSpec := { name := "utfJoins", fn := fun _ => fun
  | [d1, d2] => { results := [.lit (.bool true)], args := [d1, d2] }
  | _ => none }
def utfJoinsRow : OpenClaim := { program := "ytkdpcfogfjknoaa", sum := "6fc2d4c386fb311d09100904b309947cc1bb2a5ec21b8681de1b2cfc31478df9", func := "pillarbox/pillarboxlaw2.UtfJoins", spec := "utfJoins", apart := false }
def UtfJoinsSaid : Prop := utfJoinsRow.holds Try.pinned (OpenSpec.ofChange utfJoinsSpec)

/-- ITS FALSE NEIGHBOUR: 'it returns false'. Refute it at one input. -/
def utfJoinsWrong : ChangeSpec := { name := "utfJoins", fn := fun _ => fun
  | [d1, d2] => { results := [.lit (.bool false)], args := [d1, d2] }
  | _ => none }
def UtfJoinsWrongFalsely : Prop := utfJoinsRow.holds Try.pinned (OpenSpec.ofChange utfJoinsWrong)

/- THE SECOND FORM. 'bulk': how many values and letters a reading holds, each counted each time it is reached (what is shared counts as often as it is met; a slice's spare places count too). A statement '..UptoSaid' is the law's where the arguments, and the package variables that the reading takes, are together of bulk at most 1048576: NARROWER than '..Said'. Prove '..Said' where nothing that the law and all that it calls make is longer than what came in: it says more and counts as full. Else prove '..UptoSaid'. A law counts once. -/
mutual
def uptoBulk {H : Type} : DataW H → Nat
  | .lit (.string bytes) => bytes.length + 1
  | .lit _ => 1
  | .nil => 1
  | .ptr d => uptoBulk d + 1
  | .slice elems spare => uptoBulkAll elems + uptoBulkAll spare + 1
  | .agg parts => uptoBulkAll parts + 1
  | .iface _ d => uptoBulk d + 1
  | .map entries => uptoBulkEntries entries + 1
  | .held _ => 1
def uptoBulkAll {H : Type} : List (DataW H) → Nat
  | [] => 0
  | d :: r => uptoBulk d + uptoBulkAll r
def uptoBulkEntries {H : Type} : List (Lit × DataW H) → Nat
  | [] => 0
  | x :: r => uptoBulkEntry x + uptoBulkEntries r
def uptoBulkEntry {H : Type} : Lit × DataW H → Nat
  | (.string bytes, d) => bytes.length + uptoBulk d + 1
  | (_, d) => uptoBulk d + 1
 end
def uptoSmall : (H : Type) → List (DataW H) → Bool := fun _ ds => decide (uptoBulkAll ds ≤ 1048576)
def OpenSpec.upto (s : _root_.Go.ChangeSpec) : _root_.Go.OpenSpec := { _root_.Go.OpenSpec.ofChange s with cond := some uptoSmall }

/-- 'pillarboxlaw2.UtfAll', WHERE WHAT IT READS IS OF BULK AT MOST 1048576: true; the input reads as it did. -/
def utfAllUptoRow : OpenClaim := { program := "ytkdpcfogfjknoaa", sum := "6fc2d4c386fb311d09100904b309947cc1bb2a5ec21b8681de1b2cfc31478df9", func := "pillarbox/pillarboxlaw2.UtfAll", spec := "utfAll", apart := false, narrowed := true }
def UtfAllUptoSaid : Prop := utfAllUptoRow.holds Try.pinned (OpenSpec.upto utfAllSpec)

/-- 'pillarboxlaw2.UtfBack', WHERE WHAT IT READS IS OF BULK AT MOST 1048576: true; the input reads as it did. -/
def utfBackUptoRow : OpenClaim := { program := "ytkdpcfogfjknoaa", sum := "6fc2d4c386fb311d09100904b309947cc1bb2a5ec21b8681de1b2cfc31478df9", func := "pillarbox/pillarboxlaw2.UtfBack", spec := "utfBack", apart := false, narrowed := true }
def UtfBackUptoSaid : Prop := utfBackUptoRow.holds Try.pinned (OpenSpec.upto utfBackSpec)

/-- 'pillarboxlaw2.UtfMade', WHERE WHAT IT READS IS OF BULK AT MOST 1048576: true; the input reads as it did. -/
def utfMadeUptoRow : OpenClaim := { program := "ytkdpcfogfjknoaa", sum := "6fc2d4c386fb311d09100904b309947cc1bb2a5ec21b8681de1b2cfc31478df9", func := "pillarbox/pillarboxlaw2.UtfMade", spec := "utfMade", apart := false, narrowed := true }
def UtfMadeUptoSaid : Prop := utfMadeUptoRow.holds Try.pinned (OpenSpec.upto utfMadeSpec)

/-- 'pillarboxlaw2.UtfSpoilt', WHERE WHAT IT READS IS OF BULK AT MOST 1048576: true; the input reads as it did. -/
def utfSpoiltUptoRow : OpenClaim := { program := "ytkdpcfogfjknoaa", sum := "6fc2d4c386fb311d09100904b309947cc1bb2a5ec21b8681de1b2cfc31478df9", func := "pillarbox/pillarboxlaw2.UtfSpoilt", spec := "utfSpoilt", apart := false, narrowed := true }
def UtfSpoiltUptoSaid : Prop := utfSpoiltUptoRow.holds Try.pinned (OpenSpec.upto utfSpoiltSpec)

/-- 'pillarboxlaw2.UtfOrders', WHERE WHAT IT READS IS OF BULK AT MOST 1048576: true; the input reads as it did. -/
def utfOrdersUptoRow : OpenClaim := { program := "ytkdpcfogfjknoaa", sum := "6fc2d4c386fb311d09100904b309947cc1bb2a5ec21b8681de1b2cfc31478df9", func := "pillarbox/pillarboxlaw2.UtfOrders", spec := "utfOrders", apart := false, narrowed := true }
def UtfOrdersUptoSaid : Prop := utfOrdersUptoRow.holds Try.pinned (OpenSpec.upto utfOrdersSpec)

/-- 'pillarboxlaw2.UtfJoins', WHERE WHAT IT READS IS OF BULK AT MOST 1048576: true; the input reads as it did. -/
def utfJoinsUptoRow : OpenClaim := { program := "ytkdpcfogfjknoaa", sum := "6fc2d4c386fb311d09100904b309947cc1bb2a5ec21b8681de1b2cfc31478df9", func := "pillarbox/pillarboxlaw2.UtfJoins", spec := "utfJoins", apart := false, narrowed := true }
def UtfJoinsUptoSaid : Prop := utfJoinsUptoRow.holds Try.pinned (OpenSpec.upto utfJoinsSpec)

end Rows
end Go.Proofs.Ytkdpcfogfjknoaa
