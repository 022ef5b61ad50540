/-
  DERIVED. GIVEN WITH THE SEED: THE CARDS: each row of YtkmopneeafbeaaaDoorRows.lean that lists a variable, with what it lists TIED to the program's text (the seventh form; the later family's looks); each row that meets fmt, with fmt's text TOLD by the authors' own Lean function (tested against real Go, not proved from fmt's source: count such statements apart). THE CARD IS WHAT COUNTS. Prove the row's statement (the work); the ties are given (YtkmopneeafbeaaaDoorTie.lean); close each card by the builder's one call (the guide's Derived/Test/ToyasCard.lean, 'card_holds'). Laid BY PROGRAM, IN A SANDBOX (cutbox-door.mjs). By AI agents, Wed Nov 11 2026. No macro, syntax, notation, axiom, sorry.
-/
import Derived.Test.YtkmopneeafbeaaaDoorRows
import GoSem.ClaimSeven
namespace Go.Proofs.YtkmopneeafbeaaaDoor
namespace Rows

/-- THE TIED CARD OF 'pillarboxlaw13.PartValues'. -/
def partValuesCard : Claim7 := { stood := { row := partValuesRow, standIns := [], harness := (true, "a526fded9972bf8357572845fa08316e03b32639e8e86c8a4fd4c6fa4e7b3bee"), looks := false }, kinds := [], alts := [], laidByText := true, laidKinds := [.data, .pinned], laidTests := true, laidLooks := .later }
def PartValuesCardSaid : Prop := Claim7.holds Tryd.pinned (.plain (OpenSpec.ofChange partValuesSpec)) partValuesCard

/-- THE TIED CARD OF 'pillarboxlaw13.PartTrees'. -/
def partTreesCard : Claim7 := { stood := { row := partTreesRow, standIns := [], harness := (true, "a526fded9972bf8357572845fa08316e03b32639e8e86c8a4fd4c6fa4e7b3bee"), looks := false }, kinds := [], alts := [], laidByText := true, laidKinds := [.data, .pinned], laidTests := true, laidLooks := .later }
def PartTreesCardSaid : Prop := Claim7.holds Tryd.pinned (.plain (OpenSpec.ofChange partTreesSpec)) partTreesCard

/-- THE TIED CARD OF 'pillarboxlaw13.PartContents'. -/
def partContentsCard : Claim7 := { stood := { row := partContentsRow, standIns := [], harness := (true, "a526fded9972bf8357572845fa08316e03b32639e8e86c8a4fd4c6fa4e7b3bee"), looks := false }, kinds := [], alts := [], laidByText := true, laidKinds := [.data, .pinned], laidTests := true, laidLooks := .later }
def PartContentsCardSaid : Prop := Claim7.holds Tryd.pinned (.plain (OpenSpec.ofChange partContentsSpec)) partContentsCard

/-- THE TIED CARD OF 'pillarboxlaw13.PartMade'. -/
def partMadeCard : Claim7 := { stood := { row := partMadeRow, standIns := [], harness := (true, "a526fded9972bf8357572845fa08316e03b32639e8e86c8a4fd4c6fa4e7b3bee"), looks := false }, kinds := [], alts := [], laidByText := true, laidKinds := [.data, .pinned], laidTests := true, laidLooks := .later }
def PartMadeCardSaid : Prop := Claim7.holds Tryd.pinned (.plain (OpenSpec.ofChange partMadeSpec)) partMadeCard

/-- THE TIED CARD OF 'pillarboxlaw13.PartMany'. -/
def partManyCard : Claim7 := { stood := { row := partManyRow, standIns := [], harness := (true, "a526fded9972bf8357572845fa08316e03b32639e8e86c8a4fd4c6fa4e7b3bee"), looks := false }, kinds := [], alts := [], laidByText := true, laidKinds := [.data, .pinned], laidTests := true, laidLooks := .later }
def PartManyCardSaid : Prop := Claim7.holds Tryd.pinned (.plain (OpenSpec.ofChange partManySpec)) partManyCard

/-- THE TIED CARD OF 'pillarboxlaw13.PartNested'. -/
def partNestedCard : Claim7 := { stood := { row := partNestedRow, standIns := [], harness := (true, "a526fded9972bf8357572845fa08316e03b32639e8e86c8a4fd4c6fa4e7b3bee"), looks := false }, kinds := [], alts := [], laidByText := true, laidKinds := [.data, .pinned], laidTests := true, laidLooks := .later }
def PartNestedCardSaid : Prop := Claim7.holds Tryd.pinned (.plain (OpenSpec.ofChange partNestedSpec)) partNestedCard

/-- THE SECOND FORM's CARD OF 'pillarboxlaw13.PartValues'. -/
def partValuesUptoCard : Claim7 := { stood := { row := partValuesUptoRow, standIns := [], harness := (true, "a526fded9972bf8357572845fa08316e03b32639e8e86c8a4fd4c6fa4e7b3bee"), looks := false }, kinds := [], alts := [], laidByText := true, laidKinds := [.data, .pinned], laidTests := true, laidLooks := .later }
def PartValuesUptoCardSaid : Prop := Claim7.holds Tryd.pinned (.plain (OpenSpec.upto partValuesSpec)) partValuesUptoCard

/-- THE SECOND FORM's CARD OF 'pillarboxlaw13.PartTrees'. -/
def partTreesUptoCard : Claim7 := { stood := { row := partTreesUptoRow, standIns := [], harness := (true, "a526fded9972bf8357572845fa08316e03b32639e8e86c8a4fd4c6fa4e7b3bee"), looks := false }, kinds := [], alts := [], laidByText := true, laidKinds := [.data, .pinned], laidTests := true, laidLooks := .later }
def PartTreesUptoCardSaid : Prop := Claim7.holds Tryd.pinned (.plain (OpenSpec.upto partTreesSpec)) partTreesUptoCard

/-- THE SECOND FORM's CARD OF 'pillarboxlaw13.PartContents'. -/
def partContentsUptoCard : Claim7 := { stood := { row := partContentsUptoRow, standIns := [], harness := (true, "a526fded9972bf8357572845fa08316e03b32639e8e86c8a4fd4c6fa4e7b3bee"), looks := false }, kinds := [], alts := [], laidByText := true, laidKinds := [.data, .pinned], laidTests := true, laidLooks := .later }
def PartContentsUptoCardSaid : Prop := Claim7.holds Tryd.pinned (.plain (OpenSpec.upto partContentsSpec)) partContentsUptoCard

/-- THE SECOND FORM's CARD OF 'pillarboxlaw13.PartMade'. -/
def partMadeUptoCard : Claim7 := { stood := { row := partMadeUptoRow, standIns := [], harness := (true, "a526fded9972bf8357572845fa08316e03b32639e8e86c8a4fd4c6fa4e7b3bee"), looks := false }, kinds := [], alts := [], laidByText := true, laidKinds := [.data, .pinned], laidTests := true, laidLooks := .later }
def PartMadeUptoCardSaid : Prop := Claim7.holds Tryd.pinned (.plain (OpenSpec.upto partMadeSpec)) partMadeUptoCard

/-- THE SECOND FORM's CARD OF 'pillarboxlaw13.PartMany'. -/
def partManyUptoCard : Claim7 := { stood := { row := partManyUptoRow, standIns := [], harness := (true, "a526fded9972bf8357572845fa08316e03b32639e8e86c8a4fd4c6fa4e7b3bee"), looks := false }, kinds := [], alts := [], laidByText := true, laidKinds := [.data, .pinned], laidTests := true, laidLooks := .later }
def PartManyUptoCardSaid : Prop := Claim7.holds Tryd.pinned (.plain (OpenSpec.upto partManySpec)) partManyUptoCard

/-- THE SECOND FORM's CARD OF 'pillarboxlaw13.PartNested'. -/
def partNestedUptoCard : Claim7 := { stood := { row := partNestedUptoRow, standIns := [], harness := (true, "a526fded9972bf8357572845fa08316e03b32639e8e86c8a4fd4c6fa4e7b3bee"), looks := false }, kinds := [], alts := [], laidByText := true, laidKinds := [.data, .pinned], laidTests := true, laidLooks := .later }
def PartNestedUptoCardSaid : Prop := Claim7.holds Tryd.pinned (.plain (OpenSpec.upto partNestedSpec)) partNestedUptoCard
end Rows
end Go.Proofs.YtkmopneeafbeaaaDoor
