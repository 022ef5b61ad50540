/-
  DERIVED. GIVEN WITH THE SEED: THE CARDS: each row of YtbhdopcegfdnnaaDoorRows.lean that lists a variable, with what it lists TIED to the program's text (the seventh form; the later family's looks); each row that meets fmt, with fmt's text TOLD by the authors' own Lean function (tested against real Go, not proved from fmt's source: count such statements apart). THE CARD IS WHAT COUNTS. Prove the row's statement (the work); the ties are given (YtbhdopcegfdnnaaDoorTie.lean); close each card by the builder's one call (the guide's Derived/Test/ToyasCard.lean, 'card_holds'). Laid BY PROGRAM, IN A SANDBOX (cutbox-door.mjs). By AI agents, Wed Nov 11 2026. No macro, syntax, notation, axiom, sorry.
-/
import Derived.Test.YtbhdopcegfdnnaaDoorRows
import GoSem.ClaimSeven
namespace Go.Proofs.YtbhdopcegfdnnaaDoor
namespace Rows

/-- THE TIED CARD OF 'pillarboxlaw10.FieldSplits'. -/
def fieldSplitsCard : Claim7 := { stood := { row := fieldSplitsRow, standIns := [], harness := (true, "958bb727bd350b1137bd675d69dacddb172fd5d9743d5c060d5b5c3765c7343d"), looks := false }, kinds := [], alts := [], laidByText := true, laidKinds := [.data, .pinned], laidTests := true, laidLooks := .later }
def FieldSplitsCardSaid : Prop := Claim7.holds Tryd.pinned (.plain (OpenSpec.ofChange fieldSplitsSpec)) fieldSplitsCard

/-- THE TIED CARD OF 'pillarboxlaw10.FieldFirsts'. -/
def fieldFirstsCard : Claim7 := { stood := { row := fieldFirstsRow, standIns := [], harness := (true, "958bb727bd350b1137bd675d69dacddb172fd5d9743d5c060d5b5c3765c7343d"), looks := false }, kinds := [], alts := [], laidByText := true, laidKinds := [.data, .pinned], laidTests := true, laidLooks := .later }
def FieldFirstsCardSaid : Prop := Claim7.holds Tryd.pinned (.plain (OpenSpec.ofChange fieldFirstsSpec)) fieldFirstsCard

/-- THE TIED CARD OF 'pillarboxlaw10.FieldMade'. -/
def fieldMadeCard : Claim7 := { stood := { row := fieldMadeRow, standIns := [], harness := (true, "958bb727bd350b1137bd675d69dacddb172fd5d9743d5c060d5b5c3765c7343d"), looks := false }, kinds := [], alts := [], laidByText := true, laidKinds := [.data, .pinned], laidTests := true, laidLooks := .later }
def FieldMadeCardSaid : Prop := Claim7.holds Tryd.pinned (.plain (OpenSpec.ofChange fieldMadeSpec)) fieldMadeCard

/-- THE TIED CARD OF 'pillarboxlaw10.FieldBodies'. -/
def fieldBodiesCard : Claim7 := { stood := { row := fieldBodiesRow, standIns := [], harness := (true, "958bb727bd350b1137bd675d69dacddb172fd5d9743d5c060d5b5c3765c7343d"), looks := false }, kinds := [], alts := [], laidByText := true, laidKinds := [.data, .pinned], laidTests := true, laidLooks := .later }
def FieldBodiesCardSaid : Prop := Claim7.holds Tryd.pinned (.plain (OpenSpec.ofChange fieldBodiesSpec)) fieldBodiesCard

/-- THE TIED CARD OF 'pillarboxlaw10.FieldCases'. -/
def fieldCasesCard : Claim7 := { stood := { row := fieldCasesRow, standIns := [], harness := (true, "958bb727bd350b1137bd675d69dacddb172fd5d9743d5c060d5b5c3765c7343d"), looks := false }, kinds := [], alts := [], laidByText := true, laidKinds := [.data, .pinned], laidTests := true, laidLooks := .later }
def FieldCasesCardSaid : Prop := Claim7.holds Tryd.pinned (.plain (OpenSpec.ofChange fieldCasesSpec)) fieldCasesCard

/-- THE TIED CARD OF 'pillarboxlaw10.FieldPlaces'. -/
def fieldPlacesCard : Claim7 := { stood := { row := fieldPlacesRow, standIns := [], harness := (true, "958bb727bd350b1137bd675d69dacddb172fd5d9743d5c060d5b5c3765c7343d"), looks := false }, kinds := [], alts := [], laidByText := true, laidKinds := [.data, .pinned], laidTests := true, laidLooks := .later }
def FieldPlacesCardSaid : Prop := Claim7.holds Tryd.pinned (.plain (OpenSpec.ofChange fieldPlacesSpec)) fieldPlacesCard

/-- THE SECOND FORM's CARD OF 'pillarboxlaw10.FieldSplits'. -/
def fieldSplitsUptoCard : Claim7 := { stood := { row := fieldSplitsUptoRow, standIns := [], harness := (true, "958bb727bd350b1137bd675d69dacddb172fd5d9743d5c060d5b5c3765c7343d"), looks := false }, kinds := [], alts := [], laidByText := true, laidKinds := [.data, .pinned], laidTests := true, laidLooks := .later }
def FieldSplitsUptoCardSaid : Prop := Claim7.holds Tryd.pinned (.plain (OpenSpec.upto fieldSplitsSpec)) fieldSplitsUptoCard

/-- THE SECOND FORM's CARD OF 'pillarboxlaw10.FieldFirsts'. -/
def fieldFirstsUptoCard : Claim7 := { stood := { row := fieldFirstsUptoRow, standIns := [], harness := (true, "958bb727bd350b1137bd675d69dacddb172fd5d9743d5c060d5b5c3765c7343d"), looks := false }, kinds := [], alts := [], laidByText := true, laidKinds := [.data, .pinned], laidTests := true, laidLooks := .later }
def FieldFirstsUptoCardSaid : Prop := Claim7.holds Tryd.pinned (.plain (OpenSpec.upto fieldFirstsSpec)) fieldFirstsUptoCard

/-- THE SECOND FORM's CARD OF 'pillarboxlaw10.FieldMade'. -/
def fieldMadeUptoCard : Claim7 := { stood := { row := fieldMadeUptoRow, standIns := [], harness := (true, "958bb727bd350b1137bd675d69dacddb172fd5d9743d5c060d5b5c3765c7343d"), looks := false }, kinds := [], alts := [], laidByText := true, laidKinds := [.data, .pinned], laidTests := true, laidLooks := .later }
def FieldMadeUptoCardSaid : Prop := Claim7.holds Tryd.pinned (.plain (OpenSpec.upto fieldMadeSpec)) fieldMadeUptoCard

/-- THE SECOND FORM's CARD OF 'pillarboxlaw10.FieldBodies'. -/
def fieldBodiesUptoCard : Claim7 := { stood := { row := fieldBodiesUptoRow, standIns := [], harness := (true, "958bb727bd350b1137bd675d69dacddb172fd5d9743d5c060d5b5c3765c7343d"), looks := false }, kinds := [], alts := [], laidByText := true, laidKinds := [.data, .pinned], laidTests := true, laidLooks := .later }
def FieldBodiesUptoCardSaid : Prop := Claim7.holds Tryd.pinned (.plain (OpenSpec.upto fieldBodiesSpec)) fieldBodiesUptoCard

/-- THE SECOND FORM's CARD OF 'pillarboxlaw10.FieldCases'. -/
def fieldCasesUptoCard : Claim7 := { stood := { row := fieldCasesUptoRow, standIns := [], harness := (true, "958bb727bd350b1137bd675d69dacddb172fd5d9743d5c060d5b5c3765c7343d"), looks := false }, kinds := [], alts := [], laidByText := true, laidKinds := [.data, .pinned], laidTests := true, laidLooks := .later }
def FieldCasesUptoCardSaid : Prop := Claim7.holds Tryd.pinned (.plain (OpenSpec.upto fieldCasesSpec)) fieldCasesUptoCard

/-- THE SECOND FORM's CARD OF 'pillarboxlaw10.FieldPlaces'. -/
def fieldPlacesUptoCard : Claim7 := { stood := { row := fieldPlacesUptoRow, standIns := [], harness := (true, "958bb727bd350b1137bd675d69dacddb172fd5d9743d5c060d5b5c3765c7343d"), looks := false }, kinds := [], alts := [], laidByText := true, laidKinds := [.data, .pinned], laidTests := true, laidLooks := .later }
def FieldPlacesUptoCardSaid : Prop := Claim7.holds Tryd.pinned (.plain (OpenSpec.upto fieldPlacesSpec)) fieldPlacesUptoCard
end Rows
end Go.Proofs.YtbhdopcegfdnnaaDoor
