/-
  DERIVED. GIVEN WITH THE SEED: THE CARDS: each row of YtoofcclcimkipaaDoorRows.lean that lists a variable, with what it lists TIED to the program's text (the seventh form; the later family's looks); each row that meets fmt, with fmt's text TOLD by the authors' own Lean function (tested against real Go, not proved from fmt's source: count such statements apart). THE CARD IS WHAT COUNTS. Prove the row's statement (the work); the ties are given (YtoofcclcimkipaaDoorTie.lean); close each card by the builder's one call (the guide's Derived/Test/ToyasCard.lean, 'card_holds'). Laid BY PROGRAM, IN A SANDBOX (cutbox-door.mjs). By AI agents, Wed Nov 11 2026. No macro, syntax, notation, axiom, sorry.
-/
import Derived.Test.YtoofcclcimkipaaDoorRows
import GoSem.ClaimSeven
namespace Go.Proofs.YtoofcclcimkipaaDoor
namespace Rows

/-- THE TIED CARD OF 'pillarboxlaw9.PointGets'. -/
def pointGetsCard : Claim7 := { stood := { row := pointGetsRow, standIns := [], harness := (true, "6b67a9c3d68dc3d1169a613de8dad0fe3fe116cf48bd3ec5fabaf415b12b5ea3"), looks := true }, kinds := [], alts := [], laidByText := true, laidKinds := [.data, .data, .data, .data, .sentinel, .sentinel, .pinned], laidTests := true, laidLooks := .later }
def PointGetsCardSaid : Prop := Claim7.holds Tryd.pinned (.plain (OpenSpec.ofChange pointGetsSpec)) pointGetsCard

/-- THE TIED CARD OF 'pillarboxlaw9.PointWalks'. -/
def pointWalksCard : Claim7 := { stood := { row := pointWalksRow, standIns := [], harness := (true, "6b67a9c3d68dc3d1169a613de8dad0fe3fe116cf48bd3ec5fabaf415b12b5ea3"), looks := true }, kinds := [], alts := [], laidByText := true, laidKinds := [.data, .data, .data, .data, .sentinel, .sentinel, .pinned], laidTests := true, laidLooks := .later }
def PointWalksCardSaid : Prop := Claim7.holds Tryd.pinned (.plain (OpenSpec.ofChange pointWalksSpec)) pointWalksCard

/-- THE TIED CARD OF 'pillarboxlaw9.PointStars'. -/
def pointStarsCard : Claim7 := { stood := { row := pointStarsRow, standIns := [], harness := (true, "6b67a9c3d68dc3d1169a613de8dad0fe3fe116cf48bd3ec5fabaf415b12b5ea3"), looks := true }, kinds := [], alts := [], laidByText := true, laidKinds := [.data, .data, .data, .data, .sentinel, .sentinel, .pinned], laidTests := true, laidLooks := .later }
def PointStarsCardSaid : Prop := Claim7.holds Tryd.pinned (.plain (OpenSpec.ofChange pointStarsSpec)) pointStarsCard

/-- THE TIED CARD OF 'pillarboxlaw9.PointNone'. -/
def pointNoneCard : Claim7 := { stood := { row := pointNoneRow, standIns := [], harness := (true, "6b67a9c3d68dc3d1169a613de8dad0fe3fe116cf48bd3ec5fabaf415b12b5ea3"), looks := true }, kinds := [], alts := [], laidByText := true, laidKinds := [.data, .data, .data, .data, .sentinel, .sentinel, .pinned], laidTests := true, laidLooks := .later }
def PointNoneCardSaid : Prop := Claim7.holds Tryd.pinned (.plain (OpenSpec.ofChange pointNoneSpec)) pointNoneCard

/-- THE TIED CARD OF 'pillarboxlaw9.PointSigns'. -/
def pointSignsCard : Claim7 := { stood := { row := pointSignsRow, standIns := [], harness := (true, "6b67a9c3d68dc3d1169a613de8dad0fe3fe116cf48bd3ec5fabaf415b12b5ea3"), looks := true }, kinds := [], alts := [], laidByText := true, laidKinds := [.data, .data, .data, .data, .sentinel, .sentinel, .pinned], laidTests := true, laidLooks := .later }
def PointSignsCardSaid : Prop := Claim7.holds Tryd.pinned (.plain (OpenSpec.ofChange pointSignsSpec)) pointSignsCard

/-- THE SECOND FORM's CARD OF 'pillarboxlaw9.PointGets'. -/
def pointGetsUptoCard : Claim7 := { stood := { row := pointGetsUptoRow, standIns := [], harness := (true, "6b67a9c3d68dc3d1169a613de8dad0fe3fe116cf48bd3ec5fabaf415b12b5ea3"), looks := true }, kinds := [], alts := [], laidByText := true, laidKinds := [.data, .data, .data, .data, .sentinel, .sentinel, .pinned], laidTests := true, laidLooks := .later }
def PointGetsUptoCardSaid : Prop := Claim7.holds Tryd.pinned (.plain (OpenSpec.upto pointGetsSpec)) pointGetsUptoCard

/-- THE SECOND FORM's CARD OF 'pillarboxlaw9.PointWalks'. -/
def pointWalksUptoCard : Claim7 := { stood := { row := pointWalksUptoRow, standIns := [], harness := (true, "6b67a9c3d68dc3d1169a613de8dad0fe3fe116cf48bd3ec5fabaf415b12b5ea3"), looks := true }, kinds := [], alts := [], laidByText := true, laidKinds := [.data, .data, .data, .data, .sentinel, .sentinel, .pinned], laidTests := true, laidLooks := .later }
def PointWalksUptoCardSaid : Prop := Claim7.holds Tryd.pinned (.plain (OpenSpec.upto pointWalksSpec)) pointWalksUptoCard

/-- THE SECOND FORM's CARD OF 'pillarboxlaw9.PointStars'. -/
def pointStarsUptoCard : Claim7 := { stood := { row := pointStarsUptoRow, standIns := [], harness := (true, "6b67a9c3d68dc3d1169a613de8dad0fe3fe116cf48bd3ec5fabaf415b12b5ea3"), looks := true }, kinds := [], alts := [], laidByText := true, laidKinds := [.data, .data, .data, .data, .sentinel, .sentinel, .pinned], laidTests := true, laidLooks := .later }
def PointStarsUptoCardSaid : Prop := Claim7.holds Tryd.pinned (.plain (OpenSpec.upto pointStarsSpec)) pointStarsUptoCard

/-- THE SECOND FORM's CARD OF 'pillarboxlaw9.PointNone'. -/
def pointNoneUptoCard : Claim7 := { stood := { row := pointNoneUptoRow, standIns := [], harness := (true, "6b67a9c3d68dc3d1169a613de8dad0fe3fe116cf48bd3ec5fabaf415b12b5ea3"), looks := true }, kinds := [], alts := [], laidByText := true, laidKinds := [.data, .data, .data, .data, .sentinel, .sentinel, .pinned], laidTests := true, laidLooks := .later }
def PointNoneUptoCardSaid : Prop := Claim7.holds Tryd.pinned (.plain (OpenSpec.upto pointNoneSpec)) pointNoneUptoCard

/-- THE SECOND FORM's CARD OF 'pillarboxlaw9.PointSigns'. -/
def pointSignsUptoCard : Claim7 := { stood := { row := pointSignsUptoRow, standIns := [], harness := (true, "6b67a9c3d68dc3d1169a613de8dad0fe3fe116cf48bd3ec5fabaf415b12b5ea3"), looks := true }, kinds := [], alts := [], laidByText := true, laidKinds := [.data, .data, .data, .data, .sentinel, .sentinel, .pinned], laidTests := true, laidLooks := .later }
def PointSignsUptoCardSaid : Prop := Claim7.holds Tryd.pinned (.plain (OpenSpec.upto pointSignsSpec)) pointSignsUptoCard
end Rows
end Go.Proofs.YtoofcclcimkipaaDoor
