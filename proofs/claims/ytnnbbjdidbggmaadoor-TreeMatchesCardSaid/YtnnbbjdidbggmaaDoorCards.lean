/-
  DERIVED. GIVEN WITH THE SEED: THE CARDS: each row of YtnnbbjdidbggmaaDoorRows.lean that lists a variable, with what it lists TIED to the program's text (the seventh form; the later family's looks); each row that meets fmt, with fmt's text TOLD by the authors' own Lean function (tested against real Go, not proved from fmt's source: count such statements apart). THE CARD IS WHAT COUNTS. Prove the row's statement (the work); the ties are given (YtnnbbjdidbggmaaDoorTie.lean); close each card by the builder's one call (the guide's Derived/Test/ToyasCard.lean, 'card_holds'). Laid BY PROGRAM, IN A SANDBOX (cutbox-door.mjs). By AI agents, Wed Nov 11 2026. No macro, syntax, notation, axiom, sorry.
-/
import Derived.Test.YtnnbbjdidbggmaaDoorRows
import GoSem.ClaimSeven
namespace Go.Proofs.YtnnbbjdidbggmaaDoor
namespace Rows

/-- THE TIED CARD OF 'pillarboxlaw16.TreeMatches'. -/
def treeMatchesCard : Claim7 := { stood := { row := treeMatchesRow, standIns := [], harness := (true, "8e649c5a904e427b902097daabd9b6e53d260f46a69b4082674d5071a0f4fbf3"), looks := false }, kinds := [], alts := [], laidByText := true, laidKinds := [.data, .pinned], laidTests := true, laidLooks := .later }
def TreeMatchesCardSaid : Prop := Claim7.holds Tryd.pinned (.plain (OpenSpec.ofChange treeMatchesSpec)) treeMatchesCard

/-- THE TIED CARD OF 'pillarboxlaw16.TreeSelf'. -/
def treeSelfCard : Claim7 := { stood := { row := treeSelfRow, standIns := [], harness := (true, "8e649c5a904e427b902097daabd9b6e53d260f46a69b4082674d5071a0f4fbf3"), looks := false }, kinds := [], alts := [], laidByText := true, laidKinds := [.data, .pinned], laidTests := true, laidLooks := .later }
def TreeSelfCardSaid : Prop := Claim7.holds Tryd.pinned (.plain (OpenSpec.ofChange treeSelfSpec)) treeSelfCard

/-- THE TIED CARD OF 'pillarboxlaw16.TreeMade'. -/
def treeMadeCard : Claim7 := { stood := { row := treeMadeRow, standIns := [], harness := (true, "8e649c5a904e427b902097daabd9b6e53d260f46a69b4082674d5071a0f4fbf3"), looks := false }, kinds := [], alts := [], laidByText := true, laidKinds := [.data, .pinned], laidTests := true, laidLooks := .later }
def TreeMadeCardSaid : Prop := Claim7.holds Tryd.pinned (.plain (OpenSpec.ofChange treeMadeSpec)) treeMadeCard

/-- THE TIED CARD OF 'pillarboxlaw16.TreePercents'. -/
def treePercentsCard : Claim7 := { stood := { row := treePercentsRow, standIns := [], harness := (true, "8e649c5a904e427b902097daabd9b6e53d260f46a69b4082674d5071a0f4fbf3"), looks := false }, kinds := [], alts := [], laidByText := true, laidKinds := [.data, .pinned], laidTests := true, laidLooks := .later }
def TreePercentsCardSaid : Prop := Claim7.holds Tryd.pinned (.plain (OpenSpec.ofChange treePercentsSpec)) treePercentsCard

/-- THE TIED CARD OF 'pillarboxlaw16.TreeRounds'. -/
def treeRoundsCard : Claim7 := { stood := { row := treeRoundsRow, standIns := [], harness := (true, "8e649c5a904e427b902097daabd9b6e53d260f46a69b4082674d5071a0f4fbf3"), looks := false }, kinds := [], alts := [], laidByText := true, laidKinds := [.data, .pinned], laidTests := true, laidLooks := .later }
def TreeRoundsCardSaid : Prop := Claim7.holds Tryd.pinned (.plain (OpenSpec.ofChange treeRoundsSpec)) treeRoundsCard

/-- THE SECOND FORM's CARD OF 'pillarboxlaw16.TreeMatches'. -/
def treeMatchesUptoCard : Claim7 := { stood := { row := treeMatchesUptoRow, standIns := [], harness := (true, "8e649c5a904e427b902097daabd9b6e53d260f46a69b4082674d5071a0f4fbf3"), looks := false }, kinds := [], alts := [], laidByText := true, laidKinds := [.data, .pinned], laidTests := true, laidLooks := .later }
def TreeMatchesUptoCardSaid : Prop := Claim7.holds Tryd.pinned (.plain (OpenSpec.upto treeMatchesSpec)) treeMatchesUptoCard

/-- THE SECOND FORM's CARD OF 'pillarboxlaw16.TreeSelf'. -/
def treeSelfUptoCard : Claim7 := { stood := { row := treeSelfUptoRow, standIns := [], harness := (true, "8e649c5a904e427b902097daabd9b6e53d260f46a69b4082674d5071a0f4fbf3"), looks := false }, kinds := [], alts := [], laidByText := true, laidKinds := [.data, .pinned], laidTests := true, laidLooks := .later }
def TreeSelfUptoCardSaid : Prop := Claim7.holds Tryd.pinned (.plain (OpenSpec.upto treeSelfSpec)) treeSelfUptoCard

/-- THE SECOND FORM's CARD OF 'pillarboxlaw16.TreeMade'. -/
def treeMadeUptoCard : Claim7 := { stood := { row := treeMadeUptoRow, standIns := [], harness := (true, "8e649c5a904e427b902097daabd9b6e53d260f46a69b4082674d5071a0f4fbf3"), looks := false }, kinds := [], alts := [], laidByText := true, laidKinds := [.data, .pinned], laidTests := true, laidLooks := .later }
def TreeMadeUptoCardSaid : Prop := Claim7.holds Tryd.pinned (.plain (OpenSpec.upto treeMadeSpec)) treeMadeUptoCard

/-- THE SECOND FORM's CARD OF 'pillarboxlaw16.TreePercents'. -/
def treePercentsUptoCard : Claim7 := { stood := { row := treePercentsUptoRow, standIns := [], harness := (true, "8e649c5a904e427b902097daabd9b6e53d260f46a69b4082674d5071a0f4fbf3"), looks := false }, kinds := [], alts := [], laidByText := true, laidKinds := [.data, .pinned], laidTests := true, laidLooks := .later }
def TreePercentsUptoCardSaid : Prop := Claim7.holds Tryd.pinned (.plain (OpenSpec.upto treePercentsSpec)) treePercentsUptoCard

/-- THE SECOND FORM's CARD OF 'pillarboxlaw16.TreeRounds'. -/
def treeRoundsUptoCard : Claim7 := { stood := { row := treeRoundsUptoRow, standIns := [], harness := (true, "8e649c5a904e427b902097daabd9b6e53d260f46a69b4082674d5071a0f4fbf3"), looks := false }, kinds := [], alts := [], laidByText := true, laidKinds := [.data, .pinned], laidTests := true, laidLooks := .later }
def TreeRoundsUptoCardSaid : Prop := Claim7.holds Tryd.pinned (.plain (OpenSpec.upto treeRoundsSpec)) treeRoundsUptoCard
end Rows
end Go.Proofs.YtnnbbjdidbggmaaDoor
