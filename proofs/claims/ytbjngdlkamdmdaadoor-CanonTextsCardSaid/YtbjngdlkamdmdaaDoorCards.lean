/-
  DERIVED. GIVEN WITH THE SEED: THE CARDS: each row of YtbjngdlkamdmdaaDoorRows.lean that lists a variable, with what it lists TIED to the program's text (the seventh form; the later family's looks); each row that meets fmt, with fmt's text TOLD by the authors' own Lean function (tested against real Go, not proved from fmt's source: count such statements apart). THE CARD IS WHAT COUNTS. Prove the row's statement (the work); the ties are given (YtbjngdlkamdmdaaDoorTie.lean); close each card by the builder's one call (the guide's Derived/Test/ToyasCard.lean, 'card_holds'). Laid BY PROGRAM, IN A SANDBOX (cutbox-door.mjs). By AI agents, Wed Nov 11 2026. No macro, syntax, notation, axiom, sorry.
-/
import Derived.Test.YtbjngdlkamdmdaaDoorRows
import GoSem.ClaimSeven
namespace Go.Proofs.YtbjngdlkamdmdaaDoor
namespace Rows

/-- THE TIED CARD OF 'pillarboxlaw8.CanonAll'. -/
def canonAllCard : Claim7 := { stood := { row := canonAllRow, standIns := [], harness := (true, "510b04f8a8040bd24244a5645d53ea99c3b362fc963b25b114d77ab79492ca35"), looks := true }, kinds := [], alts := [], laidByText := true, laidKinds := [.data, .data, .data], laidTests := true, laidLooks := .later }
def CanonAllCardSaid : Prop := Claim7.holds Tryd.pinned (.plain (OpenSpec.ofChange canonAllSpec)) canonAllCard

/-- THE TIED CARD OF 'pillarboxlaw8.CanonFinds'. -/
def canonFindsCard : Claim7 := { stood := { row := canonFindsRow, standIns := [], harness := (true, "510b04f8a8040bd24244a5645d53ea99c3b362fc963b25b114d77ab79492ca35"), looks := true }, kinds := [], alts := [], laidByText := true, laidKinds := [.data, .data, .data], laidTests := true, laidLooks := .later }
def CanonFindsCardSaid : Prop := Claim7.holds Tryd.pinned (.plain (OpenSpec.ofChange canonFindsSpec)) canonFindsCard

/-- THE TIED CARD OF 'pillarboxlaw8.CanonBack'. -/
def canonBackCard : Claim7 := { stood := { row := canonBackRow, standIns := [], harness := (true, "510b04f8a8040bd24244a5645d53ea99c3b362fc963b25b114d77ab79492ca35"), looks := true }, kinds := [], alts := [], laidByText := true, laidKinds := [.data, .data, .data], laidTests := true, laidLooks := .later }
def CanonBackCardSaid : Prop := Claim7.holds Tryd.pinned (.plain (OpenSpec.ofChange canonBackSpec)) canonBackCard

/-- THE TIED CARD OF 'pillarboxlaw8.CanonTexts'. -/
def canonTextsCard : Claim7 := { stood := { row := canonTextsRow, standIns := [], harness := (true, "510b04f8a8040bd24244a5645d53ea99c3b362fc963b25b114d77ab79492ca35"), looks := true }, kinds := [], alts := [], laidByText := true, laidKinds := [.data, .data, .data], laidTests := true, laidLooks := .later }
def CanonTextsCardSaid : Prop := Claim7.holds Tryd.pinned (.plain (OpenSpec.ofChange canonTextsSpec)) canonTextsCard

/-- THE TIED CARD OF 'pillarboxlaw8.CanonOrder'. -/
def canonOrderCard : Claim7 := { stood := { row := canonOrderRow, standIns := [], harness := (true, "510b04f8a8040bd24244a5645d53ea99c3b362fc963b25b114d77ab79492ca35"), looks := true }, kinds := [], alts := [], laidByText := true, laidKinds := [.data, .data, .data], laidTests := true, laidLooks := .later }
def CanonOrderCardSaid : Prop := Claim7.holds Tryd.pinned (.plain (OpenSpec.ofChange canonOrderSpec)) canonOrderCard

/-- THE TIED CARD OF 'pillarboxlaw8.CanonWithin'. -/
def canonWithinCard : Claim7 := { stood := { row := canonWithinRow, standIns := [], harness := (true, "510b04f8a8040bd24244a5645d53ea99c3b362fc963b25b114d77ab79492ca35"), looks := true }, kinds := [], alts := [], laidByText := true, laidKinds := [.data, .data, .data], laidTests := true, laidLooks := .later }
def CanonWithinCardSaid : Prop := Claim7.holds Tryd.pinned (.plain (OpenSpec.ofChange canonWithinSpec)) canonWithinCard

/-- THE SECOND FORM's CARD OF 'pillarboxlaw8.CanonAll'. -/
def canonAllUptoCard : Claim7 := { stood := { row := canonAllUptoRow, standIns := [], harness := (true, "510b04f8a8040bd24244a5645d53ea99c3b362fc963b25b114d77ab79492ca35"), looks := true }, kinds := [], alts := [], laidByText := true, laidKinds := [.data, .data, .data], laidTests := true, laidLooks := .later }
def CanonAllUptoCardSaid : Prop := Claim7.holds Tryd.pinned (.plain (OpenSpec.upto canonAllSpec)) canonAllUptoCard

/-- THE SECOND FORM's CARD OF 'pillarboxlaw8.CanonFinds'. -/
def canonFindsUptoCard : Claim7 := { stood := { row := canonFindsUptoRow, standIns := [], harness := (true, "510b04f8a8040bd24244a5645d53ea99c3b362fc963b25b114d77ab79492ca35"), looks := true }, kinds := [], alts := [], laidByText := true, laidKinds := [.data, .data, .data], laidTests := true, laidLooks := .later }
def CanonFindsUptoCardSaid : Prop := Claim7.holds Tryd.pinned (.plain (OpenSpec.upto canonFindsSpec)) canonFindsUptoCard

/-- THE SECOND FORM's CARD OF 'pillarboxlaw8.CanonBack'. -/
def canonBackUptoCard : Claim7 := { stood := { row := canonBackUptoRow, standIns := [], harness := (true, "510b04f8a8040bd24244a5645d53ea99c3b362fc963b25b114d77ab79492ca35"), looks := true }, kinds := [], alts := [], laidByText := true, laidKinds := [.data, .data, .data], laidTests := true, laidLooks := .later }
def CanonBackUptoCardSaid : Prop := Claim7.holds Tryd.pinned (.plain (OpenSpec.upto canonBackSpec)) canonBackUptoCard

/-- THE SECOND FORM's CARD OF 'pillarboxlaw8.CanonTexts'. -/
def canonTextsUptoCard : Claim7 := { stood := { row := canonTextsUptoRow, standIns := [], harness := (true, "510b04f8a8040bd24244a5645d53ea99c3b362fc963b25b114d77ab79492ca35"), looks := true }, kinds := [], alts := [], laidByText := true, laidKinds := [.data, .data, .data], laidTests := true, laidLooks := .later }
def CanonTextsUptoCardSaid : Prop := Claim7.holds Tryd.pinned (.plain (OpenSpec.upto canonTextsSpec)) canonTextsUptoCard

/-- THE SECOND FORM's CARD OF 'pillarboxlaw8.CanonOrder'. -/
def canonOrderUptoCard : Claim7 := { stood := { row := canonOrderUptoRow, standIns := [], harness := (true, "510b04f8a8040bd24244a5645d53ea99c3b362fc963b25b114d77ab79492ca35"), looks := true }, kinds := [], alts := [], laidByText := true, laidKinds := [.data, .data, .data], laidTests := true, laidLooks := .later }
def CanonOrderUptoCardSaid : Prop := Claim7.holds Tryd.pinned (.plain (OpenSpec.upto canonOrderSpec)) canonOrderUptoCard

/-- THE SECOND FORM's CARD OF 'pillarboxlaw8.CanonWithin'. -/
def canonWithinUptoCard : Claim7 := { stood := { row := canonWithinUptoRow, standIns := [], harness := (true, "510b04f8a8040bd24244a5645d53ea99c3b362fc963b25b114d77ab79492ca35"), looks := true }, kinds := [], alts := [], laidByText := true, laidKinds := [.data, .data, .data], laidTests := true, laidLooks := .later }
def CanonWithinUptoCardSaid : Prop := Claim7.holds Tryd.pinned (.plain (OpenSpec.upto canonWithinSpec)) canonWithinUptoCard
end Rows
end Go.Proofs.YtbjngdlkamdmdaaDoor
