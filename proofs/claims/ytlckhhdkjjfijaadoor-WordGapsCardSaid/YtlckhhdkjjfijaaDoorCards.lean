/-
  DERIVED. GIVEN WITH THE SEED: THE CARDS: each row of YtlckhhdkjjfijaaDoorRows.lean that lists a variable, with what it lists TIED to the program's text (the seventh form; the later family's looks); each row that meets fmt, with fmt's text TOLD by the authors' own Lean function (tested against real Go, not proved from fmt's source: count such statements apart). THE CARD IS WHAT COUNTS. Prove the row's statement (the work); the ties are given (YtlckhhdkjjfijaaDoorTie.lean); close each card by the builder's one call (the guide's Derived/Test/ToyasCard.lean, 'card_holds'). Laid BY PROGRAM, IN A SANDBOX (cutbox-door.mjs). By AI agents, Wed Nov 11 2026. No macro, syntax, notation, axiom, sorry.
-/
import Derived.Test.YtlckhhdkjjfijaaDoorRows
import GoSem.ClaimSeven
namespace Go.Proofs.YtlckhhdkjjfijaaDoor
namespace Rows

/-- THE TIED CARD OF 'pillarboxlaw11.WordAll'. -/
def wordAllCard : Claim7 := { stood := { row := wordAllRow, standIns := [], harness := (true, "ab481888f8d037c4d1e58b96871a9220550e8b0a71dffbdda586ccc6e253f0ac"), looks := false }, kinds := [], alts := [], laidByText := true, laidKinds := [.data, .pinned], laidTests := true, laidLooks := .later }
def WordAllCardSaid : Prop := Claim7.holds Tryd.pinned (.plain (OpenSpec.ofChange wordAllSpec)) wordAllCard

/-- THE TIED CARD OF 'pillarboxlaw11.WordMade'. -/
def wordMadeCard : Claim7 := { stood := { row := wordMadeRow, standIns := [], harness := (true, "ab481888f8d037c4d1e58b96871a9220550e8b0a71dffbdda586ccc6e253f0ac"), looks := false }, kinds := [], alts := [], laidByText := true, laidKinds := [.data, .pinned], laidTests := true, laidLooks := .later }
def WordMadeCardSaid : Prop := Claim7.holds Tryd.pinned (.plain (OpenSpec.ofChange wordMadeSpec)) wordMadeCard

/-- THE TIED CARD OF 'pillarboxlaw11.WordLatin'. -/
def wordLatinCard : Claim7 := { stood := { row := wordLatinRow, standIns := [], harness := (true, "ab481888f8d037c4d1e58b96871a9220550e8b0a71dffbdda586ccc6e253f0ac"), looks := false }, kinds := [], alts := [], laidByText := true, laidKinds := [.data, .pinned], laidTests := true, laidLooks := .later }
def WordLatinCardSaid : Prop := Claim7.holds Tryd.pinned (.plain (OpenSpec.ofChange wordLatinSpec)) wordLatinCard

/-- THE TIED CARD OF 'pillarboxlaw11.WordPlain'. -/
def wordPlainCard : Claim7 := { stood := { row := wordPlainRow, standIns := [], harness := (true, "ab481888f8d037c4d1e58b96871a9220550e8b0a71dffbdda586ccc6e253f0ac"), looks := false }, kinds := [], alts := [], laidByText := true, laidKinds := [.data, .pinned], laidTests := true, laidLooks := .later }
def WordPlainCardSaid : Prop := Claim7.holds Tryd.pinned (.plain (OpenSpec.ofChange wordPlainSpec)) wordPlainCard

/-- THE TIED CARD OF 'pillarboxlaw11.WordGaps'. -/
def wordGapsCard : Claim7 := { stood := { row := wordGapsRow, standIns := [], harness := (true, "ab481888f8d037c4d1e58b96871a9220550e8b0a71dffbdda586ccc6e253f0ac"), looks := false }, kinds := [], alts := [], laidByText := true, laidKinds := [.data, .pinned], laidTests := true, laidLooks := .later }
def WordGapsCardSaid : Prop := Claim7.holds Tryd.pinned (.plain (OpenSpec.ofChange wordGapsSpec)) wordGapsCard

/-- THE SECOND FORM's CARD OF 'pillarboxlaw11.WordAll'. -/
def wordAllUptoCard : Claim7 := { stood := { row := wordAllUptoRow, standIns := [], harness := (true, "ab481888f8d037c4d1e58b96871a9220550e8b0a71dffbdda586ccc6e253f0ac"), looks := false }, kinds := [], alts := [], laidByText := true, laidKinds := [.data, .pinned], laidTests := true, laidLooks := .later }
def WordAllUptoCardSaid : Prop := Claim7.holds Tryd.pinned (.plain (OpenSpec.upto wordAllSpec)) wordAllUptoCard

/-- THE SECOND FORM's CARD OF 'pillarboxlaw11.WordMade'. -/
def wordMadeUptoCard : Claim7 := { stood := { row := wordMadeUptoRow, standIns := [], harness := (true, "ab481888f8d037c4d1e58b96871a9220550e8b0a71dffbdda586ccc6e253f0ac"), looks := false }, kinds := [], alts := [], laidByText := true, laidKinds := [.data, .pinned], laidTests := true, laidLooks := .later }
def WordMadeUptoCardSaid : Prop := Claim7.holds Tryd.pinned (.plain (OpenSpec.upto wordMadeSpec)) wordMadeUptoCard

/-- THE SECOND FORM's CARD OF 'pillarboxlaw11.WordLatin'. -/
def wordLatinUptoCard : Claim7 := { stood := { row := wordLatinUptoRow, standIns := [], harness := (true, "ab481888f8d037c4d1e58b96871a9220550e8b0a71dffbdda586ccc6e253f0ac"), looks := false }, kinds := [], alts := [], laidByText := true, laidKinds := [.data, .pinned], laidTests := true, laidLooks := .later }
def WordLatinUptoCardSaid : Prop := Claim7.holds Tryd.pinned (.plain (OpenSpec.upto wordLatinSpec)) wordLatinUptoCard

/-- THE SECOND FORM's CARD OF 'pillarboxlaw11.WordPlain'. -/
def wordPlainUptoCard : Claim7 := { stood := { row := wordPlainUptoRow, standIns := [], harness := (true, "ab481888f8d037c4d1e58b96871a9220550e8b0a71dffbdda586ccc6e253f0ac"), looks := false }, kinds := [], alts := [], laidByText := true, laidKinds := [.data, .pinned], laidTests := true, laidLooks := .later }
def WordPlainUptoCardSaid : Prop := Claim7.holds Tryd.pinned (.plain (OpenSpec.upto wordPlainSpec)) wordPlainUptoCard

/-- THE SECOND FORM's CARD OF 'pillarboxlaw11.WordGaps'. -/
def wordGapsUptoCard : Claim7 := { stood := { row := wordGapsUptoRow, standIns := [], harness := (true, "ab481888f8d037c4d1e58b96871a9220550e8b0a71dffbdda586ccc6e253f0ac"), looks := false }, kinds := [], alts := [], laidByText := true, laidKinds := [.data, .pinned], laidTests := true, laidLooks := .later }
def WordGapsUptoCardSaid : Prop := Claim7.holds Tryd.pinned (.plain (OpenSpec.upto wordGapsSpec)) wordGapsUptoCard
end Rows
end Go.Proofs.YtlckhhdkjjfijaaDoor
