/-
  DERIVED. GIVEN WITH THE SEED: THE CARDS: each row of YtigamkdomdglhaaDoorRows.lean that lists a variable, with what it lists TIED to the program's text (the seventh form; the later family's looks); each row that meets fmt, with fmt's text TOLD by the authors' own Lean function (tested against real Go, not proved from fmt's source: count such statements apart). THE CARD IS WHAT COUNTS. Prove the row's statement (the work); the ties are given (YtigamkdomdglhaaDoorTie.lean); close each card by the builder's one call (the guide's Derived/Test/ToyasCard.lean, 'card_holds'). Laid BY PROGRAM, IN A SANDBOX (cutbox-door.mjs). By AI agents, Wed Nov 11 2026. No macro, syntax, notation, axiom, sorry.
-/
import Derived.Test.YtigamkdomdglhaaDoorRows
import GoSem.ClaimSeven
namespace Go.Proofs.YtigamkdomdglhaaDoor
namespace Rows

/-- THE TIED CARD OF 'pillarboxlaw12.AddrMade'. -/
def addrMadeCard : Claim7 := { stood := { row := addrMadeRow, standIns := [], harness := (true, "34687b01be7b1272eafc85d1a40692c0f4da6b9b2df8fa0f68d033f050ce426b"), looks := false }, kinds := [], alts := [], laidByText := true, laidKinds := [.data, .pinned], laidTests := true, laidLooks := .later }
def AddrMadeCardSaid : Prop := Claim7.holds Tryd.pinned (.plain (OpenSpec.ofChange addrMadeSpec)) addrMadeCard

/-- THE TIED CARD OF 'pillarboxlaw12.AddrJoins'. -/
def addrJoinsCard : Claim7 := { stood := { row := addrJoinsRow, standIns := [], harness := (true, "34687b01be7b1272eafc85d1a40692c0f4da6b9b2df8fa0f68d033f050ce426b"), looks := false }, kinds := [], alts := [], laidByText := true, laidKinds := [.data, .pinned], laidTests := true, laidLooks := .later }
def AddrJoinsCardSaid : Prop := Claim7.holds Tryd.pinned (.plain (OpenSpec.ofChange addrJoinsSpec)) addrJoinsCard

/-- THE SECOND FORM's CARD OF 'pillarboxlaw12.AddrMade'. -/
def addrMadeUptoCard : Claim7 := { stood := { row := addrMadeUptoRow, standIns := [], harness := (true, "34687b01be7b1272eafc85d1a40692c0f4da6b9b2df8fa0f68d033f050ce426b"), looks := false }, kinds := [], alts := [], laidByText := true, laidKinds := [.data, .pinned], laidTests := true, laidLooks := .later }
def AddrMadeUptoCardSaid : Prop := Claim7.holds Tryd.pinned (.plain (OpenSpec.upto addrMadeSpec)) addrMadeUptoCard

/-- THE SECOND FORM's CARD OF 'pillarboxlaw12.AddrJoins'. -/
def addrJoinsUptoCard : Claim7 := { stood := { row := addrJoinsUptoRow, standIns := [], harness := (true, "34687b01be7b1272eafc85d1a40692c0f4da6b9b2df8fa0f68d033f050ce426b"), looks := false }, kinds := [], alts := [], laidByText := true, laidKinds := [.data, .pinned], laidTests := true, laidLooks := .later }
def AddrJoinsUptoCardSaid : Prop := Claim7.holds Tryd.pinned (.plain (OpenSpec.upto addrJoinsSpec)) addrJoinsUptoCard
end Rows
end Go.Proofs.YtigamkdomdglhaaDoor
