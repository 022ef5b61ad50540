/-
  DERIVED. GIVEN WITH THE SEED: THE CARDS: each row of YtnnbbjdidbggmaaGreatDoorRows.lean that lists a variable, with what it lists TIED to the program's text (the seventh form; the later family's looks); each row that meets fmt, with fmt's text TOLD by the authors' own Lean function (tested against real Go, not proved from fmt's source: count such statements apart). THE CARD IS WHAT COUNTS. Prove the row's statement (the work); the ties are given (YtnnbbjdidbggmaaGreatDoorTie.lean); close each card by the builder's one call (the guide's Derived/Test/ToyasCard.lean, 'card_holds'). Laid BY PROGRAM, IN A SANDBOX (cutbox-door.mjs). By AI agents, Wed Nov 11 2026. No macro, syntax, notation, axiom, sorry.
-/
import Derived.Test.YtnnbbjdidbggmaaGreatDoorRows
import GoSem.ClaimSeven
namespace Go.Proofs.YtnnbbjdidbggmaaGreatDoor
namespace Rows

/-- THE TIED CARD OF 'pillarboxlaw14.LookSections'. -/
def lookSectionsCard : Claim7 := { stood := { row := lookSectionsRow, standIns := [], harness := (true, "ac385ed60add13d766bff54ef2dbd51bc7ac923ccd5dad90973af34a309e9511"), looks := false }, kinds := [], alts := [], laidByText := true, laidKinds := [.data, .data, .data, .data, .pinned], laidTests := true, laidLooks := .later }
def LookSectionsCardSaid : Prop := Claim7.holds Tryz.pinned (.plain (OpenSpec.ofChange lookSectionsSpec)) lookSectionsCard

/-- THE TIED CARD OF 'pillarboxlaw14.LookWhole'. -/
def lookWholeCard : Claim7 := { stood := { row := lookWholeRow, standIns := [], harness := (true, "ac385ed60add13d766bff54ef2dbd51bc7ac923ccd5dad90973af34a309e9511"), looks := false }, kinds := [], alts := [], laidByText := true, laidKinds := [.data, .data, .data, .data, .pinned], laidTests := true, laidLooks := .later }
def LookWholeCardSaid : Prop := Claim7.holds Tryz.pinned (.plain (OpenSpec.ofChange lookWholeSpec)) lookWholeCard

/-- THE TIED CARD OF 'pillarboxlaw14.LookPreviews'. -/
def lookPreviewsCard : Claim7 := { stood := { row := lookPreviewsRow, standIns := [], harness := (true, "ac385ed60add13d766bff54ef2dbd51bc7ac923ccd5dad90973af34a309e9511"), looks := false }, kinds := [], alts := [], laidByText := true, laidKinds := [.data, .data, .data, .data, .pinned], laidTests := true, laidLooks := .later }
def LookPreviewsCardSaid : Prop := Claim7.holds Tryz.pinned (.plain (OpenSpec.ofChange lookPreviewsSpec)) lookPreviewsCard

/-- THE TIED CARD OF 'pillarboxlaw14.LookBalanced'. -/
def lookBalancedCard : Claim7 := { stood := { row := lookBalancedRow, standIns := [], harness := (true, "ac385ed60add13d766bff54ef2dbd51bc7ac923ccd5dad90973af34a309e9511"), looks := false }, kinds := [], alts := [], laidByText := true, laidKinds := [.data, .data, .data, .data, .pinned], laidTests := true, laidLooks := .later }
def LookBalancedCardSaid : Prop := Claim7.holds Tryz.pinned (.plain (OpenSpec.ofChange lookBalancedSpec)) lookBalancedCard

/-- THE TIED CARD OF 'pillarboxlaw14.LookParts'. -/
def lookPartsCard : Claim7 := { stood := { row := lookPartsRow, standIns := [], harness := (true, "ac385ed60add13d766bff54ef2dbd51bc7ac923ccd5dad90973af34a309e9511"), looks := false }, kinds := [], alts := [], laidByText := true, laidKinds := [.data, .data, .data, .data, .pinned], laidTests := true, laidLooks := .later }
def LookPartsCardSaid : Prop := Claim7.holds Tryz.pinned (.plain (OpenSpec.ofChange lookPartsSpec)) lookPartsCard

/-- THE TIED CARD OF 'pillarboxlaw14.LookMade'. -/
def lookMadeCard : Claim7 := { stood := { row := lookMadeRow, standIns := [], harness := (true, "ac385ed60add13d766bff54ef2dbd51bc7ac923ccd5dad90973af34a309e9511"), looks := false }, kinds := [], alts := [], laidByText := true, laidKinds := [.data, .data, .data, .data, .pinned], laidTests := true, laidLooks := .later }
def LookMadeCardSaid : Prop := Claim7.holds Tryz.pinned (.plain (OpenSpec.ofChange lookMadeSpec)) lookMadeCard

/-- THE TIED CARD OF 'pillarboxlaw14.LookTexts'. -/
def lookTextsCard : Claim7 := { stood := { row := lookTextsRow, standIns := [], harness := (true, "ac385ed60add13d766bff54ef2dbd51bc7ac923ccd5dad90973af34a309e9511"), looks := false }, kinds := [], alts := [], laidByText := true, laidKinds := [.data, .data, .data, .data, .pinned], laidTests := true, laidLooks := .later }
def LookTextsCardSaid : Prop := Claim7.holds Tryz.pinned (.plain (OpenSpec.ofChange lookTextsSpec)) lookTextsCard

/-- THE SECOND FORM's CARD OF 'pillarboxlaw14.LookSections'. -/
def lookSectionsUptoCard : Claim7 := { stood := { row := lookSectionsUptoRow, standIns := [], harness := (true, "ac385ed60add13d766bff54ef2dbd51bc7ac923ccd5dad90973af34a309e9511"), looks := false }, kinds := [], alts := [], laidByText := true, laidKinds := [.data, .data, .data, .data, .pinned], laidTests := true, laidLooks := .later }
def LookSectionsUptoCardSaid : Prop := Claim7.holds Tryz.pinned (.plain (OpenSpec.upto lookSectionsSpec)) lookSectionsUptoCard

/-- THE SECOND FORM's CARD OF 'pillarboxlaw14.LookWhole'. -/
def lookWholeUptoCard : Claim7 := { stood := { row := lookWholeUptoRow, standIns := [], harness := (true, "ac385ed60add13d766bff54ef2dbd51bc7ac923ccd5dad90973af34a309e9511"), looks := false }, kinds := [], alts := [], laidByText := true, laidKinds := [.data, .data, .data, .data, .pinned], laidTests := true, laidLooks := .later }
def LookWholeUptoCardSaid : Prop := Claim7.holds Tryz.pinned (.plain (OpenSpec.upto lookWholeSpec)) lookWholeUptoCard

/-- THE SECOND FORM's CARD OF 'pillarboxlaw14.LookPreviews'. -/
def lookPreviewsUptoCard : Claim7 := { stood := { row := lookPreviewsUptoRow, standIns := [], harness := (true, "ac385ed60add13d766bff54ef2dbd51bc7ac923ccd5dad90973af34a309e9511"), looks := false }, kinds := [], alts := [], laidByText := true, laidKinds := [.data, .data, .data, .data, .pinned], laidTests := true, laidLooks := .later }
def LookPreviewsUptoCardSaid : Prop := Claim7.holds Tryz.pinned (.plain (OpenSpec.upto lookPreviewsSpec)) lookPreviewsUptoCard

/-- THE SECOND FORM's CARD OF 'pillarboxlaw14.LookBalanced'. -/
def lookBalancedUptoCard : Claim7 := { stood := { row := lookBalancedUptoRow, standIns := [], harness := (true, "ac385ed60add13d766bff54ef2dbd51bc7ac923ccd5dad90973af34a309e9511"), looks := false }, kinds := [], alts := [], laidByText := true, laidKinds := [.data, .data, .data, .data, .pinned], laidTests := true, laidLooks := .later }
def LookBalancedUptoCardSaid : Prop := Claim7.holds Tryz.pinned (.plain (OpenSpec.upto lookBalancedSpec)) lookBalancedUptoCard

/-- THE SECOND FORM's CARD OF 'pillarboxlaw14.LookParts'. -/
def lookPartsUptoCard : Claim7 := { stood := { row := lookPartsUptoRow, standIns := [], harness := (true, "ac385ed60add13d766bff54ef2dbd51bc7ac923ccd5dad90973af34a309e9511"), looks := false }, kinds := [], alts := [], laidByText := true, laidKinds := [.data, .data, .data, .data, .pinned], laidTests := true, laidLooks := .later }
def LookPartsUptoCardSaid : Prop := Claim7.holds Tryz.pinned (.plain (OpenSpec.upto lookPartsSpec)) lookPartsUptoCard

/-- THE SECOND FORM's CARD OF 'pillarboxlaw14.LookMade'. -/
def lookMadeUptoCard : Claim7 := { stood := { row := lookMadeUptoRow, standIns := [], harness := (true, "ac385ed60add13d766bff54ef2dbd51bc7ac923ccd5dad90973af34a309e9511"), looks := false }, kinds := [], alts := [], laidByText := true, laidKinds := [.data, .data, .data, .data, .pinned], laidTests := true, laidLooks := .later }
def LookMadeUptoCardSaid : Prop := Claim7.holds Tryz.pinned (.plain (OpenSpec.upto lookMadeSpec)) lookMadeUptoCard

/-- THE SECOND FORM's CARD OF 'pillarboxlaw14.LookTexts'. -/
def lookTextsUptoCard : Claim7 := { stood := { row := lookTextsUptoRow, standIns := [], harness := (true, "ac385ed60add13d766bff54ef2dbd51bc7ac923ccd5dad90973af34a309e9511"), looks := false }, kinds := [], alts := [], laidByText := true, laidKinds := [.data, .data, .data, .data, .pinned], laidTests := true, laidLooks := .later }
def LookTextsUptoCardSaid : Prop := Claim7.holds Tryz.pinned (.plain (OpenSpec.upto lookTextsSpec)) lookTextsUptoCard
end Rows
end Go.Proofs.YtnnbbjdidbggmaaGreatDoor
