/-
  Plain facts on dates: the first second's texts, the last one's, the document's example. No program in this text. Conditions: none.
-/
import Derived.Test.YtlhoellimldimaaDoorD6Txt
namespace Go.Proofs.YtlhoellimldimaaDoor.D6
open Go

theorem at_first : yr 0 = 1970 ∧ mo 0 = 1 ∧ dy 0 = 1 := date_of (by decide) (by decide)
theorem at_last : yr 253402300799 = 9999 ∧ mo 253402300799 = 12 ∧ dy 253402300799 = 31 := date_of (by decide) (by decide)
theorem imap_first : imapL 0 = [32, 49, 45, 74, 97, 110, 45, 49, 57, 55, 48, 32, 48, 48, 58, 48, 48, 58, 48, 48, 32, 43, 48, 48, 48, 48] := by
  unfold imapL
  rw [at_first.1, at_first.2.1, at_first.2.2]
  decide +kernel
theorem rfc_first : rfcL 0 = [49, 57, 55, 48, 45, 48, 49, 45, 48, 49, 84, 48, 48, 58, 48, 48, 58, 48, 48, 90] := by
  unfold rfcL
  rw [at_first.1, at_first.2.1, at_first.2.2]
  decide +kernel
theorem rfc_last : rfcL 253402300799 = [57, 57, 57, 57, 45, 49, 50, 45, 51, 49, 84, 50, 51, 58, 53, 57, 58, 53, 57, 90] := by
  unfold rfcL
  rw [at_last.1, at_last.2.1, at_last.2.2]
  decide +kernel
theorem example_read : rimapL [48, 49, 45, 74, 97, 110, 45, 49, 57, 55, 48, 32, 48, 49, 58, 48, 48, 58, 48, 48, 32, 43, 48, 49, 48, 48] = some 0 := by decide +kernel
end Go.Proofs.YtlhoellimldimaaDoor.D6
