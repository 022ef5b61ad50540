/-
  The document's examples of package text hold at every start. Condition: the library's table reads as the program's text lays it.
-/
import Derived.Test.YtjhhaepmlllfaaaDoorTxStr
import Derived.Test.YtjhhaepmlllfaaaDoorTxNum
namespace Go.Proofs.YtjhhaepmlllfaaaDoor.Tx
open Go Go.RowKit

set_option maxHeartbeats 400000 in
theorem awake_any (w : World) (hE : Env w) :
    Calls Tryd.prog 11 #[] w fun e w' => e = .returned (.bool true) ∧ Below w.heap.size w w' := by
  have k1 : Hid (numL [48, 49] = none) := by show _ = _; decide
  have k2 : Hid (strL [97, 34, 98] = [34, 97, 92, 34, 98, 34]) := by show _ = _; decide
  have k3 : Hid (foldL [97, 66] = [97, 98]) := by show _ = _; decide
  go_enter Tryd.func11, Tryd.ntmps11
  go_wp2_with fail
  refine (number_any { data := #[48, 49] } w (by decide)).mono ?_
  rintro e w1 ⟨rfl, rfl⟩
  rw [show numL (ByteArray.mk #[48, 49]).data.toList = none from k1.out]
  simp only [numV]
  go_wp2_with fail
  refine (string_any { data := #[97, 34, 98] } w (by decide) hE).mono ?_
  rintro e w1 ⟨rfl, hb1⟩
  rw [show strL (ByteArray.mk #[97, 34, 98]).data.toList = [34, 97, 92, 34, 98, 34] from k2.out]
  go_wp2_with fail
  have hE1 := hE.next hb1
  refine (fold_any { data := #[97, 66] } w1 (by decide)).mono ?_
  rintro e w2 ⟨rfl, hb2⟩
  rw [show foldL (ByteArray.mk #[97, 66]).data.toList = [97, 98] from k3.out]
  go_wp2_with fail
  go_ret
  exact ⟨ret_bool (by decide), hb1.trans (hb2.mono hb1.size)⟩
end Go.Proofs.YtjhhaepmlllfaaaDoor.Tx
