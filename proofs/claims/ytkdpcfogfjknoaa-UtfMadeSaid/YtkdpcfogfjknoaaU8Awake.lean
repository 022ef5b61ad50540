/-
  The document's example of package utf8 holds at every start. Condition: none.
-/
import Derived.Test.YtkdpcfogfjknoaaU8Cut
namespace Go.Proofs.Ytkdpcfogfjknoaa.U8
open Go Go.RowKit Go.Joins Kit

set_option maxHeartbeats 400000 in
theorem awake_any (w : World) :
    Calls Try.prog 9 #[] w fun e w' => e = .returned (.bool true) ∧ Below w.heap.size w w' := by
  have k1 : Hid (decL ((ByteArray.mk #[195, 164]).data.toList.drop 0) = some (228, 2)) := by show _ = _; decide
  have k2 : Hid (putB 228 = ⟨#[195, 164]⟩) := by show _ = _; decide
  go_enter Try.func9, Try.ntmps9
  go_wp2_with fail
  refine (get_some (s := { data := #[195, 164] }) (a := 0) (r := 228) (n := 2) k1.out (show (2 : Nat) ≤ 140737488355328 by omega) w).mono ?_
  rintro e w1 ⟨rfl, rfl⟩
  go_wp2_with fail
  refine (put_any 228 w).mono ?_
  rintro e w1 ⟨rfl, hb⟩
  rw [k2.out]
  go_wp2
  go_ret
  exact ⟨rfl, hb⟩
theorem awake_tail (w w1 : World) (hb : Below w.heap.size w w1) :
    Calls Try.prog 9 #[] w1 fun e w' => e = .returned (.bool true) ∧ Below w.heap.size w w' :=
  (awake_any w1).mono fun _ _ h => ⟨h.1, hb.trans (h.2.mono hb.size)⟩
end Go.Proofs.Ytkdpcfogfjknoaa.U8
