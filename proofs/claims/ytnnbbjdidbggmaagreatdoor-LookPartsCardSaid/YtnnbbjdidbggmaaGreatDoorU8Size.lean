/-
  utf8.size returns how many bytes a code point has. Condition: the number is an int.
-/
import Derived.Test.YtnnbbjdidbggmaaGreatDoorU8Kit
namespace Go.Proofs.YtnnbbjdidbggmaaGreatDoor.U8
open Go Go.RowKit Go.Joins Kit

theorem size_any (r : Int) (w : World) :
    Calls Tryz.prog 96 #[.int .i64 r] w fun e w' => e = .returned (.int .i64 (sizeN r : Nat)) ∧ w = w' := by
  rcases (show r < 0 ∨ (0 ≤ r ∧ 55296 ≤ r ∧ r ≤ 57343) ∨ (1114111 < r) ∨ (0 ≤ r ∧ r < 128) ∨ (128 ≤ r ∧ r < 2048) ∨ (2048 ≤ r ∧ r < 65536 ∧ r < 55296) ∨ (2048 ≤ r ∧ r < 65536 ∧ 57343 < r) ∨ (65536 ≤ r ∧ r ≤ 1114111) by omega) with h | ⟨h, h2, h3⟩ | h | ⟨h, h2⟩ | ⟨h, h2⟩ | ⟨h, h2, h3⟩ | ⟨h, h2, h3⟩ | ⟨h, h2⟩
  · have hs := Lib.hid (show sizeN r = 0 from sizeN_none.2 (by omega))
    go_enter Tryz.func96, Tryz.ntmps96
    go_wp2
    go_ret
    exact ⟨ret_int (by rw [hs.out]; rfl), rfl⟩
  · have hs := Lib.hid (show sizeN r = 0 from sizeN_none.2 (by omega))
    go_enter Tryz.func96, Tryz.ntmps96
    go_wp2
    go_ret
    exact ⟨ret_int (by rw [hs.out]; rfl), rfl⟩
  · have hs := Lib.hid (show sizeN r = 0 from sizeN_none.2 (by omega))
    go_enter Tryz.func96, Tryz.ntmps96
    go_wp2
    go_ret
    exact ⟨ret_int (by rw [hs.out]; rfl), rfl⟩
  · have hs := Lib.hid (show sizeN r = 1 from sizeN_one.2 (by omega))
    go_enter Tryz.func96, Tryz.ntmps96
    go_wp2
    go_ret
    exact ⟨ret_int (by rw [hs.out]; rfl), rfl⟩
  · have hs := Lib.hid (show sizeN r = 2 from sizeN_two.2 (by omega))
    go_enter Tryz.func96, Tryz.ntmps96
    go_wp2
    go_ret
    exact ⟨ret_int (by rw [hs.out]; rfl), rfl⟩
  · have hs := Lib.hid (show sizeN r = 3 from sizeN_three.2 (by omega))
    go_enter Tryz.func96, Tryz.ntmps96
    go_wp2
    go_ret
    exact ⟨ret_int (by rw [hs.out]; rfl), rfl⟩
  · have hs := Lib.hid (show sizeN r = 3 from sizeN_three.2 (by omega))
    go_enter Tryz.func96, Tryz.ntmps96
    go_wp2
    go_ret
    exact ⟨ret_int (by rw [hs.out]; rfl), rfl⟩
  · have hs := Lib.hid (show sizeN r = 4 from sizeN_four.2 (by omega))
    go_enter Tryz.func96, Tryz.ntmps96
    go_wp2
    go_ret
    exact ⟨ret_int (by rw [hs.out]; rfl), rfl⟩
end Go.Proofs.YtnnbbjdidbggmaaGreatDoor.U8
