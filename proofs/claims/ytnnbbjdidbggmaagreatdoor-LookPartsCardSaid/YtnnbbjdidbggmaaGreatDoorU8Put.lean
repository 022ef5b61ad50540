/-
  utf8.low, utf8.Put return a code point's lowest byte, its bytes, in new memory. Condition: the number is an int.
-/
import Derived.Test.YtnnbbjdidbggmaaGreatDoorU8Size
namespace Go.Proofs.YtnnbbjdidbggmaaGreatDoor.U8
open Go Go.RowKit Go.Joins Kit

theorem low_any (r : Int) (h0 : 0 ≤ r) (h1 : r ≤ 1114111) (w : World) :
    Calls Tryz.prog 97 #[.int .i64 r] w fun e w' => e = .returned (.int .u8 (128 + r % 64)) ∧ w = w' := by
  have e1 := and63 r (by omega) (by omega)
  have e2 := u8_or128 (r % 64) (by omega) (by omega)
  have g1 : 0 ≤ r % 64 := by omega
  have g2 : r % 64 ≤ 63 := by omega
  go_enter Tryz.func97, Tryz.ntmps97
  go_wp2
  go_ret
  exact ⟨ret_int (by omega), rfl⟩
set_option maxHeartbeats 400000 in
theorem put_any (r : Int) (w : World) :
    Calls Tryz.prog 58 #[.int .i64 r] w fun e w' => e = .returned (.string (putB r)) ∧ Below w.heap.size w w' := by
  rcases sizeN_cases r with h | h | h | h | h
  · have hs := Lib.hid h
    clear h
    go_enter Tryz.func58, Tryz.ntmps58
    go_wp2_with fail
    refine (size_any r w).mono ?_
    rintro e w1 ⟨rfl, rfl⟩
    rw [hs.out]
    go_wp2
    go_ret
    exact ⟨ret_string (by rw [putB, putL_none hs.out]), Below.refl _ _⟩
  · have hs := Lib.hid h
    have hr := sizeN_one.1 h
    obtain ⟨r0, r1⟩ := hr
    clear h
    have hc := Lib.hid (run_lit1 r r0 (by omega) w)
    go_enter Tryz.func58, Tryz.ntmps58
    go_wp2_with fail
    refine (size_any r w).mono ?_
    rintro e w1 ⟨rfl, rfl⟩
    rw [hs.out]
    have hcc := hc.out
    go_wp2
    go_ret
    exact ⟨ret_string (by rw [putB, putL_one hs.out]), (Below.refl _ w).alloc (Nat.le_refl _) _⟩
  · have hs := Lib.hid h
    have hr := sizeN_two.1 h
    have r0 : 0 ≤ r := by omega
    have r1 : r ≤ 1114111 := by omega
    have e1 := u8_or192 (r / 64) (by omega) (by omega)
    have q0 : 0 ≤ r / 64 := by omega
    have q1 : r / 64 ≤ 255 := by omega
    have hc := Lib.hid (run_lit2 (192 + r / 64) (128 + r % 64) (by omega) (by omega) (by omega) (by omega))
    clear h hr
    go_enter Tryz.func58, Tryz.ntmps58
    go_wp2_with fail
    refine (size_any r w).mono ?_
    rintro e w1 ⟨rfl, rfl⟩
    rw [hs.out]
    go_wp2_with fail
    refine (low_any r (by omega) (by omega) w).mono ?_
    rintro e w1 ⟨rfl, rfl⟩
    have hcc := hc.out w
    go_wp2
    go_ret
    exact ⟨ret_string (by rw [putB, putL_two hs.out]), (Below.refl _ w).alloc (Nat.le_refl _) _⟩
  · have hs := Lib.hid h
    have hr := sizeN_three.1 h
    have r0 : 0 ≤ r := by omega
    have r1 : r ≤ 1114111 := by omega
    have e1 := u8_or224 (r / 4096) (by omega) (by omega)
    have q0 : 0 ≤ r / 4096 := by omega
    have q1 : r / 4096 ≤ 255 := by omega
    have hc := Lib.hid (run_lit3 (224 + r / 4096) (128 + r / 64 % 64) (128 + r % 64) (by omega) (by omega) (by omega) (by omega) (by omega) (by omega))
    clear h hr
    go_enter Tryz.func58, Tryz.ntmps58
    go_wp2_with fail
    refine (size_any r w).mono ?_
    rintro e w1 ⟨rfl, rfl⟩
    rw [hs.out]
    go_wp2_with fail
    refine (low_any (r / 64) (by omega) (by omega) w).mono ?_
    rintro e w1 ⟨rfl, rfl⟩
    go_wp2_with fail
    refine (low_any r (by omega) (by omega) w).mono ?_
    rintro e w1 ⟨rfl, rfl⟩
    have hcc := hc.out w
    go_wp2
    go_ret
    exact ⟨ret_string (by rw [putB, putL_three hs.out]), (Below.refl _ w).alloc (Nat.le_refl _) _⟩
  · have hs := Lib.hid h
    have hr := sizeN_four.1 h
    have r0 : 0 ≤ r := by omega
    have r1 : r ≤ 1114111 := by omega
    have e1 := u8_or240 (r / 262144) (by omega) (by omega)
    have q0 : 0 ≤ r / 262144 := by omega
    have q1 : r / 262144 ≤ 255 := by omega
    have hc := Lib.hid (run_lit4 (240 + r / 262144) (128 + r / 4096 % 64) (128 + r / 64 % 64) (128 + r % 64) (by omega) (by omega) (by omega) (by omega) (by omega) (by omega) (by omega) (by omega))
    clear h hr
    go_enter Tryz.func58, Tryz.ntmps58
    go_wp2_with fail
    refine (size_any r w).mono ?_
    rintro e w1 ⟨rfl, rfl⟩
    rw [hs.out]
    go_wp2_with fail
    refine (low_any (r / 4096) (by omega) (by omega) w).mono ?_
    rintro e w1 ⟨rfl, rfl⟩
    go_wp2_with fail
    refine (low_any (r / 64) (by omega) (by omega) w).mono ?_
    rintro e w1 ⟨rfl, rfl⟩
    go_wp2_with fail
    refine (low_any r (by omega) (by omega) w).mono ?_
    rintro e w1 ⟨rfl, rfl⟩
    have hcc := hc.out w
    go_wp2
    go_ret
    exact ⟨ret_string (by rw [putB, putL_four hs.out]), (Below.refl _ w).alloc (Nat.le_refl _) _⟩
end Go.Proofs.YtnnbbjdidbggmaaGreatDoor.U8
