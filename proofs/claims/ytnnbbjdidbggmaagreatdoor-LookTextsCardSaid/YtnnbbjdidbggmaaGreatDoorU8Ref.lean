/-
  The document's answer for package utf8, as the statements have it: Put returns what the program's does. Condition: the number is an int.
-/
import Derived.Test.YtnnbbjdidbggmaaGreatDoorU8Kit
import Derived.Deep.QuietTactic
import Derived.BigQuiet
import Derived.StillTailTactics
namespace Go.Proofs.YtnnbbjdidbggmaaGreatDoor.U8
open Go Go.RowKit Go.Joins Kit

theorem or4 (x y : Int) (h0 : 0 ≤ x) (h1 : x < 4611686018427387904) (h2 : x % 16 = 0) (h3 : 0 ≤ y) (h4 : y < 16) : bits .or .i64 x y = x + y :=
  bits_join .i64 62 (by decide) wraps_i64 4 x y h0 h2 (by omega) h3 h4 (by omega)
theorem or3 (x y : Int) (h0 : 0 ≤ x) (h1 : x < 4611686018427387904) (h2 : x % 8 = 0) (h3 : 0 ≤ y) (h4 : y < 8) : bits .or .i64 x y = x + y :=
  bits_join .i64 62 (by decide) wraps_i64 3 x y h0 h2 (by omega) h3 h4 (by omega)
theorem and31 (r : Int) (h0 : 0 ≤ r) (h1 : r < 4611686018427387904) : bits .and .i64 r 31 = r % 32 := bits_mask .i64 62 (by decide) wraps_i64 5 (by decide) r h0 (by omega)
theorem and15 (r : Int) (h0 : 0 ≤ r) (h1 : r < 4611686018427387904) : bits .and .i64 r 15 = r % 16 := bits_mask .i64 62 (by decide) wraps_i64 4 (by decide) r h0 (by omega)
theorem and7 (r : Int) (h0 : 0 ≤ r) (h1 : r < 4611686018427387904) : bits .and .i64 r 7 = r % 8 := bits_mask .i64 62 (by decide) wraps_i64 3 (by decide) r h0 (by omega)
set_option maxHeartbeats 1000000 in
set_option maxRecDepth 100000 in
theorem ref_put (r : Int) (w : World) :
    Calls Tryz.prog 62 #[.int .i64 r] w fun e w' => e = .returned (.string (putB r)) ∧ Below w.heap.size w w' := by
  rcases sizeN_cases r with h | h | h | h | h
  · have hs := Lib.hid h
    rcases (show r < 0 ∨ (0 ≤ r ∧ 1114111 < r) ∨ (0 ≤ r ∧ r ≤ 1114111 ∧ 55296 ≤ r ∧ r ≤ 57343) by have := sizeN_none.1 h; omega) with h1 | ⟨h1, h2⟩ | ⟨h1, h2, h3, h4⟩
    all_goals
      clear h
      go_enter Tryz.func62, Tryz.ntmps62
      go_wp2
      go_ret
      exact ⟨ret_string (by rw [putB, putL_none hs.out]), Below.refl _ _⟩
  · have hs := Lib.hid h
    obtain ⟨r0, r1⟩ := sizeN_one.1 h
    clear h
    have hc := run_lit1 r r0 (by omega) w
    go_enter Tryz.func62, Tryz.ntmps62
    go_wp2
    go_ret
    exact ⟨ret_string (by rw [putB, putL_one hs.out]), (Below.refl _ w).alloc (Nat.le_refl _) _⟩
  · have hs := Lib.hid h
    obtain ⟨r0, r1⟩ := sizeN_two.1 h
    clear h
    have e1 := or6 192 (r / 64) (by omega) (by omega) (by omega) (by omega) (by omega)
    have e2 := and63 r (by omega) (by omega)
    have e3 := or6 128 (r % 64) (by omega) (by omega) (by omega) (by omega) (by omega)
    have hc := run_lit2 (192 + r / 64) (128 + r % 64) (by omega) (by omega) (by omega) (by omega) w
    go_enter Tryz.func62, Tryz.ntmps62
    go_wp2
    go_ret
    exact ⟨ret_string (by rw [putB, putL_two hs.out]), (Below.refl _ w).alloc (Nat.le_refl _) _⟩
  · have hs := Lib.hid h
    have hr := sizeN_three.1 h
    have r0 : 2048 ≤ r := by omega
    have r1 : r < 65536 := by omega
    have e1 := or4 224 (r / 4096) (by omega) (by omega) (by omega) (by omega) (by omega)
    have e2 := and63 r (by omega) (by omega)
    have e3 := or6 128 (r % 64) (by omega) (by omega) (by omega) (by omega) (by omega)
    have e4 := and63 (r / 64) (by omega) (by omega)
    have e5 := or6 128 (r / 64 % 64) (by omega) (by omega) (by omega) (by omega) (by omega)
    have hc := run_lit3 (224 + r / 4096) (128 + r / 64 % 64) (128 + r % 64) (by omega) (by omega) (by omega) (by omega) (by omega) (by omega) w
    rcases (show r < 55296 ∨ (55296 ≤ r ∧ 57343 < r) by omega) with h1 | ⟨h1, h2⟩
    all_goals
      clear h hr
      go_enter Tryz.func62, Tryz.ntmps62
      go_wp2
      go_ret
      exact ⟨ret_string (by rw [putB, putL_three hs.out]), (Below.refl _ w).alloc (Nat.le_refl _) _⟩
  · have hs := Lib.hid h
    obtain ⟨r0, r1⟩ := sizeN_four.1 h
    clear h
    have e1 := or3 240 (r / 262144) (by omega) (by omega) (by omega) (by omega) (by omega)
    have e2 := and63 r (by omega) (by omega)
    have e3 := or6 128 (r % 64) (by omega) (by omega) (by omega) (by omega) (by omega)
    have e4 := and63 (r / 64) (by omega) (by omega)
    have e5 := or6 128 (r / 64 % 64) (by omega) (by omega) (by omega) (by omega) (by omega)
    have e6 := and63 (r / 4096) (by omega) (by omega)
    have e7 := or6 128 (r / 4096 % 64) (by omega) (by omega) (by omega) (by omega) (by omega)
    have hc := run_lit4 (240 + r / 262144) (128 + r / 4096 % 64) (128 + r / 64 % 64) (128 + r % 64) (by omega) (by omega) (by omega) (by omega) (by omega) (by omega) (by omega) (by omega) w
    go_enter Tryz.func62, Tryz.ntmps62
    go_wp2
    go_ret
    exact ⟨ret_string (by rw [putB, putL_four hs.out]), (Below.refl _ w).alloc (Nat.le_refl _) _⟩
end Go.Proofs.YtnnbbjdidbggmaaGreatDoor.U8
