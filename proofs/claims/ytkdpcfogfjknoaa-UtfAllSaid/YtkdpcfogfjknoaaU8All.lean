/-
  The law UtfAll returns true: bytes of any number, the code point at any place, whether a text is valid, and its beginning, are the document's. Condition: the numbers are ints.
-/
import Derived.Test.YtkdpcfogfjknoaaU8RefCut
import Derived.Test.YtkdpcfogfjknoaaU8Awake
namespace Go.Proofs.Ytkdpcfogfjknoaa.U8
open Go Go.RowKit Go.Joins Kit

set_option maxHeartbeats 1000000 in
set_option maxRecDepth 100000 in
theorem utfAll_walk (s : ByteArray) (p n r : Int) (n1 : n ≤ 9223372036854775807) (w : World) :
    Calls Try.prog 3 #[.string s, .int .i64 p, .int .i64 n, .int .i64 r] w fun e w' => e = .returned (.bool true) ∧ Below w.heap.size w w' := by
  by_cases h : 3000 < s.size
  · have g : (3000 : Int) < s.size := by omega
    go_enter Try.func3, Try.ntmps3
    go_wp2_with fail
    refine (awake_any w).mono ?_
    rintro e w1 ⟨rfl, hb1⟩
    go_wp2
    go_ret
    exact ⟨rfl, hb1⟩
  have g : (s.size : Int) ≤ 3000 := by omega
  obtain ⟨x, y, hv⟩ : ∃ x y : Int, getV (decL (fromL s p)) p = .tuple #[.int .i64 x, .int .i64 y] := by
    cases decL (fromL s p) with
    | none => exact ⟨_, _, rfl⟩
    | some q => obtain ⟨a, b⟩ := q; exact ⟨_, _, rfl⟩
  have HV := Lib.hid hv
  clear hv
  go_enter Try.func3, Try.ntmps3
  go_wp2_with fail
  refine (get_any s p (by omega) w).mono ?_
  rintro e w' ⟨rfl, rfl⟩
  rw [HV.out]
  go_wp2_with fail
  refine (ref_get s p (by omega) w).mono ?_
  rintro e w1 ⟨rfl, hb⟩
  rw [HV.out]
  go_wp2_with fail
  refine (put_any r w1).mono ?_
  rintro e w2 ⟨rfl, hb2⟩
  replace hb := hb.trans (hb2.mono hb.size)
  clear hb2
  go_wp2_with fail
  refine (ref_put r w2).mono ?_
  rintro e w3 ⟨rfl, hb2⟩
  replace hb := hb.trans (hb2.mono hb.size)
  clear hb2
  go_wp2_with fail
  refine (valid_any s (by omega) w3).mono ?_
  rintro e w' ⟨rfl, rfl⟩
  go_wp2_with fail
  refine (rvalid_any s (by omega) w3).mono ?_
  rintro e w4 ⟨rfl, hb2⟩
  replace hb := hb.trans (hb2.mono hb.size)
  clear hb2
  go_wp2_with fail
  refine (cut_any s n n1 (by omega) w4).mono ?_
  rintro e w5 ⟨rfl, hb2⟩
  replace hb := hb.trans (hb2.mono hb.size)
  clear hb2
  go_wp2_with fail
  refine (rcut_any s n n1 (by omega) w5).mono ?_
  rintro e w6 ⟨rfl, hb2⟩
  replace hb := hb.trans (hb2.mono hb.size)
  clear hb2
  go_wp2_with fail
  refine (awake_tail w w6 hb).mono ?_
  rintro e w7 ⟨rfl, hb3⟩
  go_wp2
  go_ret
  exact ⟨rfl, hb3⟩
end Go.Proofs.Ytkdpcfogfjknoaa.U8
