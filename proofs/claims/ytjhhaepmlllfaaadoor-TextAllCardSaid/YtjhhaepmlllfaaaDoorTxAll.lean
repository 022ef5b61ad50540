/-
  The law TextAll returns true: folded letters, digits, atoms, IMAP's texts of any bytes, and whether one has another in it, are the document's. Condition: the number is an int; the library's table and bound read as the program's text lays them.
-/
import Derived.Test.YtjhhaepmlllfaaaDoorR1Str
namespace Go.Proofs.YtjhhaepmlllfaaaDoor.Tx
open Go Go.RowKit Go.Joins

set_option maxHeartbeats 2000000 in
set_option maxRecDepth 100000 in
theorem textAll_walk (s sub : ByteArray) (n : Int) (n0 : -9223372036854775808 ≤ n) (n1 : n ≤ 9223372036854775807) (w : World) (hE : Env w) :
    Calls Tryd.prog 3 #[.string s, .string sub, .int .i64 n] w fun e w' => e = .returned (.bool true) ∧ Below w.heap.size w w' := by
  rcases (show 3000 < s.size ∨ (s.size ≤ 3000 ∧ 300 < sub.size) ∨ (s.size ≤ 3000 ∧ sub.size ≤ 300) by omega) with h | ⟨h, h'⟩ | ⟨h, h'⟩
  · have g : (3000 : Int) < s.size := by omega
    go_enter Tryd.func3, Tryd.ntmps3
    go_wp2_with fail
    refine (awake_any w hE).mono ?_
    rintro e w1 ⟨rfl, hb1⟩
    go_wp2
    go_ret
    exact ⟨rfl, hb1⟩
  · have g : (s.size : Int) ≤ 3000 := by omega
    have g' : (300 : Int) < sub.size := by omega
    go_enter Tryd.func3, Tryd.ntmps3
    go_wp2_with fail
    refine (awake_any w hE).mono ?_
    rintro e w1 ⟨rfl, hb1⟩
    go_wp2
    go_ret
    exact ⟨rfl, hb1⟩
  have g : (s.size : Int) ≤ 3000 := by omega
  have g' : (sub.size : Int) ≤ 300 := by omega
  go_enter Tryd.func3, Tryd.ntmps3
  go_wp2_with fail
  refine (number_any s w (by omega)).mono ?_
  rintro e w' ⟨rfl, rfl⟩
  obtain ⟨nv, nb, hnv⟩ : ∃ (nv : Int) (nb : Bool), numV (numL s.data.toList) = .tuple #[.int .i64 nv, .bool nb] := ⟨_, _, rfl⟩
  rw [hnv]
  have HNV := Lib.hid hnv
  clear hnv
  go_wp2_with fail
  refine (R1.number_any s w).mono ?_
  rintro e w' ⟨rfl, rfl⟩
  rw [HNV.out]
  go_wp2_with fail
  refine (fold_call s w (by omega)).mono ?_
  rintro e w1 ⟨rfl, hb⟩
  go_wp2_with fail
  refine (R1.fold_call s w1 (by omega)).mono ?_
  rintro e w2 ⟨rfl, hb2⟩
  replace hb := hb.trans (hb2.mono hb.size)
  clear hb2
  go_wp2_with fail
  refine (digs_call n (by omega) (by omega) _ (hE.next hb)).mono ?_
  rintro e w3 ⟨rfl, hb2⟩
  replace hb := hb.trans (hb2.mono hb.size)
  clear hb2
  go_wp2_with fail
  refine (R1.digits_call n (by omega) (by omega) _).mono ?_
  rintro e w4 ⟨rfl, hb2⟩
  replace hb := hb.trans (hb2.mono hb.size)
  clear hb2
  go_wp2_with fail
  refine (atom_any s w4 (by omega)).mono ?_
  rintro e w' ⟨rfl, rfl⟩
  go_wp2_with fail
  refine (R1.atom_any s w4 (by omega)).mono ?_
  rintro e w' ⟨rfl, rfl⟩
  go_wp2_with fail
  refine (strB_call s w4 (by omega) (hE.next hb)).mono ?_
  rintro e w5 ⟨rfl, hb2⟩
  replace hb := hb.trans (hb2.mono hb.size)
  clear hb2
  go_wp2_with fail
  refine (R1.string_call s w5 (by omega)).mono ?_
  rintro e w6 ⟨rfl, hb2⟩
  replace hb := hb.trans (hb2.mono hb.size)
  clear hb2
  go_wp2_with fail
  refine (in_call s sub w6 (by omega) (by omega) (hE.next hb)).mono ?_
  rintro e w7 ⟨rfl, hb2⟩
  replace hb := hb.trans (hb2.mono hb.size)
  clear hb2
  go_wp2_with fail
  refine (R1.in_any s sub w7 (by omega) (by omega)).mono ?_
  rintro e w8 ⟨rfl, hb2⟩
  replace hb := hb.trans (hb2.mono hb.size)
  clear hb2
  go_wp2_with fail
  refine (awake_tail w w8 hE hb).mono ?_
  rintro e w9 ⟨rfl, hb3⟩
  go_wp2
  go_ret
  first | exact ⟨rfl, hb3⟩ | exact ⟨ret_bool (by simp), hb3⟩
end Go.Proofs.YtjhhaepmlllfaaaDoor.Tx
