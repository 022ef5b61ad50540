/-
  The law TextNumbers returns true: the digits of a number are read as it; of a greater one than there may be they are not. Condition: the numbers are a uint32 and a uint16; the library's table reads as the program's text lays it.
-/
import Derived.Test.YtjhhaepmlllfaaaDoorTxDig
namespace Go.Proofs.YtjhhaepmlllfaaaDoor.Tx
open Go Go.RowKit Go.Joins

theorem digs_data (n : Int) : (digs n).data.toList = Lib.decDigits n.toNat := rfl
theorem num_of_digs {n : Int} (h0 : 0 ≤ n) (h : n ≤ 4294967295) : numV (numL (digs n).data.toList) = .tuple #[.int .i64 n, .bool true] := by
  rw [digs_data, num_digits (by omega)]
  unfold numV
  simp
  omega
theorem num_of_great {n : Int} (h : 4294967295 < n) : numV (numL (digs n).data.toList) = .tuple #[.int .i64 0, .bool false] := by
  rw [digs_data, num_digits_great (by omega)]
  rfl
theorem num_of_nought (n : Int) : numV (numL (({ data := #[48] } : ByteArray) ++ digs n).data.toList) = .tuple #[.int .i64 0, .bool false] := by
  rw [data_append, digs_data]
  show numV (numL (48 :: Lib.decDigits n.toNat)) = _
  rw [num_nought (digits_ne _)]
  rfl

set_option maxHeartbeats 1000000 in
set_option maxRecDepth 100000 in
theorem textNumbers_walk (n m : Int) (h0 : 0 ≤ n) (h1 : n ≤ 4294967295) (m0 : 0 ≤ m) (m1 : m ≤ 65535) (w : World) (hE : Env w) :
    Calls Tryd.prog 4 #[.int .u32 n, .int .u16 m] w fun e w' => e = .returned (.bool true) ∧ Below w.heap.size w w' := by
  have hs1 := digs_short (n := n) (by omega)
  have hs2 := digs_short (n := 4294967296 + m) (by omega)
  go_enter Tryd.func4, Tryd.ntmps4
  go_wp2_with fail
  refine (digs_call n (by omega) (by omega) _ hE).mono ?_
  rintro e w1 ⟨rfl, hb1⟩
  go_wp2_with fail
  refine (number_any (digs n) w1 (by omega)).mono ?_
  rintro e w1' ⟨rfl, rfl⟩
  rw [num_of_digs h0 h1]
  go_wp2_with fail
  refine (digs_call (4294967296 + m) (by omega) (by omega) _ (hE.next hb1)).mono ?_
  rintro e w2 ⟨rfl, hb2⟩
  replace hb2 := hb1.trans (hb2.mono hb1.size)
  go_wp2_with fail
  refine (number_any (digs (4294967296 + m)) w2 (by omega)).mono ?_
  rintro e w2' ⟨rfl, rfl⟩
  rw [num_of_great (by omega)]
  go_wp2_with fail
  refine (digs_call n (by omega) (by omega) _ (hE.next hb2)).mono ?_
  rintro e w3 ⟨rfl, hb3⟩
  replace hb3 := hb2.trans (hb3.mono hb2.size)
  go_wp2_with fail
  refine (number_any _ w3 ?hx).mono ?_
  case hx => rw [ByteArray.size_append]; show 1 + (digs n).size ≤ _; omega
  rintro e w3' ⟨rfl, rfl⟩
  rw [num_of_nought n]
  go_wp2_with fail
  refine (awake_tail w w3 hE hb3).mono ?_
  rintro e w4 ⟨rfl, hb4⟩
  go_wp2
  go_ret
  exact ⟨rfl, hb4⟩
end Go.Proofs.YtjhhaepmlllfaaaDoor.Tx
