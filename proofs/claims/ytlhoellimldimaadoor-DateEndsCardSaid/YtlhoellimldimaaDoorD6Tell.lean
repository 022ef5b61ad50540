/-
  The document's answer for package date, as the statements have it: a number with noughts ahead, a month's letters, a second's texts. Conditions: none beyond int.
-/
import Derived.Test.YtlhoellimldimaaDoorD6Ref
import Derived.Test.YtlhoellimldimaaDoorRfDig
import Derived.Lib.TrimByte
namespace Go.Proofs.YtlhoellimldimaaDoor.D6
open Go Go.RowKit Go.Joins Kit Dg

theorem digs_data (n : Nat) : (digs (n : Int)).data.toList = Lib.decDigits n := by
  unfold digs
  rw [show ((n : Int)).toNat = n by omega]
set_option maxHeartbeats 400000 in
theorem rpad_any (n long : Nat) (hn : (n : Int) ≤ 1000000) (hl : (long : Int) ≤ 10) (w : World) :
    Calls Tryd.prog 39 #[.int .i64 n, .int .i64 long] w fun e w' => e = .returned (.string ⟨(padL n long).toArray⟩) ∧ Below w.heap.size w w' := by
  obtain ⟨d, hd⟩ : ∃ d, digs (n : Int) = d := ⟨_, rfl⟩
  have hs := digs_short (n := (n : Int)) (by omega)
  have hdd : d.data.toList = Lib.decDigits n := by rw [← hd, digs_data]
  rw [hd] at hs
  have HDD := Lib.hid hdd
  have HD := Lib.hid hd
  clear hdd hd
  go_enter Tryd.func39, Tryd.ntmps39
  go_wp2_with fail
  refine (Rf.digits_call n (by omega) (by omega) w).mono ?_
  rintro e w1 ⟨rfl, hb1⟩
  rw [HD.out]
  go_wp2_with fail
  go_loop [5] (fun v => ∃ (T : ByteArray) (j : Nat), v = .string T ∧ T.size = j + d.size ∧ j ≤ long - d.size ∧ Hid (T.data.toList = List.replicate j 48 ++ Lib.decDigits n)) (fun v => long - Lib.strSize v)
  case atStart => exact ⟨d, 0, rfl, by omega, by omega, Lib.hid (by rw [HDD.out]; rfl)⟩
  case round =>
    obtain ⟨T, j, rfl, hT, hj, HT⟩ := hrel
    have hts : T.size ≤ 100 := by omega
    by_cases hc : (T.size : Int) < long
    · have h1 : (⟨#[48]⟩ ++ T : ByteArray).size = T.size + 1 := by rw [ByteArray.size_append]; show 1 + T.size = _; omega
      have HN := Lib.hid (show (⟨#[48]⟩ ++ T : ByteArray).data.toList = List.replicate (j + 1) 48 ++ Lib.decDigits n by rw [data_append, HT.out, List.replicate_succ]; rfl)
      obtain ⟨T2, hT2⟩ : ∃ T2, (⟨#[48]⟩ ++ T : ByteArray) = T2 := ⟨_, rfl⟩
      rw [hT2] at HN h1
      have HT2 := Lib.hid hT2
      clear hT2
      go_wp2
      go_round
      case rel => exact ⟨T2, j + 1, by rw [← HT2.out], by omega, by omega, HN⟩
      case measure => simp only [Lib.strSize]; rw [HT2.out]; omega
    · have HF := Lib.hid (show T = ⟨(padL n long).toArray⟩ from bytes_ext (by
        have e : (Lib.decDigits n).length = d.size := by rw [Lib.size_eq, HDD.out]
        rw [HT.out, padL, e, show j = long - d.size by omega]))
      go_wp2
      go_ret
      exact ⟨by rw [← HF.out]; rfl, hb1⟩
theorem rpad_two {n : Nat} (hn : n < 100) (w : World) :
    Calls Tryd.prog 39 #[.int .i64 n, .int .i64 2] w fun e w' => e = .returned (.string ⟨(two n).toArray⟩) ∧ Below w.heap.size w w' := by
  have := rpad_any n 2 (by omega) (by omega) w
  rw [pad_two hn] at this
  exact this
theorem rpad_four {n : Nat} (h : 1000 ≤ n) (hn : n < 10000) (w : World) :
    Calls Tryd.prog 39 #[.int .i64 n, .int .i64 4] w fun e w' => e = .returned (.string ⟨(four n).toArray⟩) ∧ Below w.heap.size w w' := by
  have := rpad_any n 4 (by omega) (by omega) w
  rw [pad_four h hn] at this
  exact this
set_option maxHeartbeats 1000000 in
theorem rmonth_any (m : Nat) (h1 : 1 ≤ m) (h2 : m ≤ 12) (w : World) :
    Calls Tryd.prog 38 #[.int .i64 m] w fun e w' => e = .returned (.string ⟨(mon3 m).toArray⟩) ∧ w = w' := by
  go_enter Tryd.func38, Tryd.ntmps38
  rcases (show m = 1 ∨ m = 2 ∨ m = 3 ∨ m = 4 ∨ m = 5 ∨ m = 6 ∨ m = 7 ∨ m = 8 ∨ m = 9 ∨ m = 10 ∨ m = 11 ∨ m = 12 by omega) with rfl | rfl | rfl | rfl | rfl | rfl | rfl | rfl | rfl | rfl | rfl | rfl
  all_goals
    go_wp2
    go_ret
    exact ⟨rfl, rfl⟩
end Go.Proofs.YtlhoellimldimaaDoor.D6
