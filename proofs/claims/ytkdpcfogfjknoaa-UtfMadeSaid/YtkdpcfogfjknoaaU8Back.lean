/-
  The law UtfBack returns true: the bytes of a code point are read as it, wherever they stand, and are valid; halves of pairs, and numbers beyond, have none. Condition: the number is a uint32.
-/
import Derived.Test.YtkdpcfogfjknoaaU8Awake
namespace Go.Proofs.Ytkdpcfogfjknoaa.U8
open Go Go.RowKit Go.Joins Kit

theorem app_data (a b : ByteArray) : (a ++ b).data.toList = a.data.toList ++ b.data.toList := by simp
theorem putB_data (r : Int) : (putB r).data.toList = putL r := rfl
theorem putB_size (r : Int) : (putB r).size = sizeN r := by rw [Lib.size_eq, putB_data, putL_length]
theorem putB_none {r : Int} (h : sizeN r = 0) : putB r = ⟨#[]⟩ := by unfold putB; rw [putL_none h]
theorem dec_mid (a b : ByteArray) (r : Int) (h : sizeN r ≠ 0) : decL ((a ++ putB r ++ b).data.toList.drop a.size) = some (r.toNat, sizeN r) := by
  rw [app_data, app_data, putB_data, List.append_assoc, Lib.size_eq, List.drop_left]
  exact decL_put r h _

set_option maxHeartbeats 1000000 in
set_option maxRecDepth 100000 in
theorem utfBack_walk (x : Int) (a b : ByteArray) (x0 : 0 ≤ x) (x1 : x ≤ 4294967295) (w : World) :
    Calls Try.prog 4 #[.int .u32 x, .string a, .string b] w fun e w' => e = .returned (.bool true) ∧ Below w.heap.size w w' := by
  rcases (show 100 < a.size ∨ (a.size ≤ 100 ∧ 100 < b.size) ∨ (a.size ≤ 100 ∧ b.size ≤ 100) by omega) with h | ⟨h, h'⟩ | ⟨h, h'⟩
  · have g : (100 : Int) < a.size := by omega
    go_enter Try.func4, Try.ntmps4
    go_wp2_with fail
    refine (awake_any w).mono ?_
    rintro e w1 ⟨rfl, hb1⟩
    go_wp2
    go_ret
    exact ⟨rfl, hb1⟩
  · have g : (a.size : Int) ≤ 100 := by omega
    have g' : (100 : Int) < b.size := by omega
    go_enter Try.func4, Try.ntmps4
    go_wp2_with fail
    refine (awake_any w).mono ?_
    rintro e w1 ⟨rfl, hb1⟩
    go_wp2
    go_ret
    exact ⟨rfl, hb1⟩
  have g : (a.size : Int) ≤ 100 := by omega
  have g' : (b.size : Int) ≤ 100 := by omega
  obtain ⟨k, hk⟩ : ∃ k : Int, x % 1114112 = k := ⟨_, rfl⟩
  have k0 : 0 ≤ k := by omega
  have k1 : k < 1114112 := by omega
  have HK := Lib.hid hk
  clear hk
  by_cases hs : 55296 ≤ k ∧ k ≤ 57343
  · have p1 := Lib.hid (putB_none (r := k) (sizeN_none.2 (by omega)))
    have p2 := Lib.hid (putB_none (r := 1114112 + k) (sizeN_none.2 (by omega)))
    obtain ⟨s1, s2⟩ := hs
    have i1 : (55296 : Int) ≤ k := by omega
    have i2 : k ≤ 57343 := by omega
    go_enter Try.func4, Try.ntmps4
    go_wp2_with fail
    rw [HK.out]
    refine (put_any k w).mono ?_
    rintro e w1 ⟨rfl, hb⟩
    rw [p1.out]
    go_wp2_with fail
    refine (put_any (1114112 + k) w1).mono ?_
    rintro e w2 ⟨rfl, hb2⟩
    rw [p2.out]
    replace hb := hb.trans (hb2.mono hb.size)
    clear hb2
    go_wp2_with fail
    refine (awake_tail w w2 hb).mono ?_
    rintro e w3 ⟨rfl, hb1⟩
    go_wp2
    go_ret
    exact ⟨rfl, hb1⟩
  · have p1 := Lib.hid (putB_none (r := -1 - k) (sizeN_none.2 (by omega)))
    have hnz : sizeN k ≠ 0 := fun e => by have := sizeN_none.1 e; omega
    have hd := Lib.hid (dec_mid a b k hnz)
    have hv := Lib.hid (show validL (putB k).data.toList = true from validL_put _)
    have hz := putB_size k
    have hz4 := sizeN_le k
    have hsz : (a ++ putB k ++ b).size ≤ 140737488355328 := by
      rw [ByteArray.size_append, ByteArray.size_append]; omega
    have HZ := Lib.hid hz
    have hp4 := Lib.hid (show (putB k).size ≤ 4 by omega)
    have HSZ := Lib.hid hsz
    clear hz hz4 hsz
    rcases (show k < 55296 ∨ ((55296 : Int) ≤ k ∧ (57343 : Int) < k) by omega) with i1 | ⟨i1, i2⟩
    all_goals
      clear hs hnz
      go_enter Try.func4, Try.ntmps4
      go_wp2_with fail
      rw [HK.out]
      refine (put_any k w).mono ?_
      rintro e w1 ⟨rfl, hb⟩
      generalize putB k = q at hd hv HZ hp4 HSZ ⊢
      have hq4 := hp4.out
      go_wp2_with fail
      refine (get_some hd.out HSZ.out w1).mono ?_
      rintro e w' ⟨rfl, rfl⟩
      rw [show ((k.toNat : Nat) : Int) = k by omega, ← HZ.out]
      go_wp2_with fail
      refine (valid_any q (by omega) w1).mono ?_
      rintro e w' ⟨rfl, rfl⟩
      rw [hv.out]
      go_wp2_with fail
      refine (put_any (-1 - k) w1).mono ?_
      rintro e w2 ⟨rfl, hb2⟩
      rw [p1.out]
      replace hb := hb.trans (hb2.mono hb.size)
      clear hb2
      go_wp2_with fail
      refine (awake_tail w w2 hb).mono ?_
      rintro e w3 ⟨rfl, hb1⟩
      go_wp2
      go_ret
      exact ⟨rfl, hb1⟩
end Go.Proofs.Ytkdpcfogfjknoaa.U8
