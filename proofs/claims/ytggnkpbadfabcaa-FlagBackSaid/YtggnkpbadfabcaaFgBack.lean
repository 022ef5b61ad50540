/-
  The law FlagBack returns true, whatever it is handed. Conditions: none.
-/
import Derived.Test.YtggnkpbadfabcaaFgAwake
namespace Go.Proofs.Ytggnkpbadfabcaa.Fg
open Go Go.RowKit Go.Joins Kit

theorem flag_size (s : ByteArray) (h : s.size ≤ 300) : (⟨(flagL s.data.toList).toArray⟩ : ByteArray).size ≤ 309 := by
  have := flag_len s.data.toList
  rw [← Lib.size_eq] at this
  rw [Lib.size_eq]
  simp only
  omega
set_option maxHeartbeats 1000000 in
set_option maxRecDepth 100000 in
theorem flagBack_walk (a b : ByteArray) (w : World) :
    Calls Try.prog 4 #[.string a, .string b] w fun e w' => e = .returned (.bool true) ∧ Below w.heap.size w w' := by
  by_cases ha : 300 < a.size
  · have g : (300 : Int) < a.size := by omega
    go_enter Try.func4, Try.ntmps4
    go_wp2_with fail
    refine (awake_any w).mono ?_
    rintro e w1 ⟨rfl, hb1⟩
    go_wp2_with fail
    go_ret
    exact ⟨rfl, hb1⟩
  have g : (a.size : Int) ≤ 300 := by omega
  by_cases hb : 300 < b.size
  · have g' : (300 : Int) < b.size := by omega
    go_enter Try.func4, Try.ntmps4
    go_wp2_with fail
    refine (awake_any w).mono ?_
    rintro e w1 ⟨rfl, hb1⟩
    go_wp2_with fail
    go_ret
    exact ⟨rfl, hb1⟩
  have g' : (b.size : Int) ≤ 300 := by omega
  cases hra : rightL a.data.toList
  · have HA := Lib.hid hra
    clear hra
    go_enter Try.func4, Try.ntmps4
    go_wp2_with fail
    refine (right_any a w (by omega)).mono ?_
    rintro e w1 ⟨rfl, hb1⟩
    rw [HA.out]
    go_wp2_with fail
    refine (awake_any w1).mono ?_
    rintro e w2 ⟨rfl, hb2⟩
    go_wp2_with fail
    go_ret
    exact ⟨rfl, hb1.trans (hb2.mono hb1.size)⟩
  have HA := Lib.hid hra
  cases hrb : rightL b.data.toList
  · have HB := Lib.hid hrb
    clear hra hrb
    go_enter Try.func4, Try.ntmps4
    go_wp2_with fail
    refine (right_any a w (by omega)).mono ?_
    rintro e w1 ⟨rfl, hb1⟩
    rw [HA.out]
    go_wp2_with fail
    refine (right_any b w1 (by omega)).mono ?_
    rintro e w2 ⟨rfl, hb2⟩
    replace hb2 := hb1.trans (hb2.mono hb1.size)
    rw [HB.out]
    go_wp2_with fail
    refine (awake_any w2).mono ?_
    rintro e w3 ⟨rfl, hb3⟩
    go_wp2_with fail
    go_ret
    exact ⟨rfl, hb2.trans (hb3.mono hb2.size)⟩
  have HB := Lib.hid hrb
  obtain ⟨A, hA⟩ : ∃ A : ByteArray, (⟨(flagL a.data.toList).toArray⟩ : ByteArray) = A := ⟨_, rfl⟩
  obtain ⟨B, hB⟩ : ∃ B : ByteArray, (⟨(flagL b.data.toList).toArray⟩ : ByteArray) = B := ⟨_, rfl⟩
  have gA : A.size ≤ 309 := by rw [← hA]; exact flag_size a (by omega)
  have HFA : Hid (∀ W, Calls Try.prog 16 #[.string a] W fun e w' => e = .returned (.string A) ∧ Below W.heap.size W w') := Lib.hid (fun W => by rw [← hA]; exact flag_any a W (by omega))
  have HFB : Hid (∀ W, Calls Try.prog 16 #[.string b] W fun e w' => e = .returned (.string B) ∧ Below W.heap.size W w') := Lib.hid (fun W => by rw [← hB]; exact flag_any b W (by omega))
  have HK : Hid (∀ W, Calls Try.prog 10 #[.string A] W fun e w' => e = .returned (.tuple #[.string a, .bool true]) ∧ Below W.heap.size W w') := Lib.hid (fun W => by
    have h := key_any A W (by omega)
    rw [show A.data.toList = flagL a.data.toList by rw [← hA], key_flag hra] at h
    exact h)
  have HEQ : Hid ((A.toList == B.toList) = (a.toList == b.toList)) := Lib.hid (by
    rw [Lib.toList_data, Lib.toList_data, Lib.toList_data, Lib.toList_data, show A.data.toList = flagL a.data.toList by rw [← hA], show B.data.toList = flagL b.data.toList by rw [← hB], Bool.eq_iff_iff]
    simpa using flag_inj hra hrb)
  clear hra hrb hA hB
  go_enter Try.func4, Try.ntmps4
  go_wp2_with fail
  refine (right_any a w (by omega)).mono ?_
  rintro e w1 ⟨rfl, hb1⟩
  rw [HA.out]
  go_wp2_with fail
  refine (right_any b w1 (by omega)).mono ?_
  rintro e w2 ⟨rfl, hb2⟩
  replace hb2 := hb1.trans (hb2.mono hb1.size)
  rw [HB.out]
  go_wp2_with fail
  refine (HFA.out w2).mono ?_
  rintro e w3 ⟨rfl, hb3⟩
  replace hb3 := hb2.trans (hb3.mono hb2.size)
  go_wp2_with fail
  refine (HK.out w3).mono ?_
  rintro e w4 ⟨rfl, hb4⟩
  replace hb4 := hb3.trans (hb4.mono hb3.size)
  go_wp2_with fail
  refine (HFA.out w4).mono ?_
  rintro e w5 ⟨rfl, hb5⟩
  replace hb5 := hb4.trans (hb5.mono hb4.size)
  go_wp2_with fail
  refine (HFB.out w5).mono ?_
  rintro e w6 ⟨rfl, hb6⟩
  replace hb6 := hb5.trans (hb6.mono hb5.size)
  go_wp2_with fail
  refine (awake_any w6).mono ?_
  rintro e w7 ⟨rfl, hb7⟩
  replace hb7 := hb6.trans (hb7.mono hb6.size)
  go_wp2_with fail
  go_ret
  exact ⟨rfl, hb7⟩
end Go.Proofs.Ytggnkpbadfabcaa.Fg
