/-
  The law QuotedPlain returns true: a text without the sign of equality is decoded as it stands, soft ends of lines go. Conditions: the bound of the library's search is some number.
-/
import Derived.Test.YtdfjkncfbcmleaaQ4Laws
namespace Go.Proofs.Ytdfjkncfbcmleaa.Q4
open Go Go.RowKit Go.Joins Kit Srch

theorem take_ne {s : ByteArray} {k : Nat} (h : k < s.size) (hk : ∀ c ∈ s.data.toList.take k, c ≠ 61) (hc : s[k].toNat ≠ 61) : ∀ c ∈ s.data.toList.take (k + 1), c ≠ 61 := by
  have hl : k < s.data.toList.length := by rw [← Lib.size_eq]; exact h
  rw [List.take_succ_eq_append_getElem hl, byte_get s k h]
  intro c hc2
  rcases List.mem_append.1 hc2 with hc2 | hc2
  · exact hk c hc2
  · simp only [List.mem_singleton] at hc2
    rintro rfl
    exact hc (by rw [← hc2]; rfl)

set_option maxHeartbeats 1000000 in
set_option maxRecDepth 100000 in
theorem quotedPlain_walk (a b : ByteArray) (w : World) (hE : Env w) :
    Calls Try.prog 5 #[.string a, .string b] w fun e w' => e = .returned (.bool true) ∧ Below w.heap.size w w' := by
  by_cases h : 1000 < a.size
  · have g : (1000 : Int) < a.size := by omega
    go_enter Try.func5, Try.ntmps5
    go_wp2_with fail
    refine (awake_any w hE).mono ?_
    rintro e w1 ⟨rfl, hb1⟩
    go_wp2
    go_ret
    exact ⟨rfl, hb1⟩
  have g : (a.size : Int) ≤ 1000 := by omega
  by_cases h' : 1000 < b.size
  · have g' : (1000 : Int) < b.size := by omega
    go_enter Try.func5, Try.ntmps5
    go_wp2_with fail
    refine (awake_any w hE).mono ?_
    rintro e w1 ⟨rfl, hb1⟩
    go_wp2
    go_ret
    exact ⟨rfl, hb1⟩
  have g' : (b.size : Int) ≤ 1000 := by omega
  go_enter Try.func5, Try.ntmps5
  go_wp2_with fail
  go_loop [5] (fun i => ∃ k : Nat, k ≤ a.size ∧ i = .int .i64 k ∧ Hid (∀ c ∈ a.data.toList.take k, c ≠ 61)) (fun i => a.size - (intOf i).toNat)
  case atStart => exact ⟨0, by omega, rfl, by show ∀ c ∈ _, _; simp⟩
  case round =>
    obtain ⟨k, hk, rfl, hno⟩ := hrel
    by_cases hlt : k < a.size
    · have g1 : (k : Int) < a.size := by omega
      by_cases hc : a[k].toNat = 61
      · have q1 : ((a[k].toNat : Int) == 61) = true := by rw [beq_iff_eq]; omega
        clear hc
        go_wp2_with fail
        refine (awake_any w hE).mono ?_
        rintro e w1 ⟨rfl, hb1⟩
        go_wp2
        go_ret
        exact ⟨rfl, hb1⟩
      · have q1 : ((a[k].toNat : Int) == 61) = false := by rw [beq_eq_false_iff_ne]; omega
        have hnx := Lib.hid (take_ne hlt hno.out hc)
        clear hc
        go_wp2
        go_round
        case rel => exact ⟨k + 1, by omega, by go_num, hnx⟩
        case measure => simp [intOf]; omega
    · have g1 : ¬ (k : Int) < a.size := by omega
      have hall : ∀ c ∈ a.data.toList, c ≠ 61 := by
        have := hno.out
        rwa [List.take_of_length_le (by rw [← Lib.size_eq]; omega)] at this
      obtain ⟨t1, h1⟩ : ∃ t, a ++ (ByteArray.mk #[61, 13, 10]) ++ b = t := ⟨_, rfl⟩
      obtain ⟨t2, h2⟩ : ∃ t, a ++ (ByteArray.mk #[61, 10]) ++ b = t := ⟨_, rfl⟩
      obtain ⟨t3, h3⟩ : ∃ t, a ++ (ByteArray.mk #[61, 52, 49]) ++ b = t := ⟨_, rfl⟩
      have z1 : t1.size ≤ 2003 := by rw [← h1, ByteArray.size_append, ByteArray.size_append, show (ByteArray.mk #[61, 13, 10]).size = 3 from rfl]; omega
      have z2 : t2.size ≤ 2002 := by rw [← h2, ByteArray.size_append, ByteArray.size_append, show (ByteArray.mk #[61, 10]).size = 2 from rfl]; omega
      have z3 : t3.size ≤ 2003 := by rw [← h3, ByteArray.size_append, ByteArray.size_append, show (ByteArray.mk #[61, 52, 49]).size = 3 from rfl]; omega
      have e0 := Lib.hid (show plainL a.data.toList = a.data.toList from plain_self hall)
      have e1 := Lib.hid (show plainL t1.data.toList = (a ++ plainB b).data.toList by
        rw [← h1, app_data, app_data, app_data, plainB_data, List.append_assoc, plain_app hall]; exact congrArg _ (plain_crlf _))
      have e2 := Lib.hid (show plainL t2.data.toList = (a ++ plainB b).data.toList by
        rw [← h2, app_data, app_data, app_data, plainB_data, List.append_assoc, plain_app hall]; exact congrArg _ (plain_lf _))
      have e3 := Lib.hid (show plainL t3.data.toList = (a ++ (ByteArray.mk #[65]) ++ plainB b).data.toList by
        rw [← h3, app_data, app_data, app_data, app_data, plainB_data, List.append_assoc, plain_app hall, List.append_assoc]; exact congrArg _ (plain_hex (a := 4) (b := 1) (by decide) (by decide) _))
      have H1 := Lib.hid h1
      have H2 := Lib.hid h2
      have H3 := Lib.hid h3
      have zp : (plainB b).size ≤ 1000 := Nat.le_trans (plainB_size b) (by omega)
      clear hall h1 h2 h3 hno
      go_wp2_with fail
      refine (dec_to e0.out w (by omega) hE).mono ?_
      rintro e w1 ⟨rfl, hb1⟩
      go_wp2_with fail
      rw [H1.out]
      refine (dec_to e1.out w1 (by omega) (hE.next hb1)).mono ?_
      rintro e w2 ⟨rfl, hb2⟩
      replace hb2 := hb1.trans (hb2.mono hb1.size)
      go_wp2_with fail
      refine (dec_call b w2 (by omega) (hE.next hb2)).mono ?_
      rintro e w3 ⟨rfl, hb3⟩
      replace hb3 := hb2.trans (hb3.mono hb2.size)
      go_wp2_with fail
      rw [H2.out]
      refine (dec_to e2.out w3 (by omega) (hE.next hb3)).mono ?_
      rintro e w4 ⟨rfl, hb4⟩
      replace hb4 := hb3.trans (hb4.mono hb3.size)
      go_wp2_with fail
      refine (dec_call b w4 (by omega) (hE.next hb4)).mono ?_
      rintro e w5 ⟨rfl, hb5⟩
      replace hb5 := hb4.trans (hb5.mono hb4.size)
      go_wp2_with fail
      rw [H3.out]
      refine (dec_to e3.out w5 (by omega) (hE.next hb5)).mono ?_
      rintro e w6 ⟨rfl, hb6⟩
      replace hb6 := hb5.trans (hb6.mono hb5.size)
      go_wp2_with fail
      refine (dec_call b w6 (by omega) (hE.next hb6)).mono ?_
      rintro e w7 ⟨rfl, hb7⟩
      replace hb7 := hb6.trans (hb7.mono hb6.size)
      go_wp2_with fail
      refine (awake_tail w w7 hE hb7).mono ?_
      rintro e w8 ⟨rfl, hb8⟩
      go_wp2
      go_ret
      exact ⟨rfl, hb8⟩
end Go.Proofs.Ytdfjkncfbcmleaa.Q4
