/-
  The document's answer for package word, as the statements have it: run returns where bytes from 33 to 126 but a question mark end. Condition: the text has at most 2^40 bytes.
-/
import Derived.Test.YtlckhhdkjjfijaaDoorWdOneP
import Derived.Test.YtlckhhdkjjfijaaDoorKit
import Derived.IntWalk
namespace Go.Proofs.YtlckhhdkjjfijaaDoor.Wd
open Go Go.RowKit Go.Joins Kit

theorem drop_byte (s : ByteArray) (k : Nat) (h : k < s.size) : s.data.toList.drop k = s[k] :: s.data.toList.drop (k + 1) := by
  have hl : k < s.data.toList.length := by rw [← Lib.size_eq]; exact h
  rw [List.drop_eq_getElem_cons hl, byte_get s k h]
set_option maxHeartbeats 1000000 in
set_option maxRecDepth 100000 in
theorem run_any (s : ByteArray) (i : Nat) (w : World) (hs : s.size ≤ 1099511627776) (hi : i ≤ 1099511627776) :
    Calls Tryd.prog 36 #[.string s, .int .i64 i] w fun e w' => e = .returned (.int .i64 ((i + runN (s.data.toList.drop i) : Nat) : Int)) ∧ w = w' := by
  go_enter Tryd.func36, Tryd.ntmps36
  go_wp2_with fail
  go_loop [1] (fun x => ∃ k : Nat, k ≤ 1099511627776 ∧ Hid (k + runN (s.data.toList.drop k) = i + runN (s.data.toList.drop i)) ∧ x = .int .i64 k) (fun x => s.size - (intOf x).toNat)
  case atStart => exact ⟨i, hi, rfl, rfl⟩
  case round =>
    obtain ⟨k, hk, hr, rfl⟩ := hrel
    by_cases hlt : k < s.size
    · have hd := drop_byte s k hlt
      have g0 := (s[k]).toNat_lt
      have gk : (k : Int) < (s.size : Int) := by omega
      by_cases h1 : s[k].toNat < 33
      · have hno : Hid (k = i + runN (s.data.toList.drop i)) := Lib.hid (by rw [← hr.out, hd, run_stop (tok_low h1)]; rfl)
        have g1 : ¬ (33 : Int) ≤ (s[k].toNat : Int) := by omega
        clear h1 hd
        go_wp2
        go_ret
        exact ⟨ret_int (by have := hno.out; omega), rfl⟩
      · by_cases h2 : 126 < s[k].toNat
        · have hno : Hid (k = i + runN (s.data.toList.drop i)) := Lib.hid (by rw [← hr.out, hd, run_stop (tok_high h2)]; rfl)
          have g1 : (33 : Int) ≤ (s[k].toNat : Int) := by omega
          have g2 : ¬ (s[k].toNat : Int) ≤ 126 := by omega
          clear h1 h2 hd
          go_wp2
          go_ret
          exact ⟨ret_int (by have := hno.out; omega), rfl⟩
        · by_cases h3 : s[k].toNat = 63
          · have hno : Hid (k = i + runN (s.data.toList.drop i)) := Lib.hid (by rw [← hr.out, hd, run_stop (tok_mark h3)]; rfl)
            have g1 : (33 : Int) ≤ (s[k].toNat : Int) := by omega
            have g2 : (s[k].toNat : Int) ≤ 126 := by omega
            have g3 : ((s[k].toNat : Int) != 63) = false := by rw [h3]; rfl
            clear h1 h2 h3 hd
            go_wp2
            go_ret
            exact ⟨ret_int (by have := hno.out; omega), rfl⟩
          · have hyes : Hid (k + 1 + runN (s.data.toList.drop (k + 1)) = i + runN (s.data.toList.drop i)) := Lib.hid (by rw [← hr.out, hd, run_more (tok_in (by omega) (by omega) h3)]; omega)
            have g1 : (33 : Int) ≤ (s[k].toNat : Int) := by omega
            have g2 : (s[k].toNat : Int) ≤ 126 := by omega
            have g3 : ((s[k].toNat : Int) != 63) = true := by rw [bne_iff_ne]; omega
            clear h1 h2 h3 hd
            go_wp2
            go_round
            case rel => exact ⟨k + 1, by omega, hyes, by go_num⟩
            case measure => simp [intOf]; omega
    · have hno : Hid (k = i + runN (s.data.toList.drop i)) := Lib.hid (by rw [← hr.out, List.drop_of_length_le (by rw [← Lib.size_eq]; omega)]; rfl)
      have gk : ¬ (k : Int) < (s.size : Int) := by omega
      go_wp2
      go_ret
      exact ⟨ret_int (by have := hno.out; omega), rfl⟩
end Go.Proofs.YtlckhhdkjjfijaaDoor.Wd
