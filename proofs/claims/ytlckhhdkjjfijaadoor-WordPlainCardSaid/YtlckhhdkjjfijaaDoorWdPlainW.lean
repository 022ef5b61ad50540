/-
  The law WordPlain returns true: texts without the sign stand for themselves; so do words of charsets that are not known, and open ones. Condition: the bound of the library's search is some number.
-/
import Derived.Test.YtlckhhdkjjfijaaDoorWdAwake
import Derived.Test.YtlckhhdkjjfijaaDoorWdPlainP
namespace Go.Proofs.YtlckhhdkjjfijaaDoor.Wd
open Go Go.RowKit Go.Joins Kit

set_option maxHeartbeats 4000000 in
set_option maxRecDepth 100000 in
theorem wordPlain_walk (s : ByteArray) (w : World) (hE : Srch.Env w) :
    Calls Tryd.prog 6 #[.string s] w fun e w' => e = .returned (.bool true) ∧ Below w.heap.size w w' := by
  have HE := Lib.hid hE
  clear hE
  by_cases h0 : s.size ≤ 1000
  rotate_left 1
  · have g0 : (1000 : Int) < s.size := by omega
    clear h0
    go_enter Tryd.func6, Tryd.ntmps6
    go_wp2_with fail
    refine (awake_any w HE.out).mono ?_
    rintro e w9 ⟨rfl, hb9⟩
    go_wp2
    go_ret
    exact ⟨rfl, hb9⟩
  have g0 : ¬ (1000 : Int) < s.size := by omega
  go_enter Tryd.func6, Tryd.ntmps6
  go_wp2_with fail
  go_loop [3] (fun i => ∃ k : Nat, k ≤ s.size ∧ i = .int .i64 k ∧ Hid (∀ c ∈ s.data.toList.take k, c ≠ 61)) (fun i => s.size - (intOf i).toNat)
  case atStart => exact ⟨0, by omega, rfl, Lib.hid (by simp)⟩
  case round =>
    obtain ⟨k, hk, rfl, HN⟩ := hrel
    by_cases hlt : k < s.size
    · have gk : (k : Int) < (s.size : Int) := by omega
      have hl : k < s.data.toList.length := by rw [← Lib.size_eq]; exact hlt
      by_cases h1 : s[k].toNat = 61
      · have g1 : ((s[k].toNat : Int) == 61) = true := by rw [h1]; rfl
        clear h1
        go_wp2_with fail
        refine (awake_any w HE.out).mono ?_
        rintro e w9 ⟨rfl, hb9⟩
        go_wp2
        go_ret
        exact ⟨rfl, hb9⟩
      · have g1 : ((s[k].toNat : Int) == 61) = false := by rw [beq_eq_false_iff_ne]; omega
        have HN2 : Hid (∀ c ∈ s.data.toList.take (k + 1), c ≠ 61) := Lib.hid (by
          rw [List.take_succ_eq_append_getElem hl, byte_get s k hlt]
          intro c hc
          rcases List.mem_append.1 hc with hc | hc
          · exact HN.out c hc
          · rw [List.mem_singleton.1 hc]; rintro e; exact h1 (by rw [e]; rfl))
        clear h1
        go_wp2
        go_round
        case rel => exact ⟨k + 1, by omega, by go_num, HN2⟩
        case measure => simp [intOf]; omega
    · have gk : ¬ (k : Int) < (s.size : Int) := by omega
      have HA : Hid (∀ c ∈ s.data.toList, c ≠ 61) := Lib.hid (by
        have h := HN.out
        rwa [List.take_of_length_le (by rw [← Lib.size_eq]; omega)] at h)
      have D1 : Hid (decW true s.data.toList = s.data.toList) := Lib.hid (dec_self true HA.out)
      have D3 : Hid (decW true (⟨#[61, 63, 117, 116, 102, 45, 56, 63, 81, 63]⟩ ++ s : ByteArray).data.toList = (⟨#[61, 63, 117, 116, 102, 45, 56, 63, 81, 63]⟩ ++ s : ByteArray).data.toList) := Lib.hid (by
        rw [Joins.data_append]; exact dec_open _ HA.out)
      have Z3 : Hid ((⟨#[61, 63, 117, 116, 102, 45, 56, 63, 81, 63]⟩ ++ s : ByteArray).size ≤ 1099511627) := Lib.hid (by
        rw [ByteArray.size_append, show (ByteArray.mk #[61, 63, 117, 116, 102, 45, 56, 63, 81, 63]).size = 10 from rfl]; omega)
      go_wp2_with fail
      refine (decode_to s w (by omega) D1.out HE.out).mono ?_
      rintro e w1 ⟨rfl, hb1⟩
      go_wp2_with fail
      refine (decode_to ⟨#[61, 63, 120, 45, 110, 111, 110, 101, 63, 81, 63, 97, 63, 61]⟩ w1 (by decide) dec_xnone (HE.out.next hb1)).mono ?_
      rintro e w2 ⟨rfl, hb2⟩
      replace hb2 := hb1.trans (hb2.mono hb1.size)
      go_wp2_with fail
      refine (decode_to (⟨#[61, 63, 117, 116, 102, 45, 56, 63, 81, 63]⟩ ++ s) w2 Z3.out D3.out (HE.out.next hb2)).mono ?_
      rintro e w3 ⟨rfl, hb3⟩
      replace hb3 := hb2.trans (hb3.mono hb2.size)
      go_wp2_with fail
      refine (decode_to ⟨#[61, 63, 117, 116, 102, 45, 56, 63, 88, 63, 97, 63, 61]⟩ w3 (by decide) dec_xway (HE.out.next hb3)).mono ?_
      rintro e w4 ⟨rfl, hb4⟩
      replace hb4 := hb3.trans (hb4.mono hb3.size)
      go_wp2_with fail
      refine (decode_to ⟨#[61, 63, 117, 116, 102, 45, 56, 63, 81, 63, 61, 102, 102, 63, 61]⟩ w4 (by decide) dec_xff (HE.out.next hb4)).mono ?_
      rintro e w5 ⟨rfl, hb5⟩
      replace hb5 := hb4.trans (hb5.mono hb4.size)
      go_wp2_with fail
      refine (awake_any w5 (HE.out.next hb5)).mono ?_
      rintro e w9 ⟨rfl, hb9⟩
      go_wp2
      go_ret
      exact ⟨rfl, hb5.trans (hb9.mono hb5.size)⟩
end Go.Proofs.YtlckhhdkjjfijaaDoor.Wd
