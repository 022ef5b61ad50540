/-
  The law WordMade returns true: a valid text, encoded by either way, says itself; two of them with blanks between say both. Condition: the bound of the library's search is some number.
-/
import Derived.Test.YtlckhhdkjjfijaaDoorWdAwake
import Derived.Test.YtlckhhdkjjfijaaDoorB6Enc
import Derived.Test.YtlckhhdkjjfijaaDoorU8RefValid
namespace Go.Proofs.YtlckhhdkjjfijaaDoor.Wd
open Go Go.RowKit Go.Joins Kit

set_option maxHeartbeats 4000000 in
set_option maxRecDepth 100000 in
theorem wordMade_walk (a b : ByteArray) (n : Int) (n0 : 0 ≤ n) (n1 : n ≤ 255) (w : World) (hE : Srch.Env w) :
    Calls Tryd.prog 4 #[.string a, .string b, .int .u8 n] w fun e w' => e = .returned (.bool true) ∧ Below w.heap.size w w' := by
  have HE := Lib.hid hE
  clear hE
  obtain ⟨N, rfl⟩ : ∃ N : Nat, n = N := ⟨n.toNat, by omega⟩
  have er : (N : Int).tmod 6 = (N : Int) % 6 := Int.tmod_eq_emod_of_nonneg (by omega)
  by_cases hn : a.size ≤ 300 ∧ b.size ≤ 300 ∧ U8.validL a.data.toList = true ∧ U8.validL b.data.toList = true
  rotate_left 1
  · by_cases h0 : a.size ≤ 300
    rotate_left 1
    · have g0 : (300 : Int) < a.size := by omega
      clear hn h0
      go_enter Tryd.func4, Tryd.ntmps4
      go_wp2_with fail
      refine (awake_any w HE.out).mono ?_
      rintro e w9 ⟨rfl, hb9⟩
      go_wp2
      go_ret
      exact ⟨rfl, hb9⟩
    have g0 : ¬ (300 : Int) < a.size := by omega
    by_cases h1 : b.size ≤ 300
    rotate_left 1
    · have g1 : (300 : Int) < b.size := by omega
      clear hn h0 h1
      go_enter Tryd.func4, Tryd.ntmps4
      go_wp2_with fail
      refine (awake_any w HE.out).mono ?_
      rintro e w9 ⟨rfl, hb9⟩
      go_wp2
      go_ret
      exact ⟨rfl, hb9⟩
    have g1 : ¬ (300 : Int) < b.size := by omega
    cases hva : U8.validL a.data.toList with
    | false =>
      have HVA := Lib.hid hva
      clear hn hva h0 h1
      go_enter Tryd.func4, Tryd.ntmps4
      go_wp2_with fail
      refine (U8.rvalid_any a (by omega) w).mono ?_
      rintro e w1 ⟨rfl, hb1⟩
      rw [HVA.out]
      go_wp2_with fail
      refine (awake_any w1 (HE.out.next hb1)).mono ?_
      rintro e w9 ⟨rfl, hb9⟩
      go_wp2
      go_ret
      exact ⟨rfl, hb1.trans (hb9.mono hb1.size)⟩
    | true =>
      cases hvb : U8.validL b.data.toList with
      | true => exact absurd ⟨h0, h1, hva, hvb⟩ hn
      | false =>
        have HVA := Lib.hid hva
        have HVB := Lib.hid hvb
        clear hn hva hvb h0 h1
        go_enter Tryd.func4, Tryd.ntmps4
        go_wp2_with fail
        refine (U8.rvalid_any a (by omega) w).mono ?_
        rintro e w0 ⟨rfl, hb0⟩
        rw [HVA.out]
        go_wp2_with fail
        refine (U8.rvalid_any b (by omega) w0).mono ?_
        rintro e w1 ⟨rfl, hb1⟩
        rw [HVB.out]
        replace hb1 := hb0.trans (hb1.mono hb0.size)
        go_wp2_with fail
        refine (awake_any w1 (HE.out.next hb1)).mono ?_
        rintro e w9 ⟨rfl, hb9⟩
        go_wp2
        go_ret
        exact ⟨rfl, hb1.trans (hb9.mono hb1.size)⟩
  obtain ⟨h0, h1, hva, hvb⟩ := hn
  have HVA := Lib.hid hva
  have HVB := Lib.hid hvb
  have za : ¬ (300 : Int) < a.size := by omega
  have zb : ¬ (300 : Int) < b.size := by omega
  clear hva hvb
  go_enter Tryd.func4, Tryd.ntmps4
  go_wp2_with fail
  refine (U8.rvalid_any a (by omega) w).mono ?_
  rintro e w1 ⟨rfl, hb1⟩
  rw [HVA.out]
  go_wp2_with fail
  refine (U8.rvalid_any b (by omega) w1).mono ?_
  rintro e w2 ⟨rfl, hb2⟩
  rw [HVB.out]
  replace hb2 := hb1.trans (hb2.mono hb1.size)
  clear hb1
  have hA := Lib.hid (fun w3 => B6.encode_any a w3 (by omega))
  have hel : (B6.encL a.data.toList).length ≤ 500 := by rw [B6.encL_length, ← Lib.size_eq]; omega
  obtain ⟨EA, hEA⟩ : ∃ E : ByteArray, (⟨(B6.encL a.data.toList).toArray⟩ : ByteArray) = E := ⟨_, rfl⟩
  have HEA : Hid (EA.data.toList = B6.encL a.data.toList) := Lib.hid (by rw [← hEA])
  have zea : EA.size ≤ 500 := by rw [Lib.size_eq, HEA.out]; exact hel
  rw [hEA] at hA
  clear hEA hel
  go_wp2_with fail
  refine (hA.out w2).mono ?_
  rintro e w3 ⟨rfl, hb3⟩
  replace hb3 := hb2.trans (hb3.mono hb2.size)
  clear hb2
  have hB := Lib.hid (fun w3 => quote_any b w3 (by omega))
  have hel : (quoL b.data.toList).length ≤ 900 := by rw [quo_length, ← Lib.size_eq]; omega
  obtain ⟨EB, hEB⟩ : ∃ E : ByteArray, (⟨(quoL b.data.toList).toArray⟩ : ByteArray) = E := ⟨_, rfl⟩
  have HEB : Hid (EB.data.toList = quoL b.data.toList) := Lib.hid (by rw [← hEB])
  have zeb : EB.size ≤ 900 := by rw [Lib.size_eq, HEB.out]; exact hel
  rw [hEB] at hB
  clear hEB hel
  go_wp2_with fail
  refine (hB.out w3).mono ?_
  rintro e w4 ⟨rfl, hb4⟩
  replace hb4 := hb3.trans (hb4.mono hb3.size)
  clear hb3
  have HX : Hid ((⟨#[61, 63, 85, 84, 70, 45, 56, 63, 98, 63]⟩ ++ EA ++ ⟨#[63, 61]⟩ : ByteArray).data.toList = wordL [85, 84, 70, 45, 56] [98] (B6.encL a.data.toList)) := Lib.hid (by
    rw [Joins.data_append, Joins.data_append, HEA.out]; simp [wordL])
  have HY : Hid ((⟨#[61, 63, 117, 116, 102, 45, 56, 63, 81, 63]⟩ ++ EB ++ ⟨#[63, 61]⟩ : ByteArray).data.toList = wordL utfN [81] (quoL b.data.toList)) := Lib.hid (by
    rw [Joins.data_append, Joins.data_append, HEB.out]; simp [wordL, utfN])
  have zX : (⟨#[61, 63, 85, 84, 70, 45, 56, 63, 98, 63]⟩ ++ EA ++ ⟨#[63, 61]⟩ : ByteArray).size ≤ 600 := by
    rw [ByteArray.size_append, ByteArray.size_append, show (ByteArray.mk #[61, 63, 85, 84, 70, 45, 56, 63, 98, 63]).size = 10 from rfl, show (ByteArray.mk #[63, 61]).size = 2 from rfl]; omega
  have zY : (⟨#[61, 63, 117, 116, 102, 45, 56, 63, 81, 63]⟩ ++ EB ++ ⟨#[63, 61]⟩ : ByteArray).size ≤ 1000 := by
    rw [ByteArray.size_append, ByteArray.size_append, show (ByteArray.mk #[61, 63, 117, 116, 102, 45, 56, 63, 81, 63]).size = 10 from rfl, show (ByteArray.mk #[63, 61]).size = 2 from rfl]; omega
  have HG : Hid (blankL ((⟨#[32, 9, 32, 9, 32]⟩ : ByteArray).extract 0 (N % 6)).data.toList = true) := Lib.hid (by
    rw [Lib.extract_data, List.drop_zero]; exact blanks_take _ _ (by decide))
  have zG : ((⟨#[32, 9, 32, 9, 32]⟩ : ByteArray).extract 0 (N % 6)).size ≤ 5 := by
    rw [ByteArray.size_extract, show (ByteArray.mk #[32, 9, 32, 9, 32]).size = 5 from rfl]; omega
  go_wp2_with fail
  generalize (⟨#[61, 63, 85, 84, 70, 45, 56, 63, 98, 63]⟩ ++ EA ++ ⟨#[63, 61]⟩ : ByteArray) = X at HX zX ⊢
  generalize (⟨#[61, 63, 117, 116, 102, 45, 56, 63, 81, 63]⟩ ++ EB ++ ⟨#[63, 61]⟩ : ByteArray) = Y at HY zY ⊢
  generalize ((⟨#[32, 9, 32, 9, 32]⟩ : ByteArray).extract 0 (N % 6)) = G at HG zG ⊢
  have sa : saysL [85, 84, 70, 45, 56] [98] (B6.encL a.data.toList) = some a.data.toList := says_utf (by decide) (oct_b _ _ rfl) HVA.out
  have sb : saysL utfN [81] (quoL b.data.toList) = some b.data.toList := says_utf (by decide) (oct_q _ _ rfl rfl) HVB.out
  have dx := fun (b0 : Bool) (g : List UInt8) (hg : ∀ c ∈ g, c ≠ 61) (r : List UInt8) => dec_put b0 hg (okP_of (l := [85, 84, 70, 45, 56]) (by decide)) (okP_of (l := [98]) (by decide)) (okP_enc a.data.toList) sa r
  have dy := fun (b0 : Bool) (g : List UInt8) (hg : ∀ c ∈ g, c ≠ 61) (r : List UInt8) => dec_put b0 hg (okP_of (l := utfN) (by decide)) (okP_of (l := [81]) (by decide)) (okP_quo b.data.toList) sb r
  have D1 : Hid (decW true X.data.toList = a.data.toList) := Lib.hid (by
    have h := dx true [] (by simp) []
    rw [List.append_nil, ← HX.out, decW_nil] at h
    simpa using h)
  have D2 : Hid (decW true Y.data.toList = b.data.toList) := Lib.hid (by
    have h := dy true [] (by simp) []
    rw [List.append_nil, ← HY.out, decW_nil] at h
    simpa using h)
  have D3 : Hid (decW true (X ++ G ++ Y).data.toList = (a ++ b).data.toList) := Lib.hid (by
    have h := dx true [] (by simp) (G.data.toList ++ (Y.data.toList ++ []))
    rw [HY.out, dy false G.data.toList (blank_no HG.out) [], ← HX.out, ← HY.out, decW_nil, HG.out] at h
    rw [Joins.data_append, Joins.data_append, Joins.data_append]
    simpa using h)
  have D4 : Hid (decW true (⟨#[113, 32]⟩ ++ X ++ ⟨#[32, 113]⟩ : ByteArray).data.toList = (⟨#[113, 32]⟩ ++ a ++ ⟨#[32, 113]⟩ : ByteArray).data.toList) := Lib.hid (by
    have h := dx true [113, 32] (by decide) [32, 113]
    rw [← HX.out, dec_self false (l := [32, 113]) (by decide)] at h
    rw [Joins.data_append, Joins.data_append, Joins.data_append, Joins.data_append]
    simpa using h)
  have z3 : (X ++ G ++ Y).size ≤ 1099511627 := by rw [ByteArray.size_append, ByteArray.size_append]; omega
  have z4 : (⟨#[113, 32]⟩ ++ X ++ ⟨#[32, 113]⟩ : ByteArray).size ≤ 1099511627 := by
    rw [ByteArray.size_append, ByteArray.size_append, show (ByteArray.mk #[113, 32]).size = 2 from rfl, show (ByteArray.mk #[32, 113]).size = 2 from rfl]; omega
  have Z3 := Lib.hid z3
  have Z4 := Lib.hid z4
  clear z3 z4 sa sb dx dy
  refine (decode_to a w4 (by omega) D1.out (HE.out.next hb4)).mono ?_
  rintro e w5 ⟨rfl, hb5⟩
  replace hb5 := hb4.trans (hb5.mono hb4.size)
  go_wp2_with fail
  refine (decode_to b w5 (by omega) D2.out (HE.out.next hb5)).mono ?_
  rintro e w6 ⟨rfl, hb6⟩
  replace hb6 := hb5.trans (hb6.mono hb5.size)
  go_wp2_with fail
  refine (decode_to (a ++ b) w6 Z3.out D3.out (HE.out.next hb6)).mono ?_
  rintro e w7 ⟨rfl, hb7⟩
  replace hb7 := hb6.trans (hb7.mono hb6.size)
  go_wp2_with fail
  refine (decode_to (⟨#[113, 32]⟩ ++ a ++ ⟨#[32, 113]⟩) w7 Z4.out D4.out (HE.out.next hb7)).mono ?_
  rintro e w8 ⟨rfl, hb8⟩
  replace hb8 := hb7.trans (hb8.mono hb7.size)
  go_wp2_with fail
  refine (awake_any w8 (HE.out.next hb8)).mono ?_
  rintro e w9 ⟨rfl, hb9⟩
  go_wp2
  go_ret
  exact ⟨rfl, hb8.trans (hb9.mono hb8.size)⟩
end Go.Proofs.YtlckhhdkjjfijaaDoor.Wd
