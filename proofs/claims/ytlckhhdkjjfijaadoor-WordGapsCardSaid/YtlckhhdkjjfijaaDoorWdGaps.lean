/-
  The law WordGaps returns true: between an encoded word and what is none blanks stay, ahead and behind. Condition: the bound of the library's search is some number.
-/
import Derived.Test.YtlckhhdkjjfijaaDoorWdAwake
import Derived.Test.YtlckhhdkjjfijaaDoorB6Enc
import Derived.Test.YtlckhhdkjjfijaaDoorU8RefValid
import Derived.BigQuiet
namespace Go.Proofs.YtlckhhdkjjfijaaDoor.Wd
open Go Go.RowKit Go.Joins Kit

set_option maxHeartbeats 4000000 in
set_option maxRecDepth 100000 in
theorem wordGaps_walk (a : ByteArray) (n m : Int) (n0 : 0 ≤ n) (n1 : n ≤ 255) (m0 : 0 ≤ m) (m1 : m ≤ 255) (w : World) (hE : Srch.Env w) :
    Calls Tryd.prog 7 #[.string a, .int .u8 n, .int .u8 m] w fun e w' => e = .returned (.bool true) ∧ Below w.heap.size w w' := by
  have HE := Lib.hid hE
  clear hE
  obtain ⟨N, rfl⟩ : ∃ N : Nat, n = N := ⟨n.toNat, by omega⟩
  obtain ⟨M, rfl⟩ : ∃ M : Nat, m = M := ⟨m.toNat, by omega⟩
  have er : (N : Int).tmod 7 = (N : Int) % 7 := Int.tmod_eq_emod_of_nonneg (by omega)
  have em : (M : Int).tmod 7 = (M : Int) % 7 := Int.tmod_eq_emod_of_nonneg (by omega)
  by_cases hn : a.size ≤ 300 ∧ U8.validL a.data.toList = true
  rotate_left 1
  · by_cases h0 : a.size ≤ 300
    rotate_left 1
    · have g0 : (300 : Int) < a.size := by omega
      clear hn h0
      go_enter Tryd.func7, Tryd.ntmps7
      go_wp2_with fail
      refine (awake_any w HE.out).mono ?_
      rintro e w9 ⟨rfl, hb9⟩
      go_wp2
      go_ret
      exact ⟨rfl, hb9⟩
    have g0 : ¬ (300 : Int) < a.size := by omega
    cases hva : U8.validL a.data.toList with
    | true => exact absurd ⟨h0, hva⟩ hn
    | false =>
      have HVA := Lib.hid hva
      clear hn hva h0
      go_enter Tryd.func7, Tryd.ntmps7
      go_wp2_with fail
      refine (U8.rvalid_any a (by omega) w).mono ?_
      rintro e w1 ⟨rfl, hb1⟩
      rw [HVA.out]
      go_wp2_with fail
      refine (awake_any w1 (HE.out.next hb1)).mono ?_
      rintro e w9 ⟨rfl, hb9⟩
      go_wp2
      go_ret
      exact ⟨rfl, hb1.trans (hb9.mono hb1.size)⟩
  obtain ⟨h0, hva⟩ := hn
  have HVA := Lib.hid hva
  have za : ¬ (300 : Int) < a.size := by omega
  clear hva
  go_enter Tryd.func7, Tryd.ntmps7
  go_wp2_with fail
  refine (U8.rvalid_any a (by omega) w).mono ?_
  rintro e w2 ⟨rfl, hb2⟩
  rw [HVA.out]
  have hA := Lib.hid (fun w3 => B6.encode_any a w3 (by omega))
  have hel : (B6.encL a.data.toList).length ≤ 500 := by rw [B6.encL_length, ← Lib.size_eq]; omega
  obtain ⟨EA, hEA⟩ : ∃ E : ByteArray, (⟨(B6.encL a.data.toList).toArray⟩ : ByteArray) = E := ⟨_, rfl⟩
  have HEA : Hid (EA.data.toList = B6.encL a.data.toList) := Lib.hid (by rw [← hEA])
  have zea : EA.size ≤ 500 := by rw [Lib.size_eq, HEA.out]; exact hel
  rw [hEA] at hA
  clear hEA hel
  go_wp2_with fail
  refine (hA.out w2).mono ?_
  rintro e w3 ⟨rfl, hb3⟩
  replace hb3 := hb2.trans (hb3.mono hb2.size)
  clear hb2
  have HX : Hid ((⟨#[61, 63, 117, 116, 102, 45, 56, 63, 66, 63]⟩ ++ EA ++ ⟨#[63, 61]⟩ : ByteArray).data.toList = wordL utfN [66] (B6.encL a.data.toList)) := Lib.hid (by
    rw [Joins.data_append, Joins.data_append, HEA.out]; simp [wordL, utfN])
  have zX : (⟨#[61, 63, 117, 116, 102, 45, 56, 63, 66, 63]⟩ ++ EA ++ ⟨#[63, 61]⟩ : ByteArray).size ≤ 600 := by
    rw [ByteArray.size_append, ByteArray.size_append, show (ByteArray.mk #[61, 63, 117, 116, 102, 45, 56, 63, 66, 63]).size = 10 from rfl, show (ByteArray.mk #[63, 61]).size = 2 from rfl]; omega
  obtain ⟨X, hX⟩ : ∃ X : ByteArray, (⟨#[61, 63, 117, 116, 102, 45, 56, 63, 66, 63]⟩ ++ EA ++ ⟨#[63, 61]⟩ : ByteArray) = X := ⟨_, rfl⟩
  rw [hX] at HX zX
  have HG : Hid (blankL ((⟨#[32, 9, 32, 32, 9, 32, 32]⟩ : ByteArray).extract 0 (N % 7)).data.toList = true) := Lib.hid (by
    rw [Lib.extract_data, List.drop_zero]; exact blanks_take _ _ (by decide))
  have zG : ((⟨#[32, 9, 32, 32, 9, 32, 32]⟩ : ByteArray).extract 0 (N % 7)).size ≤ 7 := by
    rw [ByteArray.size_extract, show (ByteArray.mk #[32, 9, 32, 32, 9, 32, 32]).size = 7 from rfl]; omega
  have HH : Hid (blankL ((⟨#[9, 32, 32, 32, 9, 32, 32]⟩ : ByteArray).extract 0 (M % 7)).data.toList = true) := Lib.hid (by
    rw [Lib.extract_data, List.drop_zero]; exact blanks_take _ _ (by decide))
  have zH : ((⟨#[9, 32, 32, 32, 9, 32, 32]⟩ : ByteArray).extract 0 (M % 7)).size ≤ 7 := by
    rw [ByteArray.size_extract, show (ByteArray.mk #[9, 32, 32, 32, 9, 32, 32]).size = 7 from rfl]; omega
  have gn0 : 0 ≤ (N : Int) % 7 := by omega
  have gn1 : (N : Int) % 7 ≤ 7 := by omega
  have gm0 : 0 ≤ (M : Int) % 7 := by omega
  have gm1 : (M : Int) % 7 ≤ 7 := by omega
  go_wp2_with fail
  go_quiet (fail)
  go_wp2_with fail
  have hb4 : Below w.heap.size w (w3.drewN nq) := below_drewN hb3 nq
  obtain ⟨w4, hw4⟩ : ∃ w4, w3.drewN nq = w4 := ⟨_, rfl⟩
  rw [hw4] at hb4 ⊢
  clear hw4 hb3 hX
  generalize ((⟨#[32, 9, 32, 32, 9, 32, 32]⟩ : ByteArray).extract 0 (N % 7)) = G at HG zG ⊢
  generalize ((⟨#[9, 32, 32, 32, 9, 32, 32]⟩ : ByteArray).extract 0 (M % 7)) = H at HH zH ⊢
  have sa : saysL utfN [66] (B6.encL a.data.toList) = some a.data.toList := says_utf (by decide) (oct_b _ _ rfl) HVA.out
  have dx := fun (b0 : Bool) (g : List UInt8) (hg : ∀ c ∈ g, c ≠ 61) (r : List UInt8) => dec_put b0 hg (okP_of (l := utfN) (by decide)) (okP_of (l := [66]) (by decide)) (okP_enc a.data.toList) sa r
  have ng := blank_no HG.out
  have nh := blank_no HH.out
  have D1 : Hid (decW true (⟨#[112]⟩ ++ G ++ X ++ H ++ ⟨#[113]⟩ : ByteArray).data.toList = (⟨#[112]⟩ ++ G ++ a ++ H ++ ⟨#[113]⟩ : ByteArray).data.toList) := Lib.hid (by
    have h := dx true (112 :: G.data.toList) (by intro c hc; rcases List.mem_cons.1 hc with rfl | hc; exact (by decide); exact ng c hc) (H.data.toList ++ [113])
    rw [← HX.out, dec_self false (l := H.data.toList ++ [113]) (by intro c hc; rcases List.mem_append.1 hc with hc | hc; exact nh c hc; rw [List.mem_singleton.1 hc]; decide)] at h
    simp only [Joins.data_append]
    simpa using h)
  have D2 : Hid (decW true (G ++ X ++ H).data.toList = (G ++ a ++ H).data.toList) := Lib.hid (by
    have h := dx true G.data.toList ng H.data.toList
    rw [← HX.out, dec_self false nh] at h
    simp only [Joins.data_append]
    simpa using h)
  have hmid : blankL (G.data.toList ++ (112 :: H.data.toList)) = false := by rw [blank_app]; simp [blankL, blankB]
  have D3 : Hid (decW true (X ++ G ++ ⟨#[112]⟩ ++ H ++ X : ByteArray).data.toList = (a ++ G ++ ⟨#[112]⟩ ++ H ++ a : ByteArray).data.toList) := Lib.hid (by
    have h := dx true [] (by simp) ((G.data.toList ++ (112 :: H.data.toList)) ++ (X.data.toList ++ []))
    have h2 := dx false (G.data.toList ++ (112 :: H.data.toList)) (by intro c hc; rcases List.mem_append.1 hc with hc | hc; exact ng c hc; rcases List.mem_cons.1 hc with rfl | hc; exact (by decide); exact nh c hc) []
    rw [← HX.out, hmid, decW_nil] at h2
    rw [← HX.out, h2] at h
    simp only [Joins.data_append]
    simpa using h)
  have z1 : (⟨#[112]⟩ ++ G ++ X ++ H ++ ⟨#[113]⟩ : ByteArray).size ≤ 1099511627 := by
    rw [ByteArray.size_append, ByteArray.size_append, ByteArray.size_append, ByteArray.size_append, show (ByteArray.mk #[112]).size = 1 from rfl, show (ByteArray.mk #[113]).size = 1 from rfl]; omega
  have z2 : (G ++ X ++ H).size ≤ 1099511627 := by rw [ByteArray.size_append, ByteArray.size_append]; omega
  have z3 : (X ++ G ++ ⟨#[112]⟩ ++ H ++ X : ByteArray).size ≤ 1099511627 := by
    rw [ByteArray.size_append, ByteArray.size_append, ByteArray.size_append, ByteArray.size_append, show (ByteArray.mk #[112]).size = 1 from rfl]; omega
  have Z1 := Lib.hid z1
  have Z2 := Lib.hid z2
  have Z3 := Lib.hid z3
  clear z1 z2 z3 sa dx ng nh hmid
  refine (decode_to (⟨#[112]⟩ ++ G ++ a ++ H ++ ⟨#[113]⟩) w4 Z1.out D1.out (HE.out.next hb4)).mono ?_
  rintro e w5 ⟨rfl, hb5⟩
  replace hb5 := hb4.trans (hb5.mono hb4.size)
  go_wp2_with fail
  refine (decode_to (G ++ a ++ H) w5 Z2.out D2.out (HE.out.next hb5)).mono ?_
  rintro e w6 ⟨rfl, hb6⟩
  replace hb6 := hb5.trans (hb6.mono hb5.size)
  go_wp2_with fail
  refine (decode_to (a ++ G ++ ⟨#[112]⟩ ++ H ++ a) w6 Z3.out D3.out (HE.out.next hb6)).mono ?_
  rintro e w7 ⟨rfl, hb7⟩
  replace hb7 := hb6.trans (hb7.mono hb6.size)
  go_wp2_with fail
  refine (awake_any w7 (HE.out.next hb7)).mono ?_
  rintro e w9 ⟨rfl, hb9⟩
  go_wp2
  go_ret
  exact ⟨rfl, hb7.trans (hb9.mono hb7.size)⟩
end Go.Proofs.YtlckhhdkjjfijaaDoor.Wd
