/-
  The law WordLatin returns true: bytes of the other charset are code points, one each. Condition: the bound of the library's search is some number.
-/
import Derived.Test.YtlckhhdkjjfijaaDoorWdAwake
import Derived.Test.YtlckhhdkjjfijaaDoorB6Enc
namespace Go.Proofs.YtlckhhdkjjfijaaDoor.Wd
open Go Go.RowKit Go.Joins Kit

def strL (v : Value) : List UInt8 := match v with | .string t => t.data.toList | _ => []
set_option maxHeartbeats 4000000 in
set_option maxRecDepth 100000 in
theorem wordLatin_walk (s : ByteArray) (w : World) (hE : Srch.Env w) :
    Calls Tryd.prog 5 #[.string s] w fun e w' => e = .returned (.bool true) ∧ Below w.heap.size w w' := by
  have HE := Lib.hid hE
  clear hE
  by_cases h0 : s.size ≤ 300
  rotate_left 1
  · have g0 : (300 : Int) < s.size := by omega
    clear h0
    go_enter Tryd.func5, Tryd.ntmps5
    go_wp2_with fail
    refine (awake_any w HE.out).mono ?_
    rintro e w9 ⟨rfl, hb9⟩
    go_wp2
    go_ret
    exact ⟨rfl, hb9⟩
  have g0 : ¬ (300 : Int) < s.size := by omega
  go_enter Tryd.func5, Tryd.ntmps5
  go_wp2_with fail
  go_loopw [3, 4] (fun v i wr => ∃ (k : Nat) (t : ByteArray), k ≤ s.size ∧ i = .int .i64 k ∧ v = .string t ∧ t.size ≤ 2 * k ∧ Hid (t.data.toList = latinL (s.data.toList.take k)) ∧ Below w.heap.size w wr) (fun _ i _ => s.size - (intOf i).toNat)
  case atStart => exact ⟨0, ⟨#[]⟩, by omega, rfl, rfl, Nat.le_refl _, rfl, Below.refl _ w⟩
  case round =>
    obtain ⟨k, t, hk, rfl, rfl, htz, HT, hb⟩ := hrel
    by_cases hlt : k < s.size
    · have gk : (k : Int) < (s.size : Int) := by omega
      have g1 := (s[k]).toNat_lt
      have hst := Lib.hid (latin_take s k hlt)
      have hp := putB_le (s[k].toNat : Int)
      have htz2 : t.size ≤ 600 := by omega
      go_wp2_with fail
      refine (U8.ref_put (s[k].toNat : Int) wr).mono ?_
      rintro e w2 ⟨rfl, hb2⟩
      replace hb2 := hb.trans (hb2.mono hb.size)
      obtain ⟨T, hT⟩ : ∃ T, U8.putB (s[k].toNat : Int) = T := ⟨_, rfl⟩
      have hTd : Hid (T.data.toList = U8.putL (s[k].toNat : Int)) := Lib.hid (by rw [← hT]; simp [U8.putB])
      rw [hT] at hp ⊢
      clear hT hb
      have HT2 : Hid ((t ++ T).data.toList = latinL (s.data.toList.take (k + 1))) := Lib.hid (by rw [Joins.data_append, HT.out, hTd.out, hst.out])
      have hz2 : (t ++ T).size ≤ 2 * (k + 1) := by
        have := latin_room s (k + 1)
        rw [Lib.size_eq, HT2.out]
        exact this
      have HZ2 := Lib.hid hz2
      clear hz2
      go_wp2
      go_roundw
      case rel => exact ⟨k + 1, _, by omega, by go_num, rfl, HZ2.out, HT2, hb2⟩
      case measure => simp [intOf]; omega
    · have gk : ¬ (k : Int) < (s.size : Int) := by omega
      have HTT : Hid (t.data.toList = latinL s.data.toList) := Lib.hid (by
        rw [HT.out, List.take_of_length_le (by rw [← Lib.size_eq]; omega)])
      have hA := Lib.hid (fun w3 => B6.encode_any s w3 (by omega))
      have hel : (B6.encL s.data.toList).length ≤ 500 := by rw [B6.encL_length, ← Lib.size_eq]; omega
      obtain ⟨EA, hEA⟩ : ∃ E : ByteArray, (⟨(B6.encL s.data.toList).toArray⟩ : ByteArray) = E := ⟨_, rfl⟩
      have HEA : Hid (EA.data.toList = B6.encL s.data.toList) := Lib.hid (by rw [← hEA])
      have zea : EA.size ≤ 500 := by rw [Lib.size_eq, HEA.out]; exact hel
      rw [hEA] at hA
      clear hEA hel
      have hB := Lib.hid (fun w3 => quote_any s w3 (by omega))
      have hel : (quoL s.data.toList).length ≤ 900 := by rw [quo_length, ← Lib.size_eq]; omega
      obtain ⟨EB, hEB⟩ : ∃ E : ByteArray, (⟨(quoL s.data.toList).toArray⟩ : ByteArray) = E := ⟨_, rfl⟩
      have HEB : Hid (EB.data.toList = quoL s.data.toList) := Lib.hid (by rw [← hEB])
      have zeb : EB.size ≤ 900 := by rw [Lib.size_eq, HEB.out]; exact hel
      rw [hEB] at hB
      clear hEB hel
      have D1 : Hid (decW true (⟨#[61, 63, 105, 115, 111, 45, 56, 56, 53, 57, 45, 49, 63, 81, 63]⟩ ++ EB ++ ⟨#[63, 61]⟩ : ByteArray).data.toList = t.data.toList) := Lib.hid (by
        have h := dec_put (g := []) true (by simp) (okP_of (l := latN) (by decide)) (okP_of (l := [81]) (by decide)) (okP_quo s.data.toList) (says_lat (by decide) (oct_q _ _ rfl rfl)) []
        rw [decW_nil, ← HTT.out] at h
        rw [Joins.data_append, Joins.data_append, HEB.out]
        simpa [wordL, latN] using h)
      have D2 : Hid (decW true (⟨#[61, 63, 73, 83, 79, 45, 56, 56, 53, 57, 45, 49, 63, 66, 63]⟩ ++ EA ++ ⟨#[63, 61]⟩ : ByteArray).data.toList = t.data.toList) := Lib.hid (by
        have h := dec_put (g := []) true (by simp) (okP_of (l := [73, 83, 79, 45, 56, 56, 53, 57, 45, 49]) (by decide)) (okP_of (l := [66]) (by decide)) (okP_enc s.data.toList) (says_lat (by decide) (oct_b _ _ rfl)) []
        rw [decW_nil, ← HTT.out] at h
        rw [Joins.data_append, Joins.data_append, HEA.out]
        simpa [wordL] using h)
      have Z1 : Hid ((⟨#[61, 63, 105, 115, 111, 45, 56, 56, 53, 57, 45, 49, 63, 81, 63]⟩ ++ EB ++ ⟨#[63, 61]⟩ : ByteArray).size ≤ 1099511627) := Lib.hid (by
        rw [ByteArray.size_append, ByteArray.size_append, show (ByteArray.mk #[61, 63, 105, 115, 111, 45, 56, 56, 53, 57, 45, 49, 63, 81, 63]).size = 15 from rfl, show (ByteArray.mk #[63, 61]).size = 2 from rfl]; omega)
      have Z2 : Hid ((⟨#[61, 63, 73, 83, 79, 45, 56, 56, 53, 57, 45, 49, 63, 66, 63]⟩ ++ EA ++ ⟨#[63, 61]⟩ : ByteArray).size ≤ 1099511627) := Lib.hid (by
        rw [ByteArray.size_append, ByteArray.size_append, show (ByteArray.mk #[61, 63, 73, 83, 79, 45, 56, 56, 53, 57, 45, 49, 63, 66, 63]).size = 15 from rfl, show (ByteArray.mk #[63, 61]).size = 2 from rfl]; omega)
      go_wp2_with fail
      refine (hB.out wr).mono ?_
      rintro e w3 ⟨rfl, hb3⟩
      replace hb3 := hb.trans (hb3.mono hb.size)
      go_wp2_with fail
      refine (decode_to t w3 Z1.out D1.out (HE.out.next hb3)).mono ?_
      rintro e w4 ⟨rfl, hb4⟩
      replace hb4 := hb3.trans (hb4.mono hb3.size)
      go_wp2_with fail
      refine (hA.out w4).mono ?_
      rintro e w5 ⟨rfl, hb5⟩
      replace hb5 := hb4.trans (hb5.mono hb4.size)
      go_wp2_with fail
      refine (decode_to t w5 Z2.out D2.out (HE.out.next hb5)).mono ?_
      rintro e w6 ⟨rfl, hb6⟩
      replace hb6 := hb5.trans (hb6.mono hb5.size)
      go_wp2_with fail
      refine (awake_any w6 (HE.out.next hb6)).mono ?_
      rintro e w9 ⟨rfl, hb9⟩
      go_wp2
      go_ret
      exact ⟨rfl, hb6.trans (hb9.mono hb6.size)⟩
end Go.Proofs.YtlckhhdkjjfijaaDoor.Wd
