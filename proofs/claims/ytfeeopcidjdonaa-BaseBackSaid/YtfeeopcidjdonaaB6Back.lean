/-
  The law BaseBack returns true: Decode and Loose give back what Encode told, Loose with other bytes between, too. Conditions: the bound of the library's search is some number; the number is a byte.
-/
import Derived.Test.YtfeeopcidjdonaaB6Laws
namespace Go.Proofs.Ytfeeopcidjdonaa.B6
open Go Go.RowKit Go.Joins Kit

theorem noise_all : ∀ c ∈ ([13, 10, 32, 33, 45, 95, 46] : List UInt8), c ≠ 61 ∧ val c = none := by decide +kernel
theorem take_snoc (t : ByteArray) (k : Nat) (h : k < t.size) : t.data.toList.take (k + 1) = t.data.toList.take k ++ [t[k]] := by
  have hl : k < t.data.toList.length := by rw [← Lib.size_eq]; exact h
  rw [List.take_succ_eq_append_getElem hl, byte_get t k h]

set_option maxHeartbeats 2000000 in
set_option maxRecDepth 100000 in
theorem baseBack_walk (s : ByteArray) (n : Int) (n0 : 0 ≤ n) (n1 : n ≤ 255) (w : World) (hE : Env w) :
    Calls Try.prog 4 #[.string s, .int .u8 n] w fun e w' => e = .returned (.bool true) ∧ Below w.heap.size w w' := by
  by_cases h : 3000 < s.size
  · have g : (3000 : Int) < s.size := by omega
    go_enter Try.func4, Try.ntmps4
    go_wp2_with fail
    refine (awake_any w hE).mono ?_
    rintro e w1 ⟨rfl, hb1⟩
    go_wp2
    go_ret
    exact ⟨rfl, hb1⟩
  have g : (s.size : Int) ≤ 3000 := by omega
  have hz := encB_size s
  have hz2 : (encB s).size ≤ 4004 := by omega
  have gz : (((encB s).size : Int) == ((s.size : Int) + 2) / 3 * 4) = true := by rw [beq_iff_eq, hz]; omega
  have hd := Lib.hid (encB_data s)
  clear hz
  go_enter Try.func4, Try.ntmps4
  go_wp2_with fail
  refine (enc_call s w (by omega)).mono ?_
  rintro e w1 ⟨rfl, hb1⟩
  generalize encB s = t at hz2 gz hd ⊢
  go_wp2_with fail
  refine (dec_yes hd.out w1 (by omega) (hE.next hb1)).mono ?_
  rintro e w2 ⟨rfl, hb2⟩
  replace hb2 := hb1.trans (hb2.mono hb1.size)
  clear hb1
  have hB0 := Buf.empty hb2
  go_wp2_with fail
  go_loopw [8, 9] (fun v i wr => ∃ (k : Nat) (out : List UInt8), k ≤ t.size ∧ out.length ≤ 8 * k ∧ i = .int .i64 k ∧ Same out (t.data.toList.take k) ∧ Buf w v out wr) (fun _ i _ => t.size - (intOf i).toNat)
  case atStart => exact ⟨0, [], by omega, by simp, rfl, by simpa using Same.refl [], hB0⟩
  case round =>
    clear hB0 hb2
    obtain ⟨k, out, hk, ho, rfl, hS, hB⟩ := hrel
    by_cases hlt : k < t.size
    · have g1 : (k : Int) < t.size := by omega
      have hts := Lib.hid (take_snoc t k hlt)
      by_cases hm : (k : Int) % (1 + n % 9) = 0
      · have gm : ((k : Int) % (1 + n % 9) == 0) = true := by rw [beq_iff_eq]; exact hm
        clear hm
        go_wp2_with (at_builtin; refine Buf.app_text rfl _ _ rfl w _ _ out hB { data := #[13, 10, 32, 33, 45, 95, 46] } rfl rfl ?pa1 ?_)
        case pa1 => show out.length + 7 ≤ _; omega
        intro v1 w3 hB1
        go_wp2_with (at_builtin; refine Buf.app rfl _ _ rfl w _ _ _ hB1 _ [t[k]] 1 1 rfl rfl rfl rfl ?pb1 ?_)
        case pb1 => rw [List.length_append]; show out.length + 7 + 1 ≤ _; omega
        intro v2 w4 hB2
        go_wp2
        go_roundw
        case rel =>
          refine ⟨k + 1, out ++ [13, 10, 32, 33, 45, 95, 46, t[k]], by omega, ?_, by go_num, ?_, hB2⟩
          · rw [List.length_append]; show out.length + 8 ≤ _; omega
          · rw [hts.out]
            have := (hS.noise noise_all).snoc t[k]
            simpa using this
        case measure => simp [intOf]; omega
      · have gm : ((k : Int) % (1 + n % 9) == 0) = false := by rw [beq_eq_false_iff_ne]; exact hm
        clear hm
        go_wp2_with (at_builtin; refine Buf.app rfl _ _ rfl w _ _ _ hB _ [t[k]] 1 1 rfl rfl rfl rfl ?pc1 ?_)
        case pc1 => omega
        intro v2 w4 hB2
        go_wp2
        go_roundw
        case rel =>
          refine ⟨k + 1, _, by omega, ?_, by go_num, ?_, hB2⟩
          · rw [List.length_append]; show out.length + 1 ≤ _; omega
          · rw [hts.out]
            exact hS.snoc _
        case measure => simp [intOf]; omega
    · have he : k = t.size := by omega
      have hl : Hid (looseL (ByteArray.mk out.toArray).data.toList = s.data.toList) := by
        show _ = _
        have e := hS.loose
        rw [he, List.take_of_length_le (by rw [← Lib.size_eq]; exact Nat.le_refl _), hd.out, loose_enc] at e
        simpa using e
      have hos : (ByteArray.mk out.toArray).size ≤ 40000 := by show out.toArray.size ≤ _; simp; omega
      have g1 : ¬ (k : Int) < t.size := by omega
      have hb := hB.below
      have hrun := hB.string
      clear he
      go_wp2_with fail
      refine (num_any 0 wr).mono ?_
      rintro e w' ⟨rfl, rfl⟩
      go_wp2_with fail
      refine (loose_call (loose_back hd.out) wr (by omega) (hE.next hb)).mono ?_
      rintro e w3 ⟨rfl, hb3⟩
      have hrun3 := (hB.next hb3).string
      have hbb := hb.trans (hb3.mono hb.size)
      clear hrun hB
      go_wp2_with fail
      refine (loose_call hl.out w3 (by omega) (hE.next hbb)).mono ?_
      rintro e w4 ⟨rfl, hb4⟩
      replace hb4 := hbb.trans (hb4.mono hbb.size)
      clear hrun3
      go_wp2_with fail
      refine (awake_tail w w4 hE hb4).mono ?_
      rintro e w5 ⟨rfl, hb5⟩
      go_wp2
      go_ret
      exact ⟨rfl, hb5⟩
end Go.Proofs.Ytfeeopcidjdonaa.B6
