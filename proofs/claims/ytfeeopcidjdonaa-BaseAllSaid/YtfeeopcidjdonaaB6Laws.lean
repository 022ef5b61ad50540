/-
  The laws BaseBack, BaseStrict, BaseJoins, BaseLetters return true. Conditions: the bound of the library's search is some number; the numbers are of their kinds.
-/
import Derived.Test.YtfeeopcidjdonaaB6Loose
import Derived.Test.YtfeeopcidjdonaaBuf
import Derived.Deep.RegionWith
import Derived.Deep.CutRange
namespace Go.Proofs.Ytfeeopcidjdonaa.B6
open Go Go.RowKit Go.Joins Kit

def encB (s : ByteArray) : ByteArray := ⟨(encL s.data.toList).toArray⟩
theorem encB_data (s : ByteArray) : (encB s).data.toList = encL s.data.toList := by simp [encB]
theorem encB_size (s : ByteArray) : (encB s).size = (s.size + 2) / 3 * 4 := by rw [Lib.size_eq, encB_data, encL_length, ← Lib.size_eq]
theorem mk_data (s : ByteArray) {l : List UInt8} (h : l = s.data.toList) : (⟨l.toArray⟩ : ByteArray) = s := Kit.bytes_ext (by simpa using h)
theorem enc_call (s : ByteArray) (w : World) (hs : s.size ≤ 1099511627) :
    Calls Try.prog 11 #[.string s] w fun e w' => e = .returned (.string (encB s)) ∧ Below w.heap.size w w' := encode_any s w hs
theorem loose_call {t s : ByteArray} (h : looseL t.data.toList = s.data.toList) (w : World) (hs : t.size ≤ 1099511627) (hE : Env w) :
    Calls Try.prog 14 #[.string t] w fun e w' => e = .returned (.string s) ∧ Below w.heap.size w w' := by
  have := loose_any t w hs hE
  rwa [mk_data s h] at this
theorem loose_back {t s : ByteArray} (h : t.data.toList = encL s.data.toList) : looseL t.data.toList = s.data.toList := by rw [h, loose_enc]
theorem dec_yes {t s : ByteArray} (h : t.data.toList = encL s.data.toList) (w : World) (hs : t.size ≤ 1099511627) (hE : Env w) :
    Calls Try.prog 9 #[.string t] w fun e w' => e = .returned (.tuple #[.string s, .int .i64 0]) ∧ Below w.heap.size w w' := by
  have := decode_any t w hs hE
  rwa [decV_some (x := s.data.toList) (by rw [h, dec_enc]), mk_data s rfl] at this
theorem dec_no (t : ByteArray) (h : t.size % 4 ≠ 0) (w : World) (hs : t.size ≤ 1099511627) (hE : Env w) :
    Calls Try.prog 9 #[.string t] w fun e w' => e = .returned (.tuple #[.string ⟨#[]⟩, .int .i64 3]) ∧ Below w.heap.size w w' := by
  have := decode_any t w hs hE
  rwa [decV_none (dec_len (by rw [← Lib.size_eq]; exact h))] at this

set_option maxHeartbeats 400000 in
theorem awake_any (w : World) (hE : Env w) :
    Calls Try.prog 8 #[] w fun e w' => e = .returned (.bool true) ∧ Below w.heap.size w w' := by
  have k1 : Hid (encB ⟨#[97]⟩ = ⟨#[89, 81, 61, 61]⟩) := by show _ = _; decide +kernel
  have k2 : looseL (ByteArray.mk #[89, 32, 81]).data.toList = (ByteArray.mk #[97]).data.toList := by decide +kernel
  have K2 := Lib.hid k2
  clear k2
  go_enter Try.func8, Try.ntmps8
  go_wp2_with fail
  refine (enc_call { data := #[97] } w (by decide)).mono ?_
  rintro e w1 ⟨rfl, hb1⟩
  rw [k1.out]
  go_wp2_with fail
  refine (loose_call (t := { data := #[89, 32, 81] }) (s := { data := #[97] }) K2.out w1 (by decide) (hE.next hb1)).mono ?_
  rintro e w2 ⟨rfl, hb2⟩
  go_wp2
  go_ret
  exact ⟨rfl, hb1.trans (hb2.mono hb1.size)⟩
theorem awake_tail (w w1 : World) (hE : Env w) (hb : Below w.heap.size w w1) :
    Calls Try.prog 8 #[] w1 fun e w' => e = .returned (.bool true) ∧ Below w.heap.size w w' :=
  (awake_any w1 (hE.next hb)).mono fun _ _ h => ⟨h.1, hb.trans (h.2.mono hb.size)⟩
theorem num_any (n : Int) (w : World) :
    Calls Try.prog 13 #[.int .i64 n] w fun e w' => e = .returned (.int .i64 n) ∧ w = w' := by
  go_enter Try.func13, Try.ntmps13
  go_wp2
  go_ret
  exact ⟨rfl, rfl⟩

/-! ### BaseJoins -/
theorem app_data (a b : ByteArray) : (a ++ b).data.toList = a.data.toList ++ b.data.toList := by simp
theorem extract_front (a : ByteArray) (n : Nat) (h : n ≤ a.size) : (a.extract 0 n).data.toList = a.data.toList.take n ∧ (a.extract 0 n).size = n := by
  refine ⟨by simp, ?_⟩
  rw [ByteArray.size_extract]
  omega
set_option maxHeartbeats 1000000 in
set_option maxRecDepth 100000 in
theorem baseJoins_walk (a b : ByteArray) (w : World) (hE : Env w) :
    Calls Try.prog 6 #[.string a, .string b] w fun e w' => e = .returned (.bool true) ∧ Below w.heap.size w w' := by
  by_cases h : 1000 < a.size
  · have g : (1000 : Int) < a.size := by omega
    go_enter Try.func6, Try.ntmps6
    go_wp2_with fail
    refine (awake_any w hE).mono ?_
    rintro e w1 ⟨rfl, hb1⟩
    go_wp2
    go_ret
    exact ⟨rfl, hb1⟩
  have g : (a.size : Int) ≤ 1000 := by omega
  by_cases h' : 1000 < b.size
  · have g' : (1000 : Int) < b.size := by omega
    go_enter Try.func6, Try.ntmps6
    go_wp2_with fail
    refine (awake_any w hE).mono ?_
    rintro e w1 ⟨rfl, hb1⟩
    go_wp2
    go_ret
    exact ⟨rfl, hb1⟩
  have g' : (b.size : Int) ≤ 1000 := by omega
  have hx := extract_front a (a.size / 3 * 3) (by omega)
  obtain ⟨q, hq⟩ : ∃ q, a.extract 0 (a.size / 3 * 3) = q := ⟨_, rfl⟩
  have hqs : q.size = a.size / 3 * 3 := by rw [← hq]; exact hx.2
  have hql : q.size ≤ 1000 := by omega
  obtain ⟨s, hs⟩ : ∃ s, q ++ b = s := ⟨_, rfl⟩
  have zs : s.size ≤ 2000 := by rw [← hs, ByteArray.size_append]; omega
  have hj : encB s = encB q ++ encB b := by
    apply Kit.bytes_ext
    rw [app_data, encB_data, encB_data, encB_data, ← hs, app_data, encL_append _ _ (by rw [← Lib.size_eq]; omega)]
  have z1 : (encB q).size ≤ 1400 := by rw [encB_size]; omega
  have z2 : (encB b).size ≤ 1400 := by rw [encB_size]; omega
  have HQ := Lib.hid hq
  have HS := Lib.hid hs
  have HJ := Lib.hid hj
  clear hx hq hqs hs hj
  go_enter Try.func6, Try.ntmps6
  go_wp2_with fail
  rw [HQ.out, HS.out]
  refine (enc_call s w (by omega)).mono ?_
  rintro e w1 ⟨rfl, hb1⟩
  go_wp2_with fail
  refine (enc_call q w1 (by omega)).mono ?_
  rintro e w2 ⟨rfl, hb2⟩
  replace hb2 := hb1.trans (hb2.mono hb1.size)
  go_wp2_with fail
  refine (enc_call b w2 (by omega)).mono ?_
  rintro e w3 ⟨rfl, hb3⟩
  replace hb3 := hb2.trans (hb3.mono hb2.size)
  rw [HJ.out]
  go_wp2_with fail
  refine (awake_tail w w3 hE hb3).mono ?_
  rintro e w4 ⟨rfl, hb4⟩
  go_wp2
  go_ret
  exact ⟨rfl, hb4⟩

/-! ### BaseStrict -/
theorem cut_sizes (t : ByteArray) (k : Nat) (h : k < t.size) : (t.extract 0 k ++ ⟨#[32]⟩ ++ t.extract k t.size).size = t.size + 1 ∧ (t.extract 0 k ++ t.extract (k + 1) t.size).size = t.size - 1 ∧ (t ++ ⟨#[61]⟩).size = t.size + 1 := by
  have e1 : (ByteArray.mk #[32]).size = 1 := rfl
  have e2 : (ByteArray.mk #[61]).size = 1 := rfl
  refine ⟨?_, ?_, ?_⟩
  · rw [ByteArray.size_append, ByteArray.size_append, ByteArray.size_extract, ByteArray.size_extract, e1]; omega
  · rw [ByteArray.size_append, ByteArray.size_extract, ByteArray.size_extract]; omega
  · rw [ByteArray.size_append, e2]
set_option maxHeartbeats 1000000 in
set_option maxRecDepth 100000 in
theorem baseStrict_walk (s : ByteArray) (n : Int) (n0 : 0 ≤ n) (n1 : n ≤ 65535) (w : World) (hE : Env w) :
    Calls Try.prog 5 #[.string s, .int .u16 n] w fun e w' => e = .returned (.bool true) ∧ Below w.heap.size w w' := by
  rcases (show s.size = 0 ∨ (0 < s.size ∧ 3000 < s.size) ∨ (0 < s.size ∧ s.size ≤ 3000) by omega) with h | ⟨h, h2⟩ | ⟨h, h2⟩
  · have g : ((s.size : Int) == 0) = true := by rw [h]; rfl
    clear h
    go_enter Try.func5, Try.ntmps5
    go_wp2_with fail
    refine (awake_any w hE).mono ?_
    rintro e w1 ⟨rfl, hb1⟩
    go_wp2
    go_ret
    exact ⟨rfl, hb1⟩
  · have g : ((s.size : Int) == 0) = false := by rw [beq_eq_false_iff_ne]; omega
    have g2 : (3000 : Int) < s.size := by omega
    go_enter Try.func5, Try.ntmps5
    go_wp2_with fail
    refine (awake_any w hE).mono ?_
    rintro e w1 ⟨rfl, hb1⟩
    go_wp2
    go_ret
    exact ⟨rfl, hb1⟩
  have g : ((s.size : Int) == 0) = false := by rw [beq_eq_false_iff_ne]; omega
  have g2 : (s.size : Int) ≤ 3000 := by omega
  have hz := encB_size s
  have hz1 : (encB s).size % 4 = 0 ∧ 1 ≤ (encB s).size ∧ (encB s).size ≤ 4004 := by omega
  clear hz
  go_enter Try.func5, Try.ntmps5
  go_wp2_with fail
  refine (enc_call s w (by omega)).mono ?_
  rintro e w1 ⟨rfl, hb⟩
  generalize encB s = t at hz1 ⊢
  obtain ⟨t4, t0, t1⟩ := hz1
  have gt : ((t.size : Int) == 0) = false := by rw [beq_eq_false_iff_ne]; omega
  obtain ⟨k, hk⟩ : ∃ k : Nat, n % (t.size : Int) = (k : Int) := ⟨(n % (t.size : Int)).toNat, by have := Int.emod_nonneg n (show (t.size : Int) ≠ 0 by omega); omega⟩
  have hkt : k < t.size := by have := Int.emod_lt_of_pos n (show 0 < (t.size : Int) by omega); omega
  obtain ⟨z1, z2, z3⟩ := cut_sizes t k hkt
  have m1 : (t.extract 0 k ++ ⟨#[32]⟩ ++ t.extract k t.size).size % 4 ≠ 0 := by omega
  have m2 : (t.extract 0 k ++ t.extract (k + 1) t.size).size % 4 ≠ 0 := by omega
  have m3 : (t ++ ⟨#[61]⟩).size % 4 ≠ 0 := by omega
  have l1 : (t.extract 0 k ++ ⟨#[32]⟩ ++ t.extract k t.size).size ≤ 1099511627 := by omega
  have l2 : (t.extract 0 k ++ t.extract (k + 1) t.size).size ≤ 1099511627 := by omega
  have l3 : (t ++ ⟨#[61]⟩).size ≤ 1099511627 := by omega
  have D1 := Lib.hid (dec_no _ m1)
  have D2 := Lib.hid (dec_no _ m2)
  have D3 := Lib.hid (dec_no _ m3)
  have L1 := Lib.hid l1
  have L2 := Lib.hid l2
  have L3 := Lib.hid l3
  clear z1 z2 z3 m1 m2 m3 l1 l2 l3
  have HK := Lib.hid hk
  clear hk t4
  go_wp2_with fail
  rw [HK.out]
  go_upto_region 7 with fail
  go_cut [7, 8] from 32 (fun x y wx => x = .string ⟨#[]⟩ ∧ y = .int .i64 3 ∧ Below w.heap.size w wx)
  case first =>
    go_region_with ((go_at_call 9; refine (D1.out _ L1.out (hE.next hb.drew)).mono ?_; rintro e w' ⟨rfl, hb2⟩))
    all_goals
      go_wp2_with fail
      go_meet
      exact ⟨rfl, rfl, hb.trans (((Below.refl _ w1).drew.trans hb2).mono hb.size)⟩
  case rest =>
    obtain ⟨rfl, rfl, hbc⟩ := hcut
    clear hb
    go_upto_region 8 with fail
    go_cut [9, 10] from 44 (fun x y wx => x = .string ⟨#[]⟩ ∧ y = .int .i64 3 ∧ Below w.heap.size w wx)
    case first =>
      have e1 : IntKind.i64.wrap ((k : Int) + 1) = (k : Int) + 1 := IntWalk.i64_in _ (by omega)
      go_region_with ((go_at_call 9; refine (D2.out _ L2.out (hE.next hbc.drew)).mono ?_; rintro e w' ⟨rfl, hb2⟩))
      all_goals
        go_wp2_with fail
        go_meet
        exact ⟨rfl, rfl, hbc.trans (((Below.refl _ wc).drew.trans hb2).mono hbc.size)⟩
    case rest =>
      obtain ⟨rfl, rfl, hbd⟩ := hcut
      go_wp2_with fail
      refine (D3.out _ L3.out (hE.next hbd)).mono ?_
      rintro e w2 ⟨rfl, hb2⟩
      replace hb2 := hbd.trans (hb2.mono hbd.size)
      go_wp2_with fail
      refine (num_any 3 w2).mono ?_
      rintro e w' ⟨rfl, rfl⟩
      go_wp2_with fail
      refine (num_any 3 w2).mono ?_
      rintro e w' ⟨rfl, rfl⟩
      go_wp2_with fail
      refine (num_any 3 w2).mono ?_
      rintro e w' ⟨rfl, rfl⟩
      go_wp2_with fail
      refine (awake_tail w w2 hE hb2).mono ?_
      rintro e w4 ⟨rfl, hb4⟩
      go_wp2
      go_ret
      exact ⟨rfl, hb4⟩
end Go.Proofs.Ytfeeopcidjdonaa.B6
