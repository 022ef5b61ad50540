/-
  The law UtfJoins returns true: two valid texts together are valid; cut at the first's length of code points it is the first. Condition: none.
-/
import Derived.Test.YtkdpcfogfjknoaaU8Spoilt
namespace Go.Proofs.Ytkdpcfogfjknoaa.U8
open Go Go.RowKit Go.Joins Kit

theorem cutB_of {s : ByteArray} {k n : Nat} (h : cutN k s.data.toList = n) : cutB s k = ⟨(s.data.toList.take n).toArray⟩ := by
  unfold cutB
  rw [h]

set_option maxHeartbeats 1000000 in
set_option maxRecDepth 100000 in
theorem utfJoins_walk (a b : ByteArray) (w : World) :
    Calls Try.prog 8 #[.string a, .string b] w fun e w' => e = .returned (.bool true) ∧ Below w.heap.size w w' := by
  rcases (show 500 < a.size ∨ (a.size ≤ 500 ∧ 500 < b.size) ∨ (a.size ≤ 500 ∧ b.size ≤ 500) by omega) with h | ⟨h, h'⟩ | ⟨h, h'⟩
  · have g : (500 : Int) < a.size := by omega
    go_enter Try.func8, Try.ntmps8
    go_wp2_with fail
    refine (awake_any w).mono ?_
    rintro e w1 ⟨rfl, hb1⟩
    go_wp2
    go_ret
    exact ⟨rfl, hb1⟩
  · have g : (a.size : Int) ≤ 500 := by omega
    have g' : (500 : Int) < b.size := by omega
    go_enter Try.func8, Try.ntmps8
    go_wp2_with fail
    refine (awake_any w).mono ?_
    rintro e w1 ⟨rfl, hb1⟩
    go_wp2
    go_ret
    exact ⟨rfl, hb1⟩
  have g : (a.size : Int) ≤ 500 := by omega
  have g' : (b.size : Int) ≤ 500 := by omega
  have d1 : decide ((500 : Int) < a.size) = false := by rw [decide_eq_false_iff_not]; omega
  have d2 : decide ((500 : Int) < b.size) = false := by rw [decide_eq_false_iff_not]; omega
  cases hva : validL a.data.toList
  · have HVA := Lib.hid hva
    clear hva
    go_enter Try.func8, Try.ntmps8
    go_wp2_with fail
    refine (valid_any a (by omega) w).mono ?_
    rintro e w' ⟨rfl, rfl⟩
    rw [HVA.out]
    go_wp2_with fail
    refine (awake_any w).mono ?_
    rintro e w1 ⟨rfl, hb1⟩
    go_wp2
    go_ret
    exact ⟨rfl, hb1⟩
  cases hvb : validL b.data.toList
  · have HVA := Lib.hid hva
    have HVB := Lib.hid hvb
    clear hva hvb
    go_enter Try.func8, Try.ntmps8
    go_wp2_with fail
    refine (valid_any a (by omega) w).mono ?_
    rintro e w' ⟨rfl, rfl⟩
    rw [HVA.out]
    go_wp2_with fail
    refine (valid_any b (by omega) w).mono ?_
    rintro e w' ⟨rfl, rfl⟩
    rw [HVB.out]
    go_wp2_with fail
    refine (awake_any w).mono ?_
    rintro e w1 ⟨rfl, hb1⟩
    go_wp2
    go_ret
    exact ⟨rfl, hb1⟩
  obtain ⟨s, hs⟩ : ∃ s, a ++ b = s := ⟨_, rfl⟩
  have hsl : s.data.toList = a.data.toList ++ b.data.toList := by rw [← hs, app_data]
  have zs : s.size ≤ 1000 := by rw [← hs, ByteArray.size_append]; omega
  have vs := Lib.hid (show validL s.data.toList = true by rw [hsl, validL_append _ _ hva]; exact hvb)
  have HVA := Lib.hid hva
  have HVB := Lib.hid hvb
  have HS := Lib.hid hs
  have HSL := Lib.hid hsl
  clear hva hvb hs hsl
  go_enter Try.func8, Try.ntmps8
  go_wp2_with fail
  refine (valid_any a (by omega) w).mono ?_
  rintro e w' ⟨rfl, rfl⟩
  rw [HVA.out]
  go_wp2_with fail
  refine (valid_any b (by omega) w).mono ?_
  rintro e w' ⟨rfl, rfl⟩
  rw [HVB.out]
  go_wp2_with fail
  go_loop [5, 6] (fun n i => ∃ p k : Nat, p ≤ a.size ∧ k ≤ p ∧ i = .int .i64 p ∧ n = .int .i64 k ∧ Hid (validL (a.data.toList.drop p) = true ∧ ∀ (t : List UInt8) (j : Nat), cutN (k + j) (a.data.toList ++ t) = p + cutN j ((a.data.toList ++ t).drop p))) (fun _ i => a.size - (intOf i).toNat)
  case atStart => exact ⟨0, 0, by omega, by omega, rfl, rfl, by show _ ∧ _; exact ⟨HVA.out, fun t j => by simp⟩⟩
  case round =>
    obtain ⟨p, k, hp, hkp, rfl, rfl, hinv⟩ := hrel
    by_cases hlt : p < a.size
    · have g1 : (p : Int) < a.size := by omega
      cases hd : decL (a.data.toList.drop p) with
      | none =>
        exfalso
        have := hinv.out.1
        rw [validL_none (drop_ne hlt) hd] at this
        cases this
      | some q =>
        obtain ⟨r, n⟩ := q
        have hr := decL_room hd
        have hrl := decL_lt hd
        have hnx : Hid (validL (a.data.toList.drop (p + n)) = true ∧ ∀ (t : List UInt8) (j : Nat), cutN (k + 1 + j) (a.data.toList ++ t) = p + n + cutN j ((a.data.toList ++ t).drop (p + n))) := by
          show _ ∧ _
          refine ⟨?_, fun t j => ?_⟩
          · have := hinv.out.1
            rw [validL_some hd, List.drop_drop] at this
            exact this
          · have hd2 : decL ((a.data.toList ++ t).drop p) = some (r, n) := by
              rw [drop_append (by rw [← Lib.size_eq]; omega)]
              exact decL_append hd t
            rw [show k + 1 + j = k + (j + 1) by omega, hinv.out.2 t (j + 1), cutN_some hd2, List.drop_drop]
            omega
        have HD := Lib.hid hd
        have gn : (p : Int) < p + n := by omega
        have r0 : (0 : Int) ≤ r := by omega
        clear hd
        go_wp2_with fail
        refine (get_some HD.out (by omega) w).mono ?_
        rintro e w1 ⟨rfl, rfl⟩
        go_wp2
        go_round
        case rel => exact ⟨p + n, k + 1, by omega, by omega, by go_num, by go_num, hnx⟩
        case measure => simp [intOf]; omega
    · have he : p = a.size := by omega
      have c1 : Hid (cutB s k = a) := by
        show _ = _
        apply Kit.bytes_ext
        have := hinv.out.2 b.data.toList 0
        rw [← HSL.out, he] at this
        rw [cutB_of (show cutN k s.data.toList = a.size from this), HSL.out, Lib.size_eq, List.take_left]
      have c2 : Hid (cutB a (k + 1) = a) := by
        show _ = _
        apply Kit.bytes_ext
        have := hinv.out.2 [] 1
        rw [List.append_nil, he, drop_end (Nat.le_refl _)] at this
        rw [cutB_of (show cutN (k + 1) a.data.toList = a.size from this)]
        show a.data.toList.take a.size = _
        exact List.take_of_length_le (by rw [← Lib.size_eq]; exact Nat.le_refl _)
      have g1 : ¬ (p : Int) < a.size := by omega
      clear he
      go_wp2_with fail
      rw [HS.out]
      refine (valid_any s (by omega) w).mono ?_
      rintro e w' ⟨rfl, rfl⟩
      rw [vs.out]
      go_wp2_with fail
      rw [HS.out]
      refine (cut_any s k (by omega) (by omega) w).mono ?_
      rintro e w1 ⟨rfl, hb⟩
      rw [show ((k : Nat) : Int).toNat = k from rfl, c1.out]
      go_wp2_with fail
      refine (cut_any a ((k : Int) + 1) (by omega) (by omega) w1).mono ?_
      rintro e w2 ⟨rfl, hb2⟩
      rw [show ((k : Int) + 1).toNat = k + 1 by omega, c2.out]
      replace hb := hb.trans (hb2.mono hb.size)
      clear hb2
      go_wp2_with fail
      refine (awake_tail w w2 hb).mono ?_
      rintro e w3 ⟨rfl, hb1⟩
      go_wp2
      go_ret
      exact ⟨rfl, hb1⟩
end Go.Proofs.Ytkdpcfogfjknoaa.U8
