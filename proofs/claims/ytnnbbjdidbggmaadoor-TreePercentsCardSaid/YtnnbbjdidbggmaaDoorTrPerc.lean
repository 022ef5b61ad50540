/-
  The law TreePercents returns true: a percent sign stands for all but the sign between names; two of them, with that between, for just that many. Condition: none.
-/
import Derived.Test.YtnnbbjdidbggmaaDoorTrSelf
namespace Go.Proofs.YtnnbbjdidbggmaaDoor.Tr
open Go Go.RowKit Go.Joins Kit


set_option maxHeartbeats 2000000 in
set_option maxRecDepth 100000 in
theorem treePercents_walk (a b : ByteArray) (w : World) :
    Calls Tryd.prog 6 #[.string a, .string b] w fun e w' => e = .returned (.bool true) ∧ Below w.heap.size w w' := by
  rcases (show 100 < a.size ∨ (a.size ≤ 100 ∧ 100 < b.size) ∨ (a.size ≤ 100 ∧ b.size ≤ 100) by omega) with h | ⟨h, h'⟩ | ⟨h, h'⟩
  · have g : (100 : Int) < a.size := by omega
    go_enter Tryd.func6, Tryd.ntmps6
    go_wp2_with fail
    refine (awake_any w).mono ?_
    rintro e w1 ⟨rfl, hb1⟩
    go_wp2
    go_ret
    exact ⟨rfl, hb1⟩
  · have g : (a.size : Int) ≤ 100 := by omega
    have g' : (100 : Int) < b.size := by omega
    go_enter Tryd.func6, Tryd.ntmps6
    go_wp2_with fail
    refine (awake_any w).mono ?_
    rintro e w1 ⟨rfl, hb1⟩
    go_wp2
    go_ret
    exact ⟨rfl, hb1⟩
  have d1 : decide ((100 : Int) < a.size) = false := by rw [decide_eq_false_iff_not]; omega
  have d2 : decide ((100 : Int) < b.size) = false := by rw [decide_eq_false_iff_not]; omega
  go_enter Tryd.func6, Tryd.ntmps6
  go_wp2_with fail
  go_loop [5] (fun i => ∃ (k : Nat), k ≤ a.size ∧ i = .int .i64 k ∧ Hid (∀ y ∈ a.data.toList.take k, y ≠ 47)) (fun i => a.size - (intOf i).toNat)
  case atStart => exact ⟨0, Nat.zero_le _, rfl, Lib.hid (fun y hy => by simp at hy)⟩
  case round =>
    obtain ⟨k, hk, rfl, hla⟩ := hrel
    by_cases hlt : k < a.size
    · have g2 : (k : Int) < a.size := by omega
      obtain ⟨y, hy⟩ : ∃ y, a[k] = y := ⟨_, rfl⟩
      have HNX : Hid (y ≠ 47 → ∀ z ∈ a.data.toList.take (k + 1), z ≠ 47) := Lib.hid (fun h z hz => by
        have hkl : k < a.data.toList.length := by rw [← Lib.size_eq]; exact hlt
        rw [List.take_succ_eq_append_getElem hkl] at hz
        rcases List.mem_append.1 hz with hz | hz
        · exact hla.out z hz
        · rw [List.mem_singleton] at hz
          rw [hz]
          have e : a.data.toList[k] = y := by rw [← hy]; exact byte_get _ k hlt
          rw [e]
          exact h)
      by_cases h47 : y = 47
      · subst h47
        clear HNX
        go_wp2_with fail
        refine (awake_any w).mono ?_
        rintro e w1 ⟨rfl, hb1⟩
        go_wp2_with fail
        go_ret
        exact ⟨rfl, hb1⟩
      · have HN2 := Lib.hid (HNX.out h47)
        have hn1 : ((y.toNat : Int) == 47) = false := by
          rw [beq_eq_false_iff_ne]
          intro e
          exact h47 (UInt8.toNat_inj.1 (by show y.toNat = 47; omega))
        clear h47 HNX
        go_wp2_with fail
        go_round
        case rel => exact ⟨k + 1, by omega, by go_num, HN2⟩
        case measure => simp [intOf]; omega
    · obtain rfl : k = a.size := by omega
      have g2 : ¬ (a.size : Int) < a.size := by omega
      rw [List.take_of_length_le (by rw [← Lib.size_eq]; exact Nat.le_refl _)] at hla
      go_wp2_with fail
      go_loop [6] (fun i => ∃ (k : Nat), k ≤ b.size ∧ i = .int .i64 k ∧ Hid (∀ y ∈ b.data.toList.take k, y ≠ 47)) (fun i => b.size - (intOf i).toNat)
      case atStart => exact ⟨0, Nat.zero_le _, rfl, Lib.hid (fun y hy => by simp at hy)⟩
      case round =>
        obtain ⟨k, hk, rfl, hlb⟩ := hrel
        by_cases hlt : k < b.size
        · have g2 : (k : Int) < b.size := by omega
          obtain ⟨y, hy⟩ : ∃ y, b[k] = y := ⟨_, rfl⟩
          have HNX : Hid (y ≠ 47 → ∀ z ∈ b.data.toList.take (k + 1), z ≠ 47) := Lib.hid (fun h z hz => by
            have hkl : k < b.data.toList.length := by rw [← Lib.size_eq]; exact hlt
            rw [List.take_succ_eq_append_getElem hkl] at hz
            rcases List.mem_append.1 hz with hz | hz
            · exact hlb.out z hz
            · rw [List.mem_singleton] at hz
              rw [hz]
              have e : b.data.toList[k] = y := by rw [← hy]; exact byte_get _ k hlt
              rw [e]
              exact h)
          by_cases h47 : y = 47
          · subst h47
            clear HNX
            go_wp2_with fail
            refine (awake_any w).mono ?_
            rintro e w1 ⟨rfl, hb1⟩
            go_wp2_with fail
            go_ret
            exact ⟨rfl, hb1⟩
          · have HN2 := Lib.hid (HNX.out h47)
            have hn1 : ((y.toNat : Int) == 47) = false := by
              rw [beq_eq_false_iff_ne]
              intro e
              exact h47 (UInt8.toNat_inj.1 (by show y.toNat = 47; omega))
            clear h47 HNX
            go_wp2_with fail
            go_round
            case rel => exact ⟨k + 1, by omega, by go_num, HN2⟩
            case measure => simp [intOf]; omega
        · obtain rfl : k = b.size := by omega
          have g2 : ¬ (b.size : Int) < b.size := by omega
          rw [List.take_of_length_le (by rw [← Lib.size_eq]; exact Nat.le_refl _)] at hlb
          have H1 : Hid (∀ W, Calls Tryd.prog 8 #[.string ⟨#[37]⟩, .string a] W fun e w' => e = .returned (.bool true) ∧ Below W.heap.size W w') := Lib.hid (fun W => match_to true W (by decide) (by omega) (pct_all _ hla.out))
          have H2 : Hid (∀ W, Calls Tryd.prog 8 #[.string ⟨#[37, 47, 37]⟩, .string (a ++ ⟨#[47]⟩ ++ b)] W fun e w' => e = .returned (.bool true) ∧ Below W.heap.size W w') := Lib.hid (fun W => match_to true W (by decide) (by rw [ByteArray.size_append, ByteArray.size_append, show (ByteArray.mk #[47]).size = 1 from rfl]; omega) (by rw [app3]; exact pct_two _ _ hla.out hlb.out))
          have H3 : Hid (∀ W, Calls Tryd.prog 8 #[.string ⟨#[37]⟩, .string (a ++ ⟨#[47]⟩ ++ b)] W fun e w' => e = .returned (.bool false) ∧ Below W.heap.size W w') := Lib.hid (fun W => match_to false W (by decide) (by rw [ByteArray.size_append, ByteArray.size_append, show (ByteArray.mk #[47]).size = 1 from rfl]; omega) (by rw [app3]; exact pct_no _ _))
          have H4 : Hid (∀ W, Calls Tryd.prog 8 #[.string ⟨#[37, 47, 37]⟩, .string a] W fun e w' => e = .returned (.bool false) ∧ Below W.heap.size W w') := Lib.hid (fun W => match_to false W (by decide) (by omega) (pct_two_no _ hla.out))
          have H5 : Hid (∀ W, Calls Tryd.prog 8 #[.string ⟨#[42, 47, 37]⟩, .string (a ++ ⟨#[47]⟩ ++ b)] W fun e w' => e = .returned (.bool true) ∧ Below W.heap.size W w') := Lib.hid (fun W => match_to true W (by decide) (by rw [ByteArray.size_append, ByteArray.size_append, show (ByteArray.mk #[47]).size = 1 from rfl]; omega) (by rw [app3]; exact star_pct _ _ hlb.out))
          have H6 : Hid (∀ W, Calls Tryd.prog 8 #[.string ⟨#[37, 42]⟩, .string (a ++ ⟨#[47]⟩ ++ b)] W fun e w' => e = .returned (.bool true) ∧ Below W.heap.size W w') := Lib.hid (fun W => match_to true W (by decide) (by rw [ByteArray.size_append, ByteArray.size_append, show (ByteArray.mk #[47]).size = 1 from rfl]; omega) (pct_star _))
          go_wp2_with fail
          refine (H1.out w).mono ?_
          rintro e v0 ⟨rfl, hb0⟩
          have HB0 := Lib.hid hb0
          clear hb0
          go_wp2_with fail
          refine (H2.out v0).mono ?_
          rintro e v1 ⟨rfl, hb1⟩
          have HB1 := Lib.hid (HB0.out.trans (hb1.mono HB0.out.size))
          clear hb1
          go_wp2_with fail
          refine (H3.out v1).mono ?_
          rintro e v2 ⟨rfl, hb2⟩
          have HB2 := Lib.hid (HB1.out.trans (hb2.mono HB1.out.size))
          clear hb2
          go_wp2_with fail
          refine (H4.out v2).mono ?_
          rintro e v3 ⟨rfl, hb3⟩
          have HB3 := Lib.hid (HB2.out.trans (hb3.mono HB2.out.size))
          clear hb3
          go_wp2_with fail
          refine (H5.out v3).mono ?_
          rintro e v4 ⟨rfl, hb4⟩
          have HB4 := Lib.hid (HB3.out.trans (hb4.mono HB3.out.size))
          clear hb4
          go_wp2_with fail
          refine (H6.out v4).mono ?_
          rintro e v5 ⟨rfl, hb5⟩
          have HB5 := Lib.hid (HB4.out.trans (hb5.mono HB4.out.size))
          clear hb5
          go_wp2_with fail
          refine (awake_any v5).mono ?_
          rintro e v6 ⟨rfl, hb6⟩
          have HB6 := Lib.hid (HB5.out.trans (hb6.mono HB5.out.size))
          clear hb6
          go_wp2_with fail
          go_ret
          exact ⟨rfl, HB6.out⟩
end Go.Proofs.YtnnbbjdidbggmaaDoor.Tr
