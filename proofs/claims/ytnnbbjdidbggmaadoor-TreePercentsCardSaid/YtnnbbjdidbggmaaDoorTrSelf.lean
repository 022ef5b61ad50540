/-
  The law TreeSelf returns true: a text without signs matches itself alone; a star matches all, ahead, behind and between. Condition: none.
-/
import Derived.Test.YtnnbbjdidbggmaaDoorTrAwake
import Derived.Test.YtnnbbjdidbggmaaDoorTrLawP
namespace Go.Proofs.YtnnbbjdidbggmaaDoor.Tr
open Go Go.RowKit Go.Joins Kit

theorem app3 (a b c : ByteArray) : (a ++ b ++ c).data.toList = a.data.toList ++ b.data.toList ++ c.data.toList := by simp
set_option maxHeartbeats 2000000 in
set_option maxRecDepth 100000 in
theorem treeSelf_walk (a b c : ByteArray) (w : World) :
    Calls Tryd.prog 4 #[.string a, .string b, .string c] w fun e w' => e = .returned (.bool true) ∧ Below w.heap.size w w' := by
  rcases (show 100 < a.size ∨ (a.size ≤ 100 ∧ 100 < b.size) ∨ (a.size ≤ 100 ∧ b.size ≤ 100 ∧ 100 < c.size) ∨ (a.size ≤ 100 ∧ b.size ≤ 100 ∧ c.size ≤ 100) by omega) with h | ⟨h, h'⟩ | ⟨h, h', h''⟩ | ⟨h, h', h''⟩
  · have g : (100 : Int) < a.size := by omega
    go_enter Tryd.func4, Tryd.ntmps4
    go_wp2_with fail
    refine (awake_any w).mono ?_
    rintro e w1 ⟨rfl, hb1⟩
    go_wp2
    go_ret
    exact ⟨rfl, hb1⟩
  · have g : (a.size : Int) ≤ 100 := by omega
    have g' : (100 : Int) < b.size := by omega
    go_enter Tryd.func4, Tryd.ntmps4
    go_wp2_with fail
    refine (awake_any w).mono ?_
    rintro e w1 ⟨rfl, hb1⟩
    go_wp2
    go_ret
    exact ⟨rfl, hb1⟩
  · have g : (a.size : Int) ≤ 100 := by omega
    have g' : (b.size : Int) ≤ 100 := by omega
    have g'' : (100 : Int) < c.size := by omega
    go_enter Tryd.func4, Tryd.ntmps4
    go_wp2_with fail
    refine (awake_any w).mono ?_
    rintro e w1 ⟨rfl, hb1⟩
    go_wp2
    go_ret
    exact ⟨rfl, hb1⟩
  have d1 : decide ((100 : Int) < a.size) = false := by rw [decide_eq_false_iff_not]; omega
  have d2 : decide ((100 : Int) < b.size) = false := by rw [decide_eq_false_iff_not]; omega
  have d3 : decide ((100 : Int) < c.size) = false := by rw [decide_eq_false_iff_not]; omega
  obtain ⟨S, hS⟩ : ∃ S, a ++ b ++ c = S := ⟨_, rfl⟩
  have HSL : Hid (S.data.toList = a.data.toList ++ b.data.toList ++ c.data.toList) := Lib.hid (by rw [← hS]; exact app3 a b c)
  have zS : S.size ≤ 300 := by rw [← hS, ByteArray.size_append, ByteArray.size_append]; omega
  go_enter Tryd.func4, Tryd.ntmps4
  go_wp2_with fail
  go_loop [8, 9] (fun s i => ∃ (k : Nat) (x : Bool), k ≤ b.size ∧ i = .int .i64 k ∧ s = .bool x ∧ Hid (x = false → ∀ y ∈ b.data.toList.take k, y ≠ 47)) (fun _ i => b.size - (intOf i).toNat)
  case atStart => exact ⟨0, false, Nat.zero_le _, rfl, rfl, Lib.hid (fun _ y hy => by simp at hy)⟩
  case round =>
    obtain ⟨k, x, hk, rfl, rfl, hx⟩ := hrel
    by_cases hlt : k < b.size
    · have g1 : (k : Int) < b.size := by omega
      obtain ⟨y, hy⟩ : ∃ y, b[k] = y := ⟨_, rfl⟩
      have HNX : Hid ((x || (y == 47)) = false → ∀ z ∈ b.data.toList.take (k + 1), z ≠ 47) := Lib.hid (fun h z hz => by
        rw [Bool.or_eq_false_iff] at h
        have hkl : k < b.data.toList.length := by rw [← Lib.size_eq]; exact hlt
        rw [List.take_succ_eq_append_getElem hkl] at hz
        rcases List.mem_append.1 hz with hz | hz
        · exact hx.out h.1 z hz
        · rw [List.mem_singleton] at hz
          rw [hz]
          have e : b.data.toList[k] = y := by rw [← hy]; exact byte_get _ k hlt
          rw [e]
          exact beq_eq_false_iff_ne.1 h.2)
      cases x
      · by_cases h47 : y = 47
        · subst h47
          go_wp2_with fail
          go_round
          case rel => exact ⟨k + 1, true, by omega, by go_num, rfl, Lib.hid (fun h => by cases h)⟩
          case measure => simp [intOf]; omega
        · have hne : ((y.toNat : Int) == 47) = false := by
            rw [beq_eq_false_iff_ne]
            intro e
            exact h47 (UInt8.toNat_inj.1 (by show y.toNat = 47; omega))
          have HN2 := Lib.hid (HNX.out (by rw [Bool.false_or]; exact beq_eq_false_iff_ne.2 h47))
          clear h47
          go_wp2_with fail
          go_round
          case rel => exact ⟨k + 1, false, by omega, by go_num, rfl, Lib.hid (fun _ => HN2.out)⟩
          case measure => simp [intOf]; omega
      · go_wp2_with fail
        go_round
        case rel => exact ⟨k + 1, true, by omega, by go_num, rfl, Lib.hid (fun h => by cases h)⟩
        case measure => simp [intOf]; omega
    · obtain rfl : k = b.size := by omega
      have g1 : ¬ (b.size : Int) < b.size := by omega
      rw [List.take_of_length_le (by rw [← Lib.size_eq]; exact Nat.le_refl _)] at hx
      go_wp2_with fail
      go_loop [10] (fun i => ∃ (k : Nat), k ≤ S.size ∧ i = .int .i64 k ∧ Hid (∀ y ∈ S.data.toList.take k, lit y)) (fun i => S.size - (intOf i).toNat)
      case atStart => exact ⟨0, Nat.zero_le _, rfl, Lib.hid (fun y hy => by simp at hy)⟩
      case round =>
        obtain ⟨k, hk, rfl, hl⟩ := hrel
        by_cases hlt : k < S.size
        · have g2 : (k : Int) < S.size := by omega
          obtain ⟨y, hy⟩ : ∃ y, S[k] = y := ⟨_, rfl⟩
          have HNX : Hid (lit y → ∀ z ∈ S.data.toList.take (k + 1), lit z) := Lib.hid (fun h z hz => by
            have hkl : k < S.data.toList.length := by rw [← Lib.size_eq]; exact hlt
            rw [List.take_succ_eq_append_getElem hkl] at hz
            rcases List.mem_append.1 hz with hz | hz
            · exact hl.out z hz
            · rw [List.mem_singleton] at hz
              rw [hz]
              have e : S.data.toList[k] = y := by rw [← hy]; exact byte_get _ k hlt
              rw [e]
              exact h)
          rcases byte_cases y with rfl | rfl | hly
          · clear HNX
            go_wp2_with fail
            refine (awake_any w).mono ?_
            rintro e w1 ⟨rfl, hb1⟩
            go_wp2_with fail
            go_ret
            exact ⟨rfl, hb1⟩
          · clear HNX
            go_wp2_with fail
            refine (awake_any w).mono ?_
            rintro e w1 ⟨rfl, hb1⟩
            go_wp2_with fail
            go_ret
            exact ⟨rfl, hb1⟩
          · have HN2 := Lib.hid (HNX.out hly)
            have hn1 : ((y.toNat : Int) == 42) = false := by
              rw [beq_eq_false_iff_ne]
              intro e
              exact hly.1 (UInt8.toNat_inj.1 (by show y.toNat = 42; omega))
            have hn2 : ((y.toNat : Int) == 37) = false := by
              rw [beq_eq_false_iff_ne]
              intro e
              exact hly.2 (UInt8.toNat_inj.1 (by show y.toNat = 37; omega))
            clear hly HNX
            go_wp2_with fail
            go_round
            case rel => exact ⟨k + 1, by omega, by go_num, HN2⟩
            case measure => simp [intOf]; omega
        · obtain rfl : k = S.size := by omega
          have g2 : ¬ (S.size : Int) < S.size := by omega
          rw [List.take_of_length_le (by rw [← Lib.size_eq]; exact Nat.le_refl _)] at hl
          have hla : ∀ y ∈ a.data.toList, lit y := fun y hy => hl.out y (by rw [HSL.out]; simp [hy])
          have hlb : ∀ y ∈ b.data.toList, lit y := fun y hy => hl.out y (by rw [HSL.out]; simp [hy])
          have hlc : ∀ y ∈ c.data.toList, lit y := fun y hy => hl.out y (by rw [HSL.out]; simp [hy])
          have H1 : Hid (∀ W, Calls Tryd.prog 8 #[.string S, .string S] W fun e w' => e = .returned (.bool true) ∧ Below W.heap.size W w') := Lib.hid (fun W => match_to true W (by omega) (by omega) (self_yes _ hl.out))
          have H2 : Hid (∀ W, Calls Tryd.prog 8 #[.string S, .string (S ++ ⟨#[120]⟩)] W fun e w' => e = .returned (.bool false) ∧ Below W.heap.size W w') := Lib.hid (fun W => match_to false W (by omega) (by rw [ByteArray.size_append, show (ByteArray.mk #[120]).size = 1 from rfl]; omega) (by
            rw [show (S ++ ByteArray.mk #[120]).data.toList = S.data.toList ++ [120] by simp]
            exact self_no _ hl.out))
          have H3 : Hid (∀ W, Calls Tryd.prog 8 #[.string ⟨#[42]⟩, .string S] W fun e w' => e = .returned (.bool true) ∧ Below W.heap.size W w') := Lib.hid (fun W => match_to true W (by decide) (by omega) (star_all _))
          have H4 : Hid (∀ W, Calls Tryd.prog 8 #[.string (a ++ ⟨#[42]⟩ ++ c), .string S] W fun e w' => e = .returned (.bool true) ∧ Below W.heap.size W w') := Lib.hid (fun W => match_to true W (by rw [ByteArray.size_append, ByteArray.size_append, show (ByteArray.mk #[42]).size = 1 from rfl]; omega) (by omega) (by
            rw [HSL.out, app3]
            exact star_mid _ _ _ hla hlc))
          have H5 : Hid (∀ W, Calls Tryd.prog 8 #[.string (⟨#[42]⟩ ++ b ++ ⟨#[42]⟩), .string S] W fun e w' => e = .returned (.bool true) ∧ Below W.heap.size W w') := Lib.hid (fun W => match_to true W (by rw [ByteArray.size_append, ByteArray.size_append, show (ByteArray.mk #[42]).size = 1 from rfl]; omega) (by omega) (by
            rw [HSL.out, app3]
            exact star_two _ _ _ hlb))
          have H6 : Hid (x = false → ∀ W, Calls Tryd.prog 8 #[.string (a ++ ⟨#[37]⟩ ++ c), .string S] W fun e w' => e = .returned (.bool true) ∧ Below W.heap.size W w') := Lib.hid (fun h W => match_to true W (by rw [ByteArray.size_append, ByteArray.size_append, show (ByteArray.mk #[37]).size = 1 from rfl]; omega) (by omega) (by
            rw [HSL.out, app3]
            exact pct_mid _ _ _ hla (hx.out h) hlc))
          clear hla hlb hlc
          cases x
          · have H7 := Lib.hid (H6.out rfl)
            clear H6
            go_wp2_with fail
            refine (H1.out w).mono ?_
            rintro e v0 ⟨rfl, hb0⟩
            have HB0 := Lib.hid hb0
            clear hb0
            go_wp2_with fail
            refine (H2.out v0).mono ?_
            rintro e v1 ⟨rfl, hb1⟩
            have HB1 := Lib.hid (HB0.out.trans (hb1.mono HB0.out.size))
            clear hb1
            go_wp2_with fail
            refine (H3.out v1).mono ?_
            rintro e v2 ⟨rfl, hb2⟩
            have HB2 := Lib.hid (HB1.out.trans (hb2.mono HB1.out.size))
            clear hb2
            go_wp2_with fail
            refine (H4.out v2).mono ?_
            rintro e v3 ⟨rfl, hb3⟩
            have HB3 := Lib.hid (HB2.out.trans (hb3.mono HB2.out.size))
            clear hb3
            go_wp2_with fail
            refine (H5.out v3).mono ?_
            rintro e v4 ⟨rfl, hb4⟩
            have HB4 := Lib.hid (HB3.out.trans (hb4.mono HB3.out.size))
            clear hb4
            go_wp2_with fail
            refine (H7.out v4).mono ?_
            rintro e v5 ⟨rfl, hb5⟩
            have HB5 := Lib.hid (HB4.out.trans (hb5.mono HB4.out.size))
            clear hb5
            go_wp2_with fail
            refine (awake_any v5).mono ?_
            rintro e v6 ⟨rfl, hb6⟩
            have HB6 := Lib.hid (HB5.out.trans (hb6.mono HB5.out.size))
            clear hb6
            go_wp2_with fail
            go_ret
            exact ⟨rfl, HB6.out⟩
          · clear H6
            go_wp2_with fail
            refine (H1.out w).mono ?_
            rintro e v0 ⟨rfl, hb0⟩
            have HB0 := Lib.hid hb0
            clear hb0
            go_wp2_with fail
            refine (H2.out v0).mono ?_
            rintro e v1 ⟨rfl, hb1⟩
            have HB1 := Lib.hid (HB0.out.trans (hb1.mono HB0.out.size))
            clear hb1
            go_wp2_with fail
            refine (H3.out v1).mono ?_
            rintro e v2 ⟨rfl, hb2⟩
            have HB2 := Lib.hid (HB1.out.trans (hb2.mono HB1.out.size))
            clear hb2
            go_wp2_with fail
            refine (H4.out v2).mono ?_
            rintro e v3 ⟨rfl, hb3⟩
            have HB3 := Lib.hid (HB2.out.trans (hb3.mono HB2.out.size))
            clear hb3
            go_wp2_with fail
            refine (H5.out v3).mono ?_
            rintro e v4 ⟨rfl, hb4⟩
            have HB4 := Lib.hid (HB3.out.trans (hb4.mono HB3.out.size))
            clear hb4
            go_wp2_with fail
            refine (awake_any v4).mono ?_
            rintro e v5 ⟨rfl, hb5⟩
            have HB5 := Lib.hid (HB4.out.trans (hb5.mono HB4.out.size))
            clear hb5
            go_wp2_with fail
            go_ret
            exact ⟨rfl, HB5.out⟩
end Go.Proofs.YtnnbbjdidbggmaaDoor.Tr
