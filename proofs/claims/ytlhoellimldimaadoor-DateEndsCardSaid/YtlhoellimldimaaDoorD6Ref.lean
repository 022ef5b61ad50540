/-
  The document's answer for package date, as the statements have it: leap years, days of a month, days ahead of a year, a second's date and time. Conditions: years of at most 20000.
-/
import Derived.Test.YtlhoellimldimaaDoorD6Val
import Derived.IntWalk
namespace Go.Proofs.YtlhoellimldimaaDoor.D6
open Go Go.RowKit Go.Joins Kit

theorem rleap_any (y : Nat) (hy : (y : Int) ≤ 20000) (w : World) :
    Calls Tryd.prog 54 #[.int .i64 y] w fun e w' => e = .returned (.bool (leapN y)) ∧ w = w' := by
  go_enter Tryd.func54, Tryd.ntmps54
  by_cases h4 : (y : Int) % 4 = 0
  · by_cases h100 : (y : Int) % 100 = 0
    · by_cases h400 : (y : Int) % 400 = 0
      · have HL := Lib.hid (show leapN y = true from (leap_iff y).2 ⟨by omega, Or.inr (by omega)⟩)
        go_wp2
        go_ret
        exact ⟨by rw [HL.out]; first | rfl | simp [h400], rfl⟩
      · have HL := Lib.hid (show leapN y = false by
          cases h : leapN y with
          | false => rfl
          | true => have := (leap_iff y).1 h; omega)
        go_wp2
        go_ret
        exact ⟨by rw [HL.out]; first | rfl | simp [h400], rfl⟩
    · have HL := Lib.hid (show leapN y = true from (leap_iff y).2 ⟨by omega, Or.inl (by omega)⟩)
      go_wp2
      go_ret
      exact ⟨by rw [HL.out]; first | rfl | simp [h100], rfl⟩
  · have HL := Lib.hid (show leapN y = false by
      cases h : leapN y with
      | false => rfl
      | true => have := (leap_iff y).1 h; omega)
    go_wp2
    go_ret
    exact ⟨by rw [HL.out]; first | rfl | simp [h4], rfl⟩

theorem rdays_any (y m : Nat) (hy : (y : Int) ≤ 20000) (hm : (m : Int) ≤ 1000) (w : World) :
    Calls Tryd.prog 29 #[.int .i64 y, .int .i64 m] w fun e w' => e = .returned (.int .i64 (dim y m : Nat)) ∧ w = w' := by
  go_enter Tryd.func29, Tryd.ntmps29
  by_cases h2 : (m : Int) = 2
  · have e2 : m = 2 := by omega
    cases h : leapN y with
    | true =>
      have HD := Lib.hid (show dim y m = 29 by rw [dim, if_pos e2, h]; rfl)
      go_wp2_with fail
      refine (rleap_any y hy w).mono ?_
      rintro e w1 ⟨rfl, rfl⟩
      rw [h]
      go_wp2
      go_ret
      exact ⟨by rw [HD.out]; rfl, rfl⟩
    | false =>
      have HD := Lib.hid (show dim y m = 28 by rw [dim, if_pos e2, h]; rfl)
      go_wp2_with fail
      refine (rleap_any y hy w).mono ?_
      rintro e w1 ⟨rfl, rfl⟩
      rw [h]
      go_wp2
      go_ret
      exact ⟨by rw [HD.out]; rfl, rfl⟩
  · by_cases h30 : m = 4 ∨ m = 6 ∨ m = 9 ∨ m = 11
    · have HD := Lib.hid (show dim y m = 30 by rw [dim, if_neg (by omega), if_pos h30])
      rcases h30 with rfl | rfl | rfl | rfl
      · go_wp2
        go_ret
        exact ⟨by rw [HD.out]; rfl, rfl⟩
      · go_wp2
        go_ret
        exact ⟨by rw [HD.out]; rfl, rfl⟩
      · go_wp2
        go_ret
        exact ⟨by rw [HD.out]; rfl, rfl⟩
      · go_wp2
        go_ret
        exact ⟨by rw [HD.out]; rfl, rfl⟩
    · have HD := Lib.hid (show dim y m = 31 by rw [dim, if_neg (by omega), if_neg h30])
      have g4 : (m : Int) ≠ 4 := by omega
      have g6 : (m : Int) ≠ 6 := by omega
      have g9 : (m : Int) ≠ 9 := by omega
      have g11 : (m : Int) ≠ 11 := by omega
      clear h30
      go_wp2
      go_ret
      exact ⟨by rw [HD.out]; rfl, rfl⟩

theorem rahead_any (y : Nat) (hy : (y : Int) ≤ 20000) (w : World) :
    Calls Tryd.prog 28 #[.int .i64 y] w fun e w' => e = .returned (.int .i64 (aheadN y : Nat)) ∧ w = w' := by
  go_enter Tryd.func28, Tryd.ntmps28
  by_cases h0 : (y : Int) ≤ 0
  · have HA := Lib.hid (show aheadN y = 0 by rw [aheadN, if_pos (by omega)])
    go_wp2
    go_ret
    exact ⟨by rw [HA.out]; rfl, rfl⟩
  · have HA := Lib.hid (show (aheadN y : Int) = 365 * (y : Int) + ((y : Int) - 1) / 4 - ((y : Int) - 1) / 100 + ((y : Int) - 1) / 400 + 1 by rw [aheadN, if_neg (by omega)]; omega)
    go_wp2
    go_ret
    exact ⟨by rw [HA.out]; rfl, rfl⟩

theorem rahead_at (v : Int) (y : Nat) (hv : v = (y : Int)) (hy : (y : Int) ≤ 20000) (w : World) :
    Calls Tryd.prog 28 #[.int .i64 v] w fun e w' => e = .returned (.int .i64 (aheadN y : Nat)) ∧ w = w' := by
  subst hv
  exact rahead_any y hy w
theorem rdays_at (v u : Int) (y m : Nat) (hv : v = (y : Int)) (hu : u = (m : Int)) (hy : (y : Int) ≤ 20000) (hm : (m : Int) ≤ 1000) (w : World) :
    Calls Tryd.prog 29 #[.int .i64 v, .int .i64 u] w fun e w' => e = .returned (.int .i64 (dim y m : Nat)) ∧ w = w' := by
  subst hv hu
  exact rdays_any y m hy hm w
theorem ahead_from (k : Nat) : aheadN (1970 + k) ≤ 719528 + 366 * k := by
  induction k with
  | zero => rw [Nat.add_zero, epoch]; omega
  | succ k ih =>
    have := ahead_succ (1970 + k)
    have := (year_le (1970 + k)).2
    rw [show 1970 + (k + 1) = 1970 + k + 1 by omega]
    omega
theorem loop_year {x y : Nat} (hx : x ≤ 2932896) (h1 : aheadN y ≤ 719528 + x) : y < 10000 := by
  rcases Nat.lt_or_ge y 10000 with h | h
  · exact h
  · have := ahead_mono h
    rw [ahead_end] at this
    omega

set_option maxHeartbeats 1000000 in
set_option maxRecDepth 100000 in
theorem rcivil_any (x : Int) (h0 : -9223372036854775808 ≤ x) (h1 : x ≤ 9223372036854775807) (w : World) :
    Calls Tryd.prog 12 #[.int .i64 x] w fun e w' => e = .returned (civV (clamp x)) ∧ w = w' := by
  obtain ⟨n, hn⟩ : ∃ n, clamp x = n := ⟨_, rfl⟩
  have hn0 : max 0 (min x 253402300799) = (n : Int) := by rw [← hn]; unfold clamp; omega
  have hnt : (n : Int) ≤ 253402300799 := by omega
  rw [hn]
  clear hn
  have HC : Hid (∃ V, civV n = V) := Lib.hid ⟨_, rfl⟩
  obtain ⟨V, hV⟩ := HC.out
  rw [hV]
  have HV := Lib.hid hV
  clear hV HC
  go_enter Tryd.func12, Tryd.ntmps12
  obtain ⟨X, hX⟩ : ∃ X : Nat, n / 86400 = X := ⟨_, rfl⟩
  have eX : (n : Int) / 86400 = (X : Int) := by omega
  have bX : (X : Int) ≤ 2932896 := by omega
  have HX := Lib.hid hX
  clear hX
  have HB : Hid (∀ k, aheadN (1970 + k) ≤ 719528 + 366 * k) := Lib.hid ahead_from
  go_wp2_with fail
  go_loop [10] (fun v => ∃ y : Nat, v = .int .i64 y ∧ y < 10000 ∧ Hid (aheadN y ≤ 719528 + X)) (fun v => 10000 - (intOf v).toNat)
  case atStart =>
    refine ⟨1970 + X / 366, ?_, ?_, ?_⟩
    · go_num
    · omega
    · have := HB.out (X / 366)
      exact Lib.hid (by omega)
  case round =>
    obtain ⟨y, rfl, hy, HY⟩ := hrel
    have yb : (y : Int) < 10000 := by omega
    obtain ⟨A, hA⟩ : ∃ A : Nat, aheadN (y + 1) = A := ⟨_, rfl⟩
    have ab : (A : Int) ≤ 7320000 := by have := ahead_le (y + 1); omega
    have HA := Lib.hid hA
    clear hA
    go_wp2_with fail
    refine (rahead_at _ (y + 1) (by omega) (by omega) w).mono ?_
    rintro e w1 ⟨rfl, rfl⟩
    rw [HA.out]
    go_wp2_with fail
    refine (rahead_at _ 1970 rfl (by omega) w).mono ?_
    rintro e w2 ⟨rfl, rfl⟩
    rw [epoch]
    by_cases hc : (A : Int) - 719528 ≤ X
    · have hy1 : y + 1 < 10000 := loop_year (x := X) (by omega) (by rw [HA.out]; omega)
      go_wp2
      go_round
      case rel => exact ⟨y + 1, by go_num, hy1, Lib.hid (by rw [HA.out]; omega)⟩
      case measure => simp [intOf]; omega
    · obtain ⟨D, hD⟩ : ∃ D : Nat, aheadN y = D := ⟨_, rfl⟩
      have hD1 : D ≤ 719528 + X := by rw [← hD]; exact HY.out
      have hs := ahead_succ y
      rw [HA.out, hD] at hs
      obtain ⟨R, hR⟩ : ∃ R : Nat, 719528 + X - D = R := ⟨_, rfl⟩
      have eR : (X : Int) - ((D : Int) - 719528) = (R : Int) := by omega
      have hRy : R < yearN y := by omega
      have db : (D : Int) ≤ 7320000 := by omega
      have rb : (R : Int) ≤ 366 := by have := (year_le y).2; omega
      have HD := Lib.hid hD
      have HR := Lib.hid hR
      have HRY := Lib.hid hRy
      have HD1 := Lib.hid hD1
      clear hs hD hR HY HA hRy hD1
      go_wp2_with fail
      refine (rahead_at _ y rfl (by omega) w).mono ?_
      rintro e w3 ⟨rfl, rfl⟩
      rw [HD.out]
      go_wp2_with fail
      refine (rahead_at _ 1970 rfl (by omega) w).mono ?_
      rintro e w4 ⟨rfl, rfl⟩
      rw [epoch]
      go_wp2_with fail
      go_loop [8, 11] (fun v u => ∃ (r m : Nat), v = .int .i64 r ∧ u = .int .i64 m ∧ 1 ≤ m ∧ m ≤ 12 ∧ Hid (monN y m + r = R)) (fun v _ => (intOf v).toNat)
      case atStart => exact ⟨R, 1, rfl, rfl, by omega, by omega, Lib.hid (by rw [mon_one, Nat.zero_add])⟩
      case round =>
        obtain ⟨r, m, rfl, rfl, hm1, hm2, HM⟩ := hrel
        obtain ⟨L, hL⟩ : ∃ L : Nat, dim y m = L := ⟨_, rfl⟩
        have lb : 28 ≤ (L : Int) := by have := dim_ge y m; omega
        have lb2 : (L : Int) ≤ 31 := by have := dim_le y m; omega
        have hrR : (r : Int) ≤ R := by have := HM.out; omega
        have HL := Lib.hid hL
        clear hL
        go_wp2_with fail
        refine (rdays_at _ _ y m rfl rfl (by omega) (by omega) w).mono ?_
        rintro e w5 ⟨rfl, rfl⟩
        rw [HL.out]
        by_cases hd : (L : Int) ≤ r
        · have hmm : m < 12 := by
            rcases Nat.lt_or_ge m 12 with h | h
            · exact h
            · have e12 : m = 12 := by omega
              have a1 := mon_succ y (m := m) hm1
              have a2 := HM.out
              have a3 := HRY.out
              rw [HL.out] at a1
              rw [e12, mon_all] at a1
              rw [e12] at a2
              omega
          go_wp2_with fail
          refine (rdays_at _ _ y m rfl rfl (by omega) (by omega) w).mono ?_
          rintro e w6 ⟨rfl, rfl⟩
          rw [HL.out]
          have hrl : (r : Int) - L = ((r - L : Nat) : Int) := by omega
          have HN := Lib.hid (show monN y (m + 1) + (r - L) = R by have a1 := mon_succ y (m := m) hm1; have a2 := HM.out; rw [HL.out] at a1; omega)
          go_wp2
          go_round
          case rel => exact ⟨r - L, m + 1, by go_num, by go_num, by omega, by omega, HN⟩
          case measure => simp [intOf]; omega
        · have hv : ValidD y m (r + 1) := ⟨hm1, hm2, by omega, by rw [HL.out]; omega⟩
          have hday : dayN y m (r + 1) = 719528 + n / 86400 := by
            have a1 := HM.out
            have a2 := HR.out
            have a3 := HD.out
            have a4 := HX.out
            have a5 := HD1.out
            unfold dayN
            omega
          obtain ⟨e1, e2, e3⟩ := date_of hv hday
          have HF := Lib.hid (show V = .tuple #[.int .i64 (y : Int), .int .i64 (m : Int), .int .i64 ((r : Int) + 1), .int .i64 ((n : Int) % 86400 / 3600), .int .i64 ((n : Int) % 86400 / 60 % 60), .int .i64 ((n : Int) % 86400 % 60)] by
            rw [← HV.out, civV, e1, e2, e3]
            rfl)
          clear hv hday e1 e2 e3
          go_wp2
          (try simp only [Exit.inBlock, Exit.then]); refine bodyPost_ret (results6 rfl _ _ _) rfl ?_
          exact ⟨by rw [HF.out]; rfl, rfl⟩
end Go.Proofs.YtlhoellimldimaaDoor.D6
