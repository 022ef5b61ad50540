/-
  Package date's reckoning of days: leap years, days of a month, days ahead of a year, a day's year, a day's date. Conditions: years of at most 20000, days of the time there is; the tables as the program's text lays them (Env).
-/
import Derived.Test.YtlhoellimldimaaDoorD6Env
import Derived.Test.YtlhoellimldimaaDoorD6Ref
namespace Go.Proofs.YtlhoellimldimaaDoor.D6
open Go Go.RowKit Go.Joins Kit

theorem cleap_any (y : Nat) (hy : (y : Int) ≤ 20000) (w : World) :
    Calls Tryd.prog 63 #[.int .i64 y] w fun e w' => e = .returned (.bool (leapN y)) ∧ w = w' := by
  go_enter Tryd.func63, Tryd.ntmps63
  by_cases h4 : (y : Int) % 4 = 0
  · by_cases h100 : (y : Int) % 100 = 0
    · by_cases h400 : (y : Int) % 400 = 0
      · have HL := Lib.hid (show leapN y = true from (leap_iff y).2 ⟨by omega, Or.inr (by omega)⟩)
        go_wp2
        go_ret
        exact ⟨by rw [HL.out]; first | rfl | simp [h400], rfl⟩
      · have HL := Lib.hid (show leapN y = false by
          cases h : leapN y with
          | false => rfl
          | true => have := (leap_iff y).1 h; omega)
        go_wp2
        go_ret
        exact ⟨by rw [HL.out]; first | rfl | simp [h400], rfl⟩
    · have HL := Lib.hid (show leapN y = true from (leap_iff y).2 ⟨by omega, Or.inl (by omega)⟩)
      go_wp2
      go_ret
      exact ⟨by rw [HL.out]; first | rfl | simp [h100], rfl⟩
  · have HL := Lib.hid (show leapN y = false by
      cases h : leapN y with
      | false => rfl
      | true => have := (leap_iff y).1 h; omega)
    go_wp2
    go_ret
    exact ⟨by rw [HL.out]; first | rfl | simp [h4], rfl⟩

set_option maxHeartbeats 400000 in
theorem cdays_any (y m : Nat) (hy : (y : Int) ≤ 20000) (hm1 : 1 ≤ (m : Int)) (hm : (m : Int) ≤ 12) (w : World) (hE : Env w) :
    Calls Tryd.prog 53 #[.int .i64 y, .int .i64 m] w fun e w' => e = .returned (.int .i64 (dim y m : Nat)) ∧ w = w' := by
  obtain ⟨k, rfl⟩ : ∃ k, m = k + 1 := ⟨m - 1, by omega⟩
  have hk : k < 12 := by omega
  have hk1 : (k : Int) < 12 := by omega
  have hc := hE.cell k hk
  have ht := tab_dim y k hk
  have hle := dim_le y (k + 1)
  obtain ⟨d, hd⟩ : ∃ d, monTab.getD k 0 = d := ⟨_, rfl⟩
  obtain ⟨L, hL⟩ : ∃ L : Nat, dim y (k + 1) = L := ⟨_, rfl⟩
  rw [hd] at hc
  rw [hd, hL] at ht
  rw [hL] at hle
  have HL := Lib.hid hL
  clear hd hL
  go_enter Tryd.func53, Tryd.ntmps53
  by_cases h2 : k = 1
  · subst h2
    rw [show ((1 + 1 : Nat) : Int) = 2 from rfl]
    cases h : leapN y with
    | true =>
      rw [if_pos ⟨rfl, h⟩] at ht
      have db : d ≤ 30 ∧ 0 ≤ d + 1 := by omega
      have HT := Lib.hid ht
      clear ht
      go_wp2_with fail
      refine (cleap_any y hy w).mono ?_
      rintro e w1 ⟨rfl, rfl⟩
      rw [h]
      go_wp2
      go_ret
      exact ⟨by rw [HL.out, HT.out]; rfl, rfl⟩
    | false =>
      rw [if_neg (by rw [h]; simp), Int.add_zero] at ht
      have HT := Lib.hid ht
      clear ht
      go_wp2_with fail
      refine (cleap_any y hy w).mono ?_
      rintro e w1 ⟨rfl, rfl⟩
      rw [h]
      go_wp2
      go_ret
      exact ⟨by rw [HL.out, HT.out]; rfl, rfl⟩
  · have e1 : ((k + 1 : Nat) : Int) = (k : Int) + 1 := by omega
    rw [e1]
    have hz : (k : Int) + 1 - 1 = k := by omega
    have g2 : (k : Int) + 1 ≠ 2 := by omega
    rw [if_neg (fun e => h2 (by have := e.1; omega)), Int.add_zero] at ht
    have HT := Lib.hid ht
    clear ht h2
    go_wp2
    go_ret
    exact ⟨by rw [HL.out, HT.out]; rfl, rfl⟩
theorem cdays_at (v u : Int) (y m : Nat) (hv : v = (y : Int)) (hu : u = (m : Int)) (hy : (y : Int) ≤ 20000) (hm1 : 1 ≤ (m : Int)) (hm : (m : Int) ≤ 12) (w : World) (hE : Env w) :
    Calls Tryd.prog 53 #[.int .i64 v, .int .i64 u] w fun e w' => e = .returned (.int .i64 (dim y m : Nat)) ∧ w = w' := by
  subst hv hu
  exact cdays_any y m hy hm1 hm w hE

theorem cstart_any (y : Nat) (hy : (y : Int) ≤ 20000) (w : World) :
    Calls Tryd.prog 51 #[.int .i64 y] w fun e w' => e = .returned (.int .i64 (aheadN y : Nat)) ∧ w = w' := by
  have HA := Lib.hid (ahead_own y)
  go_enter Tryd.func51, Tryd.ntmps51
  go_wp2
  go_ret
  exact ⟨by rw [HA.out]; rfl, rfl⟩
theorem cstart_at (v : Int) (y : Nat) (hv : v = (y : Int)) (hy : (y : Int) ≤ 20000) (w : World) :
    Calls Tryd.prog 51 #[.int .i64 v] w fun e w' => e = .returned (.int .i64 (aheadN y : Nat)) ∧ w = w' := by
  subst hv
  exact cstart_any y hy w

set_option maxHeartbeats 400000 in
theorem cyear_any (D Y : Nat) (hD : (D : Int) ≤ 4000000) (h1 : aheadN Y ≤ D) (h2 : D < aheadN (Y + 1)) (w : World) :
    Calls Tryd.prog 52 #[.int .i64 D] w fun e w' => e = .returned (.int .i64 Y) ∧ w = w' := by
  obtain ⟨E, hE⟩ : ∃ E : Nat, D * 400 / 146097 = E := ⟨_, rfl⟩
  have he := year_est h1 h2
  rw [hE] at he
  have eE : (D : Int) * 400 / 146097 = (E : Int) := by omega
  have bE : (E : Int) ≤ 11000 := by omega
  obtain ⟨A, hA⟩ : ∃ A : Nat, aheadN E = A := ⟨_, rfl⟩
  obtain ⟨B, hB⟩ : ∃ B : Nat, aheadN (E + 1) = B := ⟨_, rfl⟩
  have hAb : (A : Int) ≤ 5000000 := by have := ahead_le E; omega
  have hBb : (B : Int) ≤ 5000000 := by have := ahead_le (E + 1); omega
  have c1 := fun h => year_low h1 he.2 (E := E) (by rw [hA]; exact h)
  have c2 := fun h => year_high h2 he.1 (E := E) (by rw [hB]; exact h)
  have c3 := fun h h' => year_mid h1 h2 (E := E) (by rw [hA]; exact h) (by rw [hB]; exact h')
  have HA := Lib.hid hA
  have HB := Lib.hid hB
  clear hA hB hE h1 h2 he
  go_enter Tryd.func52, Tryd.ntmps52
  go_wp2_with fail
  refine (cstart_at _ E rfl (by omega) w).mono ?_
  rintro e w1 ⟨rfl, rfl⟩
  rw [HA.out]
  by_cases g1 : (D : Int) < A
  · have HF := Lib.hid (show (Y : Int) = (E : Int) - 1 by have := c1 (by omega); omega)
    clear c1 c2 c3
    go_wp2
    go_ret
    exact ⟨by rw [HF.out]; rfl, rfl⟩
  · go_wp2_with fail
    refine (cstart_at _ (E + 1) (by omega) (by omega) w).mono ?_
    rintro e w1 ⟨rfl, rfl⟩
    rw [HB.out]
    by_cases g2 : (B : Int) ≤ D
    · have HF := Lib.hid (show (Y : Int) = (E : Int) + 1 by have := c2 (by omega); omega)
      clear c1 c2 c3
      go_wp2
      go_ret
      exact ⟨by rw [HF.out]; rfl, rfl⟩
    · have HF := Lib.hid (show (Y : Int) = (E : Int) by have := c3 (by omega) (by omega); omega)
      clear c1 c2 c3
      go_wp2
      go_ret
      exact ⟨by rw [HF.out]; rfl, rfl⟩

theorem cyear_at (v : Int) (D Y : Nat) (hv : v = (D : Int)) (hD : (D : Int) ≤ 4000000) (h1 : aheadN Y ≤ D) (h2 : D < aheadN (Y + 1)) (w : World) :
    Calls Tryd.prog 52 #[.int .i64 v] w fun e w' => e = .returned (.int .i64 Y) ∧ w = w' := by
  subst hv
  exact cyear_any D Y hD h1 h2 w
def dateV (D : Nat) : Value := .tuple #[.int .i64 ((civD D).1 : Nat), .int .i64 ((civD D).2.1 : Nat), .int .i64 ((civD D).2.2 : Nat)]
set_option maxHeartbeats 1000000 in
set_option maxRecDepth 100000 in
theorem ccal_any (X : Nat) (hX : (X : Int) ≤ 2932896) (w : World) (hE : Env w) :
    Calls Tryd.prog 27 #[.int .i64 X] w fun e w' => e = .returned (dateV (719528 + X)) ∧ w = w' := by
  obtain ⟨hv, hday⟩ := civD_spec (719528 + X)
  have hy := day_year hv
  rw [hday] at hy
  obtain ⟨Y, hY⟩ : ∃ Y, (civD (719528 + X)).1 = Y := ⟨_, rfl⟩
  rw [hY] at hy
  have HV : Hid (∃ V, dateV (719528 + X) = V) := Lib.hid ⟨_, rfl⟩
  obtain ⟨V, hVV⟩ := HV.out
  rw [hVV]
  have HVV := Lib.hid hVV
  clear hVV HV hv hday
  obtain ⟨A, hA⟩ : ∃ A : Nat, aheadN Y = A := ⟨_, rfl⟩
  have hYb : Y < 10000 := loop_year (x := X) (by omega) hy.1
  have hYb' : (Y : Int) ≤ 9999 := by omega
  have h1 := hy.1
  have h2 := hy.2
  have hs := ahead_succ Y
  obtain ⟨R, hR⟩ : ∃ R : Nat, 719528 + X - A = R := ⟨_, rfl⟩
  have hRy : R < yearN Y := by omega
  have hR366 : (R : Int) ≤ 366 := by have := (year_le Y).2; omega
  have hA1 : A ≤ 719528 + X := by omega
  have eR : 719528 + (X : Int) - A = (R : Int) := by omega
  have HA := Lib.hid hA
  have HR := Lib.hid hR
  have HRY := Lib.hid hRy
  have HA1 := Lib.hid hA1
  have HY := Lib.hid hY
  have h1' := Lib.hid h1
  have h2' := Lib.hid h2
  clear hA hR hRy hY hs hy h1 h2 hA1
  go_enter Tryd.func27, Tryd.ntmps27
  go_wp2_with fail
  refine (cstart_at _ 1970 rfl (by omega) w).mono ?_
  rintro e w1 ⟨rfl, rfl⟩
  rw [epoch]
  go_wp2_with fail
  refine (cyear_at _ (719528 + X) Y (by omega) (by omega) h1'.out h2'.out w).mono ?_
  rintro e w1 ⟨rfl, rfl⟩
  go_wp2_with fail
  refine (cstart_at _ Y rfl (by omega) w).mono ?_
  rintro e w1 ⟨rfl, rfl⟩
  rw [HA.out]
  go_wp2_with fail
  go_loop [0, 3] (fun v u => ∃ (r m : Nat), v = .int .i64 r ∧ u = .int .i64 m ∧ 1 ≤ (m : Int) ∧ (m : Int) ≤ 12 ∧ Hid (monN Y m + r = R)) (fun v _ => (intOf v).toNat)
  case atStart => exact ⟨R, 1, by go_num, by go_num, by omega, by omega, Lib.hid (by rw [mon_one, Nat.zero_add])⟩
  case round =>
    obtain ⟨r, m, rfl, rfl, hm1, hm2, HM⟩ := hrel
    obtain ⟨L, hL⟩ : ∃ L : Nat, dim Y m = L := ⟨_, rfl⟩
    have lb : 28 ≤ (L : Int) := by have := dim_ge Y m; omega
    have lb2 : (L : Int) ≤ 31 := by have := dim_le Y m; omega
    have hrR : (r : Int) ≤ R := by have := HM.out; omega
    have HL := Lib.hid hL
    clear hL
    go_wp2_with fail
    refine (cdays_at _ _ Y m rfl rfl (by omega) hm1 hm2 w hE).mono ?_
    rintro e w5 ⟨rfl, rfl⟩
    rw [HL.out]
    by_cases hd : (L : Int) ≤ r
    · have hmm : m < 12 := by
        rcases Nat.lt_or_ge m 12 with h | h
        · exact h
        · have e12 : m = 12 := by omega
          have a1 := mon_succ Y (m := m) (by omega)
          have a2 := HM.out
          have a3 := HRY.out
          rw [HL.out] at a1
          rw [e12, mon_all] at a1
          rw [e12] at a2
          omega
      go_wp2_with fail
      refine (cdays_at _ _ Y m rfl rfl (by omega) hm1 hm2 w hE).mono ?_
      rintro e w6 ⟨rfl, rfl⟩
      rw [HL.out]
      have HN := Lib.hid (show monN Y (m + 1) + (r - L) = R by have a1 := mon_succ Y (m := m) (by omega); have a2 := HM.out; rw [HL.out] at a1; omega)
      go_wp2
      go_round
      case rel => exact ⟨r - L, m + 1, by go_num, by go_num, by omega, by omega, HN⟩
      case measure => simp [intOf]; omega
    · have hv : ValidD Y m (r + 1) := ⟨by omega, by omega, by omega, by rw [HL.out]; omega⟩
      have hday : dayN Y m (r + 1) = 719528 + X := by
        have a1 := HM.out
        have a2 := HR.out
        have a3 := HA.out
        have a5 := HA1.out
        unfold dayN
        omega
      have HF := Lib.hid (show V = .tuple #[.int .i64 (Y : Int), .int .i64 (m : Int), .int .i64 ((r : Int) + 1)] by
        rw [← HVV.out, dateV, civD_of hv hday]
        rfl)
      clear hv hday
      go_wp2
      go_ret3
      exact ⟨by rw [HF.out]; rfl, rfl⟩

set_option maxHeartbeats 1000000 in
set_option maxRecDepth 100000 in
theorem civ_same (x : Int) (h0 : -9223372036854775808 ≤ x) (h1 : x ≤ 9223372036854775807) (w : World) (hE : Env w) :
    Calls Tryd.prog 11 #[.int .i64 x] w fun e w' => e = .returned (civV (clamp x)) ∧ w = w' := by
  obtain ⟨n, hn⟩ : ∃ n, clamp x = n := ⟨_, rfl⟩
  have hn0 : min (max x 0) 253402300799 = (n : Int) := by rw [← hn]; unfold clamp; omega
  have hnt : (n : Int) ≤ 253402300799 := by omega
  rw [hn]
  clear hn
  have HC : Hid (∃ V, civV n = V) := Lib.hid ⟨_, rfl⟩
  obtain ⟨V, hV⟩ := HC.out
  rw [hV]
  have HV := Lib.hid hV
  clear hV HC
  obtain ⟨X, hX⟩ : ∃ X : Nat, n / 86400 = X := ⟨_, rfl⟩
  have eX : (n : Int) / 86400 = (X : Int) := by omega
  have bX : (X : Int) ≤ 2932896 := by omega
  have HX := Lib.hid hX
  obtain ⟨A, B, C, hABC⟩ : ∃ A B C : Nat, dateV (719528 + X) = .tuple #[.int .i64 (A : Int), .int .i64 (B : Int), .int .i64 (C : Int)] ∧ V = .tuple #[.int .i64 (A : Int), .int .i64 (B : Int), .int .i64 (C : Int), .int .i64 ((n : Int) % 86400 / 3600), .int .i64 ((n : Int) % 86400 / 60 % 60), .int .i64 ((n : Int) % 86400 % 60)] := by
    refine ⟨(civD (719528 + X)).1, (civD (719528 + X)).2.1, (civD (719528 + X)).2.2, rfl, ?_⟩
    rw [← HV.out, civV, yr_eq, mo_eq, dy_eq, hX]
    rfl
  obtain ⟨hd, hf⟩ := hABC
  have HD := Lib.hid hd
  have HF := Lib.hid hf
  clear hX hd hf
  go_enter Tryd.func11, Tryd.ntmps11
  go_wp2_with fail
  refine (ccal_any X bX w hE).mono ?_
  rintro e w1 ⟨rfl, rfl⟩
  rw [HD.out]
  go_wp2
  (try simp only [Exit.inBlock, Exit.then]); refine bodyPost_ret (results6 rfl _ _ _) rfl ?_
  exact ⟨by rw [HF.out]; rfl, rfl⟩
theorem civ_any (x : Int) (h0 : -9223372036854775808 ≤ x) (h1 : x ≤ 9223372036854775807) (w : World) (hE : Env w) :
    Calls Tryd.prog 11 #[.int .i64 x] w fun e w' => e = .returned (civV (clamp x)) ∧ Below w.heap.size w w' := by
  refine (civ_same x h0 h1 w hE).mono ?_
  rintro e w' ⟨rfl, rfl⟩
  exact ⟨rfl, Below.refl _ _⟩
end Go.Proofs.YtlhoellimldimaaDoor.D6
