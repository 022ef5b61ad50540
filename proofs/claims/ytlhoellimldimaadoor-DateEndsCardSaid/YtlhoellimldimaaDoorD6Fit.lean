/-
  Package date's readers in small: a form held against a text, a number of digits alone, the days of a date, the clock, the zone, what lies within the time there is. Conditions: the texts have at most 2^40 bytes; what the callers have asked ahead (digits where the forms want them).
-/
import Derived.Test.YtlhoellimldimaaDoorD6Yr
import Derived.Test.YtlhoellimldimaaDoorD6Day
import Derived.Test.YtlhoellimldimaaDoorD6Own
import Derived.Deep.QuietTactic
import Derived.BigQuiet
namespace Go.Proofs.YtlhoellimldimaaDoor.D6
open Go Go.RowKit Go.Joins Kit

set_option maxHeartbeats 1000000 in
set_option maxRecDepth 100000 in
theorem cfits_any (s f : ByteArray) (hs : s.size ≤ 1099511627776) (w : World) :
    Calls Tryd.prog 40 #[.string s, .string f] w fun e w' => e = .returned (.bool (fitL f.data.toList s.data.toList)) ∧ Below w.heap.size w w' := by
  obtain ⟨R, hR⟩ : ∃ R, fitL f.data.toList s.data.toList = R := ⟨_, rfl⟩
  rw [hR]
  have HR := Lib.hid hR
  clear hR
  go_enter Tryd.func40, Tryd.ntmps40
  by_cases hne : (s.size : Int) ≠ f.size
  · have HF := Lib.hid (show R = false by rw [← HR.out]; exact fit_not (by rw [← Lib.size_eq, ← Lib.size_eq]; omega))
    go_wp2
    go_ret
    exact ⟨by rw [HF.out]; rfl, Below.refl _ _⟩
  · have hsz : s.size = f.size := by omega
    have hz : (s.size : Int) = f.size := by omega
    have HSZ := Lib.hid hsz
    clear hne hsz
    go_wp2_with fail
    clear hz
    go_loopw [13] (fun v wr => ∃ k : Nat, k ≤ f.size ∧ v = .int .i64 k ∧ Hid (fitL (f.data.toList.drop k) (s.data.toList.drop k) = R) ∧ Below w.heap.size w wr) (fun v _ => f.size - (intOf v).toNat)
    case atStart => exact ⟨0, Nat.zero_le _, rfl, HR, Below.refl _ _⟩
    case round =>
      obtain ⟨k, hk, rfl, HQ, hb⟩ := hrel
      have hfb : f.size ≤ 1099511627776 := by have := HSZ.out; omega
      by_cases hlt : k < f.size
      · have hks : k < s.size := by have := HSZ.out; omega
        have g1 : (k : Int) < f.size := by omega
        have g2 : (k : Int) < s.size := by omega
        have hl1 : k < f.data.toList.length := by rw [← Lib.size_eq]; exact hlt
        have hl2 : k < s.data.toList.length := by rw [← Lib.size_eq]; exact hks
        have hst := fit_step (f := f.data.toList) (s := s.data.toList) k hl1 hl2
        rw [HQ.out, byte_get f k hlt, byte_get s k hks] at hst
        have HS := Lib.hid hst
        clear hst HQ hl1 hl2
        have s0 := s[k].toNat_lt
        have f0 := f[k].toNat_lt
        by_cases ca : (f[k].toNat : Int) = 97
        · have HN := Lib.hid (show fitL (f.data.toList.drop (k + 1)) (s.data.toList.drop (k + 1)) = R by
            have h97 : f[k] = 97 := UInt8.toNat_inj.1 (by show f[k].toNat = 97; omega)
            rw [HS.out, h97]
            simp [fit1])
          go_wp2
          go_roundw
          case rel => exact ⟨k + 1, by omega, by go_num, HN, hb⟩
          case measure => simp [intOf]; omega
        · have n97 : (f[k] == 97) = false := by
            simp only [beq_eq_false_iff_ne, ne_eq]
            intro e
            rw [e] at ca
            exact ca rfl
          by_cases cb : (f[k].toNat : Int) = 48
          · have h48 : f[k] = 48 := UInt8.toNat_inj.1 (by show f[k].toNat = 48; omega)
            have HD := Lib.hid (show R = (Tx.isDig s[k] && fitL (f.data.toList.drop (k + 1)) (s.data.toList.drop (k + 1))) by
              rw [HS.out, h48]
              simp [fit1])
            clear n97 h48 HS
            by_cases c1 : (s[k].toNat : Int) < 48
            · have HF := Lib.hid (show R = false by rw [HD.out, show Tx.isDig s[k] = false by unfold Tx.isDig; simp; omega]; rfl)
              go_wp2
              go_ret
              exact ⟨by rw [HF.out]; rfl, hb⟩
            · by_cases c2 : (57 : Int) < (s[k].toNat : Int)
              · have HF := Lib.hid (show R = false by rw [HD.out, show Tx.isDig s[k] = false by unfold Tx.isDig; simp; omega]; rfl)
                go_wp2
                go_ret
                exact ⟨by rw [HF.out]; rfl, hb⟩
              · have HN := Lib.hid (show fitL (f.data.toList.drop (k + 1)) (s.data.toList.drop (k + 1)) = R by
                  rw [HD.out, show Tx.isDig s[k] = true from (Tx.isDig_iff _).2 (by omega), Bool.true_and])
                go_wp2
                go_roundw
                case rel => exact ⟨k + 1, by omega, by go_num, HN, hb⟩
                case measure => simp [intOf]; omega
          · have n48 : (f[k] == 48) = false := by
              simp only [beq_eq_false_iff_ne, ne_eq]
              intro e
              rw [e] at cb
              exact cb rfl
            have HD := Lib.hid (show R = (s[k] == f[k] && fitL (f.data.toList.drop (k + 1)) (s.data.toList.drop (k + 1))) by
              rw [HS.out, fit1, n97, n48]
              simp)
            clear n97 n48 HS
            by_cases cc : (s[k].toNat : Int) = (f[k].toNat : Int)
            · have HN := Lib.hid (show fitL (f.data.toList.drop (k + 1)) (s.data.toList.drop (k + 1)) = R by
                rw [HD.out, show s[k] = f[k] from UInt8.toNat_inj.1 (by omega)]
                simp)
              go_wp2_with fail
              go_quiet (fail)
              go_wp2
              go_roundw
              case rel => exact ⟨k + 1, by omega, by go_num, HN, below_drewN hb _⟩
              case measure => simp [intOf]; omega
            · have HF := Lib.hid (show R = false by
                rw [HD.out, show (s[k] == f[k]) = false by
                  simp only [beq_eq_false_iff_ne, ne_eq]
                  intro e
                  rw [e] at cc
                  exact cc rfl]
                rfl)
              go_wp2_with fail
              go_quiet (fail)
              go_wp2
              go_ret
              exact ⟨by rw [HF.out]; rfl, below_drewN hb _⟩
      · have he : k = f.size := by omega
        have HF := Lib.hid (show R = true by
          rw [← HQ.out, List.drop_of_length_le (by rw [← Lib.size_eq]; omega), List.drop_of_length_le (by rw [← Lib.size_eq]; have := HSZ.out; omega)]
          rfl)
        have g1 : ¬ (k : Int) < f.size := by omega
        clear he
        go_wp2
        go_ret
        exact ⟨by rw [HF.out]; rfl, hb⟩
theorem num_all {s : ByteArray} {V : Nat} (h : numD s.data.toList = some V) {k v : Nat} (hk : k < s.size) (hv : Tx.numFrom (s.data.toList.take k) 0 = some v) : Tx.isDig s[k] = true := by
  cases e : Tx.isDig s[k] with
  | true => rfl
  | false =>
    rw [num_stop s k hk hv e] at h
    cases h

set_option maxHeartbeats 400000 in
set_option maxRecDepth 100000 in
theorem cnum_any (s : ByteArray) (V : Nat) (hV : numD s.data.toList = some V) (hs : s.size ≤ 4) (w : World) :
    Calls Tryd.prog 50 #[.string s] w fun e w' => e = .returned (.int .i64 (V : Nat)) ∧ w = w' := by
  have HV := Lib.hid hV
  clear hV
  go_enter Tryd.func50, Tryd.ntmps50
  go_wp2_with fail
  go_loop [3, 7] (fun n i => ∃ (k v : Nat), k ≤ s.size ∧ i = .int .i64 k ∧ n = .int .i64 v ∧ Hid (Tx.numFrom (s.data.toList.take k) 0 = some v)) (fun _ i => s.size - (intOf i).toNat)
  case atStart => exact ⟨0, 0, Nat.zero_le _, rfl, rfl, Lib.hid rfl⟩
  case round =>
    obtain ⟨k, v, hk, rfl, rfl, HN⟩ := hrel
    have hv : v < 10000 := by
      have h1 := numFrom_lt _ _ _ HN.out
      have h2 : (s.data.toList.take k).length ≤ 4 := by rw [List.length_take]; omega
      have h3 := Nat.pow_le_pow_right (n := 10) (by decide) h2
      omega
    have hvb : (v : Int) ≤ 9999 := by omega
    by_cases hlt : k < s.size
    · have g1 : (k : Int) < s.size := by omega
      have c0 := s[k].toNat_lt
      have hd := (Tx.isDig_iff _).1 (num_all HV.out hlt HN.out)
      have hc1 : 48 ≤ (s[k].toNat : Int) := by omega
      have hc2 : (s[k].toNat : Int) ≤ 57 := by omega
      have eu : IntKind.u8.wrap ((s[k].toNat : Int) - 48) = (s[k].toNat : Int) - 48 := IntWalk.u8_in _ (by omega)
      have HS := Lib.hid (show Tx.numFrom (s.data.toList.take (k + 1)) 0 = some (v * 10 + (s[k].toNat - 48)) by rw [num_step s k hlt HN.out, if_pos ((Tx.isDig_iff _).2 (by omega))])
      go_wp2
      go_round
      case rel => exact ⟨k + 1, v * 10 + (s[k].toNat - 48), by omega, by go_num, by congr 1; omega, HS⟩
      case measure => simp [intOf]; omega
    · have HF := Lib.hid (show V = v by
        have h1 := HN.out
        rw [List.take_of_length_le (by rw [← Lib.size_eq]; omega)] at h1
        have h2 := HV.out
        unfold numD at h2
        rw [h1] at h2
        exact (Option.some.inj h2).symm)
      have g1 : ¬ (k : Int) < s.size := by omega
      go_wp2
      go_ret
      exact ⟨by rw [HF.out]; rfl, rfl⟩
theorem cnum_sub {s : ByteArray} {a b n V : Nat} (hV : numD (sub s.data.toList a n) = some V) (hn : b - a = n) (h4 : n ≤ 4) (w : World) :
    Calls Tryd.prog 50 #[.string (s.extract a b)] w fun e w' => e = .returned (.int .i64 (V : Nat)) ∧ w = w' := by
  refine cnum_any (s.extract a b) V ?_ ?_ w
  · rw [ext_sub, hn]; exact hV
  · exact ext_le s a b 4 (by omega)

theorem cwithin_any (t : Int) (h0 : -9000000000000 ≤ t) (h1 : t ≤ 9000000000000) (w : World) :
    Calls Tryd.prog 45 #[.int .i64 t] w fun e w' => e = .returned (rV (inT t)) ∧ w = w' := by
  obtain ⟨V, hV⟩ : ∃ V, rV (inT t) = V := ⟨_, rfl⟩
  rw [hV]
  have HV := Lib.hid hV
  clear hV
  go_enter Tryd.func45, Tryd.ntmps45
  by_cases c0 : t < 0
  · have HF := Lib.hid (show V = .tuple #[.int .i64 0, .int .i64 3] by rw [← HV.out, inT, if_neg (by omega)]; rfl)
    go_wp2
    go_ret2
    exact ⟨by rw [HF.out]; rfl, rfl⟩
  · by_cases c1 : 253402300799 < t
    · have HF := Lib.hid (show V = .tuple #[.int .i64 0, .int .i64 3] by rw [← HV.out, inT, if_neg (by omega)]; rfl)
      go_wp2
      go_ret2
      exact ⟨by rw [HF.out]; rfl, rfl⟩
    · have HF := Lib.hid (show V = .tuple #[.int .i64 t, .int .i64 0] by
        rw [← HV.out, inT, if_pos (by omega), rV]
        try simp only
        rw [show ((t.toNat : Nat) : Int) = t by omega])
      go_wp2
      go_ret2
      exact ⟨by rw [HF.out]; rfl, rfl⟩

/-- A number, and whether there is one. -/
def okV (o : Option Int) : Value := match o with
  | some t => .tuple #[.int .i64 t, .bool true]
  | none => .tuple #[.int .i64 0, .bool false]
set_option maxHeartbeats 1000000 in
set_option maxRecDepth 100000 in
theorem cdayof_any (y m d : Nat) (hy : (y : Int) ≤ 9999) (hm : (m : Int) ≤ 99) (hd : (d : Int) ≤ 99) (w : World) (hE : Env w) :
    Calls Tryd.prog 49 #[.int .i64 y, .int .i64 m, .int .i64 d] w fun e w' => e = .returned (okV (daysO (some y) m (some d))) ∧ w = w' := by
  obtain ⟨V, hV⟩ : ∃ V, okV (daysO (some y) m (some d)) = V := ⟨_, rfl⟩
  rw [hV]
  have HV := Lib.hid hV
  clear hV
  have HNO := Lib.hid (fun (h : ¬ ValidD y m d) => show V = .tuple #[.int .i64 0, .bool false] by rw [← HV.out, daysO]; (try simp only); rw [if_neg h]; rfl)
  go_enter Tryd.func49, Tryd.ntmps49
  by_cases c1 : (m : Int) < 1
  · have HF := Lib.hid (HNO.out (fun e => by have := e.1; omega))
    go_wp2
    go_ret2
    exact ⟨by rw [HF.out]; rfl, rfl⟩
  · by_cases c12 : (12 : Int) < (m : Int)
    · have HF := Lib.hid (HNO.out (fun e => by have := e.2.1; omega))
      go_wp2
      go_ret2
      exact ⟨by rw [HF.out]; rfl, rfl⟩
    · by_cases c2 : (d : Int) < 1
      · have HF := Lib.hid (HNO.out (fun e => by have := e.2.2.1; omega))
        go_wp2
        go_ret2
        exact ⟨by rw [HF.out]; rfl, rfl⟩
      · obtain ⟨L, hL⟩ : ∃ L : Nat, dim y m = L := ⟨_, rfl⟩
        have lb2 : (L : Int) ≤ 31 := by have := dim_le y m; omega
        have HL := Lib.hid hL
        clear hL
        go_wp2_with fail
        refine (cdays_at _ _ y m rfl rfl (by omega) (by omega) (by omega) w hE).mono ?_
        rintro e w1 ⟨rfl, rfl⟩
        rw [HL.out]
        by_cases c3 : (L : Int) < d
        · have HF := Lib.hid (HNO.out (fun e => by have := e.2.2.2; rw [HL.out] at this; omega))
          go_wp2
          go_ret2
          exact ⟨by rw [HF.out]; rfl, rfl⟩
        · have HF := Lib.hid (show V = .tuple #[.int .i64 (daysI y m d), .bool true] by
            rw [← HV.out, daysO]
            try simp only
            rw [if_pos ⟨by omega, by omega, by omega, by rw [HL.out]; omega⟩]
            rfl)
          clear HNO
          obtain ⟨A, hA⟩ : ∃ A : Nat, aheadN y = A := ⟨_, rfl⟩
          have ab : (A : Int) ≤ 3660000 := by have := ahead_le y; omega
          have HA := Lib.hid hA
          clear hA
          go_wp2_with fail
          refine (cstart_at _ y rfl (by omega) w).mono ?_
          rintro e w1 ⟨rfl, rfl⟩
          rw [HA.out]
          go_wp2_with fail
          refine (cstart_at _ 1970 rfl (by omega) w).mono ?_
          rintro e w1 ⟨rfl, rfl⟩
          rw [epoch]
          go_wp2_with fail
          go_loop [8, 9] (fun v i => ∃ (k M : Nat), 1 ≤ k ∧ k ≤ m ∧ (M : Int) ≤ 3100 ∧ i = .int .i64 k ∧ v = .int .i64 ((A : Int) - 719528 + d - 1 + M) ∧ Hid (monN y k = M)) (fun _ i => m + 1 - (intOf i).toNat)
          case atStart => exact ⟨1, 0, Nat.le_refl _, by omega, by omega, rfl, by simp, Lib.hid rfl⟩
          case round =>
            obtain ⟨k, M, k1, k2, mb, rfl, rfl, HM⟩ := hrel
            have hmb0 : 0 ≤ (M : Int) := by omega
            by_cases hlt : k < m
            · have g1 : (k : Int) < m := by omega
              obtain ⟨P, hP⟩ : ∃ P : Nat, dim y k = P := ⟨_, rfl⟩
              have pb : (P : Int) ≤ 31 := by have := dim_le y k; omega
              have HN := Lib.hid (show monN y (k + 1) = M + P by rw [mon_succ y k1, HM.out, hP])
              have hle := mon_le y (k + 1)
              rw [HN.out] at hle
              have HP := Lib.hid hP
              clear hP
              go_wp2_with fail
              refine (cdays_at _ _ y k rfl rfl (by omega) (by omega) (by omega) w hE).mono ?_
              rintro e w1 ⟨rfl, rfl⟩
              rw [HP.out]
              go_wp2
              go_round
              case rel => exact ⟨k + 1, M + P, by omega, by omega, by omega, by go_num, by congr 1; omega, HN⟩
              case measure => simp [intOf]; omega
            · have g1 : ¬ (k : Int) < m := by omega
              have hkm : k = m := by omega
              subst hkm
              have HS := Lib.hid (show daysI y k d = (A : Int) - 719528 + d - 1 + M by
                have h1 := HA.out
                have h2 := HM.out
                unfold daysI dayN
                omega)
              go_wp2
              go_ret2
              exact ⟨by rw [HF.out, HS.out]; rfl, rfl⟩

def clkV (o : Option Nat) : Value := okV (o.map (fun n => (n : Int)))
set_option maxHeartbeats 1000000 in
set_option maxRecDepth 100000 in
theorem cclk_any (s : ByteArray) (hs : s.size ≤ 1048576) (h8 : 8 ≤ (s.size : Int)) (h i x : Nat) (e1 : numD (sub s.data.toList 0 2) = some h) (e2 : numD (sub s.data.toList 3 2) = some i) (e3 : numD (sub s.data.toList 6 2) = some x) (w : World) :
    Calls Tryd.prog 43 #[.string s] w fun e w' => e = .returned (clkV (timeO (some h) (some i) (some x))) ∧ Below w.heap.size w w' := by
  obtain ⟨V, hV⟩ : ∃ V, clkV (timeO (some h) (some i) (some x)) = V := ⟨_, rfl⟩
  rw [hV]
  have HV := Lib.hid hV
  have HE1 := Lib.hid e1
  have HE2 := Lib.hid e2
  have HE3 := Lib.hid e3
  have b1 : (h : Int) ≤ 99 := by have := num_le e1 (sub_le _ 0 2); omega
  have b2 : (i : Int) ≤ 99 := by have := num_le e2 (sub_le _ 3 2); omega
  have b3 : (x : Int) ≤ 99 := by have := num_le e3 (sub_le _ 6 2); omega
  clear hV e1 e2 e3
  have HNO := Lib.hid (fun (hn : ¬ (h ≤ 23 ∧ i ≤ 59 ∧ x ≤ 59)) => show V = .tuple #[.int .i64 0, .bool false] by rw [← HV.out, timeO]; (try simp only); rw [if_neg hn]; rfl)
  have q2 : 2 ≤ (s.size : Int) := by omega
  have q5 : 5 ≤ (s.size : Int) := by omega
  go_enter Tryd.func43, Tryd.ntmps43
  go_wp2_with fail
  refine wp_region_any (by kernel_rfl) ?_
  try (change wpAny _ _ _ _ _ _ _ (World.drew _))
  refine wpAny_take (i := 0) (v := ?_) rfl (by kernel_rfl) (by kernel_rfl) (by kernel_rfl) (fun _ _ _ h => h) (Or.inl ⟨by rfl, ?_⟩) ?_
  rotate_left 1
  · (intro w; go_simp) <;> with_reducible rfl
  refine wpAny_take (i := 1) (v := ?_) rfl (by kernel_rfl) (by kernel_rfl) (by kernel_rfl) (fun _ _ _ h => h) (Or.inl ⟨by rfl, ?_⟩) ?_
  rotate_left 1
  · (intro w; go_simp) <;> with_reducible rfl
  refine wpAny_take (i := 3) (v := ?_) rfl (by kernel_rfl) (by kernel_rfl) (by kernel_rfl) (fun _ _ _ h => h) (Or.inl ⟨by rfl, ?_⟩) ?_
  rotate_left 1
  · (intro w; go_simp) <;> with_reducible rfl
  refine wpAny_take (i := 4) (v := ?_) rfl (by kernel_rfl) (by kernel_rfl) (by kernel_rfl) (fun _ _ _ h => h) (Or.inl ⟨by rfl, ?_⟩) ?_
  rotate_left 1
  · (intro w; go_simp) <;> with_reducible rfl
  refine wpAny_take (i := 6) (v := ?_) rfl (by kernel_rfl) (by kernel_rfl) (by kernel_rfl) (fun _ _ _ h => h) (Or.inl ⟨by rfl, ?_⟩) ?_
  rotate_left 1
  · (intro w; go_simp) <;> with_reducible rfl
  refine wpAny_take (i := 7) (v := ?_) rfl (by kernel_rfl) (by kernel_rfl) (by kernel_rfl) (fun _ _ _ h => h) (Or.inl ⟨by rfl, ?_⟩) ?_
  rotate_left 1
  · (intro w; go_simp) <;> with_reducible rfl
  refine wpAny_ready (rs := [2]) (by kernel_rfl) (by simp) ?_
  refine AllReady.cons rfl (fun K hK => ?_) AllReady.nil
  go_simp
  go_wp2_with fail
  refine (cnum_sub HE1.out rfl (by decide) _).mono ?_
  rintro e wn ⟨rfl, rfl⟩
  go_wp2_with fail
  refine wpAny_ready (rs := [5]) (by kernel_rfl) (by simp) ?_
  refine AllReady.cons rfl (fun K hK => ?_) AllReady.nil
  go_simp
  go_wp2_with fail
  refine (cnum_sub HE2.out rfl (by decide) _).mono ?_
  rintro e wn ⟨rfl, rfl⟩
  go_wp2_with fail
  refine wpAny_ready (rs := [8]) (by kernel_rfl) (by simp) ?_
  refine AllReady.cons rfl (fun K hK => ?_) AllReady.nil
  go_simp
  go_wp2_with fail
  refine (cnum_sub HE3.out rfl (by decide) _).mono ?_
  rintro e wn ⟨rfl, rfl⟩
  go_wp2_with fail
  refine wpAny_take (i := 9) (v := ?_) rfl (by kernel_rfl) (by kernel_rfl) (by kernel_rfl) (fun _ _ _ h => h) (Or.inl ⟨by rfl, ?_⟩) ?_
  rotate_left 1
  · (intro w; go_simp) <;> with_reducible rfl
  refine wpAny_take (i := 10) (v := ?_) rfl (by kernel_rfl) (by kernel_rfl) (by kernel_rfl) (fun _ _ _ h => h) (Or.inl ⟨by rfl, ?_⟩) ?_
  rotate_left 1
  · (intro w; go_simp) <;> with_reducible rfl
  refine wpAny_take (i := 11) (v := ?_) rfl (by kernel_rfl) (by kernel_rfl) (by kernel_rfl) (fun _ _ _ h => h) (Or.inl ⟨by rfl, ?_⟩) ?_
  rotate_left 1
  · (intro w; go_simp) <;> with_reducible rfl
  refine wpAny_done (by kernel_rfl) ?_ _
  by_cases c1 : (24 : Int) ≤ (h : Int)
  · have HF := Lib.hid (HNO.out (by omega))
    go_wp2
    go_ret2
    exact ⟨by rw [HF.out]; rfl, (Below.refl _ w).drew⟩
  · by_cases c2 : (60 : Int) ≤ (i : Int)
    · have HF := Lib.hid (HNO.out (by omega))
      go_wp2
      go_ret2
      exact ⟨by rw [HF.out]; rfl, (Below.refl _ w).drew⟩
    · by_cases c3 : (60 : Int) ≤ (x : Int)
      · have HF := Lib.hid (HNO.out (by omega))
        go_wp2
        go_ret2
        exact ⟨by rw [HF.out]; rfl, (Below.refl _ w).drew⟩
      · have HF := Lib.hid (show V = .tuple #[.int .i64 ((h : Int) * 3600 + (i : Int) * 60 + (x : Int)), .bool true] by
          rw [← HV.out, timeO]
          try simp only
          rw [if_pos (by omega), show (h : Int) * 3600 + (i : Int) * 60 + (x : Int) = ((3600 * h + 60 * i + x : Nat) : Int) by omega]
          rfl)
        go_wp2
        go_ret2
        exact ⟨by rw [HF.out]; rfl, (Below.refl _ w).drew⟩

set_option maxHeartbeats 1000000 in
set_option maxRecDepth 100000 in
theorem czone_any (s : ByteArray) (hs : s.size ≤ 1048576) (h5 : 5 ≤ s.size) (h i : Nat) (e1 : numD (sub s.data.toList 1 2) = some h) (e2 : numD (sub s.data.toList 3 2) = some i) (w : World) :
    Calls Tryd.prog 44 #[.string s] w fun e w' => e = .returned (okV (awayO s.data.toList)) ∧ Below w.heap.size w w' := by
  obtain ⟨V, hV⟩ : ∃ V, okV (awayO s.data.toList) = V := ⟨_, rfl⟩
  rw [hV]
  have b1 : (h : Int) ≤ 99 := by have := num_le e1 (sub_le _ 1 2); omega
  have b2 : (i : Int) ≤ 99 := by have := num_le e2 (sub_le _ 3 2); omega
  have h5' : 5 ≤ (s.size : Int) := by omega
  have h0 : 0 < s.size := by omega
  have hg := getD_at s 0 h0
  rw [awayO, e1, e2, hg] at hV
  have HV := Lib.hid hV
  have HE1 := Lib.hid e1
  have HE2 := Lib.hid e2
  clear hV e1 e2 hg
  have HNO := Lib.hid (fun (hn : ¬ (h ≤ 23 ∧ i ≤ 59)) => show V = .tuple #[.int .i64 0, .bool false] by rw [← HV.out, zoneO]; (try simp only); rw [if_neg hn]; rfl)
  have HYES := Lib.hid (fun (hn : h ≤ 23 ∧ i ≤ 59) => show okV (if s[0] = 43 then some ((3600 * h + 60 * i : Nat) : Int) else if s[0] = 45 then some (-((3600 * h + 60 * i : Nat) : Int)) else none) = V by rw [← HV.out, zoneO]; (try simp only); rw [if_pos hn])
  have q3 : 3 ≤ (s.size : Int) := by omega
  have q1 : 0 < (s.size : Int) := by omega
  go_enter Tryd.func44, Tryd.ntmps44
  go_wp2_with fail
  refine wp_region_any (by kernel_rfl) ?_
  try (change wpAny _ _ _ _ _ _ _ (World.drew _))
  refine wpAny_take (i := 0) (v := ?_) rfl (by kernel_rfl) (by kernel_rfl) (by kernel_rfl) (fun _ _ _ h => h) (Or.inl ⟨by rfl, ?_⟩) ?_
  rotate_left 1
  · (intro w; go_simp) <;> with_reducible rfl
  refine wpAny_take (i := 1) (v := ?_) rfl (by kernel_rfl) (by kernel_rfl) (by kernel_rfl) (fun _ _ _ h => h) (Or.inl ⟨by rfl, ?_⟩) ?_
  rotate_left 1
  · (intro w; go_simp) <;> with_reducible rfl
  refine wpAny_take (i := 3) (v := ?_) rfl (by kernel_rfl) (by kernel_rfl) (by kernel_rfl) (fun _ _ _ h => h) (Or.inl ⟨by rfl, ?_⟩) ?_
  rotate_left 1
  · (intro w; go_simp) <;> with_reducible rfl
  refine wpAny_take (i := 4) (v := ?_) rfl (by kernel_rfl) (by kernel_rfl) (by kernel_rfl) (fun _ _ _ h => h) (Or.inl ⟨by rfl, ?_⟩) ?_
  rotate_left 1
  · (intro w; go_simp) <;> with_reducible rfl
  refine wpAny_ready (rs := [2]) (by kernel_rfl) (by simp) ?_
  refine AllReady.cons rfl (fun K hK => ?_) AllReady.nil
  go_simp
  go_wp2_with fail
  refine (cnum_sub HE1.out rfl (by decide) _).mono ?_
  rintro e wn ⟨rfl, rfl⟩
  go_wp2_with fail
  refine wpAny_ready (rs := [5]) (by kernel_rfl) (by simp) ?_
  refine AllReady.cons rfl (fun K hK => ?_) AllReady.nil
  go_simp
  go_wp2_with fail
  refine (cnum_sub HE2.out rfl (by decide) _).mono ?_
  rintro e wn ⟨rfl, rfl⟩
  go_wp2_with fail
  refine wpAny_take (i := 6) (v := ?_) rfl (by kernel_rfl) (by kernel_rfl) (by kernel_rfl) (fun _ _ _ h => h) (Or.inl ⟨by rfl, ?_⟩) ?_
  rotate_left 1
  · (intro w; go_simp) <;> with_reducible rfl
  refine wpAny_take (i := 7) (v := ?_) rfl (by kernel_rfl) (by kernel_rfl) (by kernel_rfl) (fun _ _ _ h => h) (Or.inl ⟨by rfl, ?_⟩) ?_
  rotate_left 1
  · (intro w; go_simp) <;> with_reducible rfl
  refine wpAny_done (by kernel_rfl) ?_ _
  by_cases c1 : (24 : Int) ≤ (h : Int)
  · have HF := Lib.hid (HNO.out (by omega))
    go_wp2
    go_ret2
    exact ⟨by rw [HF.out]; rfl, (Below.refl _ w).drew⟩
  · by_cases c2 : (60 : Int) ≤ (i : Int)
    · have HF := Lib.hid (HNO.out (by omega))
      go_wp2
      go_ret2
      exact ⟨by rw [HF.out]; rfl, (Below.refl _ w).drew⟩
    · have hy := HYES.out (by omega)
      by_cases p : (s[0].toNat : Int) = 43
      · have HF := Lib.hid (show V = .tuple #[.int .i64 ((h : Int) * 3600 + (i : Int) * 60), .bool true] by
          rw [← hy, if_pos (UInt8.toNat_inj.1 (by show s[0].toNat = 43; omega)), show (h : Int) * 3600 + (i : Int) * 60 = ((3600 * h + 60 * i : Nat) : Int) by omega]
          rfl)
        clear hy
        go_wp2
        go_ret2
        exact ⟨by rw [HF.out]; rfl, (Below.refl _ w).drew⟩
      · have np : s[0] ≠ 43 := fun e => p (by rw [e]; rfl)
        by_cases q : (s[0].toNat : Int) = 45
        · have HF := Lib.hid (show V = .tuple #[.int .i64 (-((h : Int) * 3600 + (i : Int) * 60)), .bool true] by
            rw [← hy, if_neg np, if_pos (UInt8.toNat_inj.1 (by show s[0].toNat = 45; omega)), show (h : Int) * 3600 + (i : Int) * 60 = ((3600 * h + 60 * i : Nat) : Int) by omega]
            rfl)
          clear hy np
          go_wp2
          go_ret2
          exact ⟨by rw [HF.out]; rfl, (Below.refl _ w).drew⟩
        · have nq : s[0] ≠ 45 := fun e => q (by rw [e]; rfl)
          have HF := Lib.hid (show V = .tuple #[.int .i64 0, .bool false] by rw [← hy, if_neg np, if_neg nq]; rfl)
          clear hy np nq
          go_wp2
          go_ret2
          exact ⟨by rw [HF.out]; rfl, (Below.refl _ w).drew⟩
end Go.Proofs.YtlhoellimldimaaDoor.D6
