/-
  The reader of the document's answer for package json: what stands behind a backslash. Conditions: the text has at most 65536 bytes.
-/
import Derived.Test.YtpnffmimpkimeaaJ7Hex
import Derived.Test.YtpnffmimpkimeaaJ7Word
import Derived.Test.YtpnffmimpkimeaaU8Ref
import Derived.Test.YtpnffmimpkimeaaJ7Ct
import Derived.Deep.CutRange
namespace Go.Proofs.Ytpnffmimpkimeaa.J7
open Go Go.RowKit Go.Joins Kit

/-- What a text's function leaves: the text, behind it the reader at the rest; or the error. -/
def TextLeft (R : Nat) (s : ByteArray) (d : Int) (w : World) (o : Out (List UInt8)) (e' : Ending) (w' : World) : Prop :=
  Step R w w' ∧ ∃ T : ByteArray, e' = .returned (.string T) ∧ match o with
    | .ok (t, r) => T.data.toList = t ∧ ∃ k : Nat, k ≤ s.size ∧ r = tail s k ∧ Rd R s (k : Int) d 0 w'
    | .error c => c = 3 ∧ T.size ≤ 4 ∧ ∃ k : Nat, k ≤ s.size ∧ Rd R s (k : Int) d 3 w'
theorem putB_size (r : Int) : (U8.putB r).size ≤ 4 := by
  rw [Lib.size_eq]
  show (U8.putL r).length ≤ 4
  rw [U8.putL_length]
  unfold U8.sizeN
  repeat (first | omega | split)
theorem rput_any (r : Int) (R : Nat) (s : ByteArray) (i d e : Int) (w : World) (h : Rd R s i d e w) :
    Calls Try.prog 19 #[.int .i64 r] w fun e' w' => e' = .returned (.string (U8.putB r)) ∧ Rd R s i d e w' ∧ Step R w w' := by
  refine (U8.ref_put r w).mono ?_
  rintro e' w' ⟨rfl, hb⟩
  exact ⟨rfl, ⟨by rw [hb.block R h.lt]; exact h.blk⟩, Step.of_below hb⟩
theorem esc_end {s : ByteArray} {i : Nat} (h : s.size ≤ i) : escapeL (tail s i) = .error 3 := by rw [tail_end h, escapeL]
theorem esc_at {s : ByteArray} {i : Nat} (h : i < s.size) : escapeL (tail s i) = (match signV s[i] with
    | some x => .ok ([x], tail s (i + 1))
    | none => if s[i] = 117 then unitL (tail s (i + 1)) else .error 3) := by
  rw [tail_cons h, escapeL]
  rfl

theorem esc_sign {s : ByteArray} {i : Nat} {c x : UInt8} (h : i < s.size) (hc : s[i] = c) (hx : signV c = some x) : escapeL (tail s i) = .ok ([x], tail s (i + 1)) := by rw [esc_at h, hc, hx]
theorem resc_u {s : ByteArray} {i : Nat} {c : UInt8} (h : i < s.size) (hc : s[i] = c) (hx : signV c = none) : escapeL (tail s i) = if c = 117 then unitL (tail s (i + 1)) else .error 3 := by rw [esc_at h, hc, hx]
/-- How a unit is read on. -/
theorem unit_err {l : List UInt8} {e : Nat} (h : hexL l = .error e) : unitL l = .error e := by unfold unitL; rw [h]
theorem unit_high {l r : List UInt8} {v : Nat} (h : hexL l = .ok (v, r)) (h1 : 55296 ≤ v) (h2 : v ≤ 56319) : unitL l = lowL v r := by unfold unitL; rw [h]; exact if_pos ⟨h1, h2⟩
theorem unit_low {l r : List UInt8} {v : Nat} (h : hexL l = .ok (v, r)) (h1 : 56320 ≤ v) (h2 : v ≤ 57343) : unitL l = .error 3 := by unfold unitL; rw [h]; exact (if_neg (by omega)).trans (if_pos ⟨h1, h2⟩)
theorem unit_other {l r : List UInt8} {v : Nat} (h : hexL l = .ok (v, r)) (h1 : v < 55296 ∨ 57343 < v) : unitL l = .ok (U8.putL (v : Int), r) := by unfold unitL; rw [h]; exact (if_neg (by omega)).trans (if_neg (by omega))
theorem low_1 {l : List UInt8} {v : Nat} (h : eatL 92 l = none) : lowL v l = .error 3 := by unfold lowL; rw [h]
theorem low_2 {l r : List UInt8} {v : Nat} (h : eatL 92 l = some r) (h1 : eatL 117 r = none) : lowL v l = .error 3 := by unfold lowL; rw [h]; simp only; rw [h1]
theorem low_3 {l r r1 : List UInt8} {v e : Nat} (h : eatL 92 l = some r) (h1 : eatL 117 r = some r1) (h2 : hexL r1 = .error e) : lowL v l = .error e := by unfold lowL; rw [h]; simp only; rw [h1]; simp only; rw [h2]
theorem low_4 {l r r1 r2 : List UInt8} {v x : Nat} (h : eatL 92 l = some r) (h1 : eatL 117 r = some r1) (h2 : hexL r1 = .ok (x, r2)) (h3 : x < 56320 ∨ 57343 < x) : lowL v l = .error 3 := by unfold lowL; rw [h]; simp only; rw [h1]; simp only; rw [h2]; exact if_neg (by omega)
theorem low_5 {l r r1 r2 : List UInt8} {v x : Nat} (h : eatL 92 l = some r) (h1 : eatL 117 r = some r1) (h2 : hexL r1 = .ok (x, r2)) (h3 : 56320 ≤ x) (h4 : x ≤ 57343) : lowL v l = .ok (U8.putL ((65536 + (v - 55296) * 1024 + (x - 56320) : Nat) : Int), r2) := by unfold lowL; rw [h]; simp only; rw [h1]; simp only; rw [h2]; exact if_pos ⟨h3, h4⟩

set_option maxHeartbeats 4000000 in
set_option maxRecDepth 100000 in
theorem escape_any (R : Nat) (s : ByteArray) (i : Nat) (d : Int) (w : World) (h : Rd R s i d 0 w) (hs : s.size ≤ 65536) (hi : i ≤ s.size) :
    Calls Try.prog 52 #[.pointer (some ⟨R, 0, none⟩)] w fun e' w' => TextLeft R s d w (escapeL (tail s i)) e' w' := by
  have hsz : (s.size : Int) ≤ 65536 := by omega
  have h0 := h.c0
  have h1 := h.c1
  have hz := h.free 1
  rcases Nat.lt_or_ge i s.size with hl | hl
  · have g1 : (i : Int) < s.size := by omega
    have c0 := s[i].toNat_lt
    obtain ⟨c, hc⟩ : ∃ c, s[i] = c := ⟨_, rfl⟩
    have hcn : (s[i].toNat : Int) = (c.toNat : Int) := by rw [hc]
    have HC := Lib.hid hc
    clear hc
    go_enter Try.func52, Try.ntmps52
    go_wp2
    go_quiet (fail)
    go_wp2
    go_quiet (fail)
    go_upto_region 5 with fail
    go_cut [] from 27 (fun wx => ∃ W : World, Rd R s ((i + 1 : Nat) : Int) d 0 W ∧ Step R w W ∧ W = wx)
    case first =>
      go_wp2
      go_meet
      refine ⟨_, ?_, ?_, rfl⟩
      · rw [show ((i + 1 : Nat) : Int) = (i : Int) + 1 by omega]
        first | exact (h.drewN _).set1 _ | exact ((h.drewN _).drewN _).set1 _
      · first | exact ((Step.refl R w).drewN _).set 1 _ | exact (((Step.refl R w).drewN _).drewN _).set 1 _
    case rest =>
      obtain ⟨wy, hr, hst, rfl⟩ := hcut
      clear h h0 h1 hz c0
      rcases sign_cases c with ⟨e, q⟩ | ⟨e, q⟩ | ⟨e, q⟩ | ⟨e, q⟩ | ⟨e, q⟩ | ⟨e, q⟩ | ⟨e, q⟩ | ⟨e, q⟩ | ⟨e, q⟩ | ⟨hn, q⟩
      · have HE := Lib.hid (esc_sign hl HC.out q)
        have e' : (c.toNat : Int) = 34 := by rw [e]; rfl
        have k1 := U8.run_lit1 34 (by decide) (by decide) wy
        rw [e] at hcn
        clear e q HC
        (try rw [e'])
        go_wp2_with fail
        go_ret
        refine ⟨hst.alloc _, _, rfl, ?_⟩
        rw [HE.out]
        exact ⟨rfl, i + 1, by omega, rfl, hr.alloc _⟩
      · have HE := Lib.hid (esc_sign hl HC.out q)
        have e' : (c.toNat : Int) = 92 := by rw [e]; rfl
        have k1 := U8.run_lit1 92 (by decide) (by decide) wy
        rw [e] at hcn
        clear e q HC
        (try rw [e'])
        go_wp2_with fail
        go_ret
        refine ⟨hst.alloc _, _, rfl, ?_⟩
        rw [HE.out]
        exact ⟨rfl, i + 1, by omega, rfl, hr.alloc _⟩
      · have HE := Lib.hid (esc_sign hl HC.out q)
        have e' : (c.toNat : Int) = 47 := by rw [e]; rfl
        have k1 := U8.run_lit1 47 (by decide) (by decide) wy
        rw [e] at hcn
        clear e q HC
        (try rw [e'])
        go_wp2_with fail
        go_ret
        refine ⟨hst.alloc _, _, rfl, ?_⟩
        rw [HE.out]
        exact ⟨rfl, i + 1, by omega, rfl, hr.alloc _⟩
      · have HE := Lib.hid (esc_sign hl HC.out q)
        have e' : (c.toNat : Int) = 98 := by rw [e]; rfl
        rw [e] at hcn
        clear e q HC
        (try rw [e'])
        go_wp2_with fail
        go_ret
        refine ⟨hst, _, rfl, ?_⟩
        rw [HE.out]
        exact ⟨rfl, i + 1, by omega, rfl, hr⟩
      · have HE := Lib.hid (esc_sign hl HC.out q)
        have e' : (c.toNat : Int) = 102 := by rw [e]; rfl
        rw [e] at hcn
        clear e q HC
        (try rw [e'])
        go_wp2_with fail
        go_ret
        refine ⟨hst, _, rfl, ?_⟩
        rw [HE.out]
        exact ⟨rfl, i + 1, by omega, rfl, hr⟩
      · have HE := Lib.hid (esc_sign hl HC.out q)
        have e' : (c.toNat : Int) = 110 := by rw [e]; rfl
        rw [e] at hcn
        clear e q HC
        (try rw [e'])
        go_wp2_with fail
        go_ret
        refine ⟨hst, _, rfl, ?_⟩
        rw [HE.out]
        exact ⟨rfl, i + 1, by omega, rfl, hr⟩
      · have HE := Lib.hid (esc_sign hl HC.out q)
        have e' : (c.toNat : Int) = 114 := by rw [e]; rfl
        rw [e] at hcn
        clear e q HC
        (try rw [e'])
        go_wp2_with fail
        go_ret
        refine ⟨hst, _, rfl, ?_⟩
        rw [HE.out]
        exact ⟨rfl, i + 1, by omega, rfl, hr⟩
      · have HE := Lib.hid (esc_sign hl HC.out q)
        have e' : (c.toNat : Int) = 116 := by rw [e]; rfl
        rw [e] at hcn
        clear e q HC
        (try rw [e'])
        go_wp2_with fail
        go_ret
        refine ⟨hst, _, rfl, ?_⟩
        rw [HE.out]
        exact ⟨rfl, i + 1, by omega, rfl, hr⟩
      · have hu := resc_u hl HC.out q
        rw [if_pos e] at hu
        have e' : (c.toNat : Int) = 117 := by rw [e]; rfl
        clear e q HC hcn
        (try rw [e'])
        have hx := hex_any R s (i + 1) d wy hr hs (by omega)
        cases ho : hexL (tail s (i + 1)) with
        | error er =>
          rw [ho] at hx
          have HE := Lib.hid (hu.trans (unit_err ho))
          clear hu ho
          go_wp2_with fail
          refine hx.mono ?_
          rintro e' w2 ⟨hs2, rfl, rfl, k, hk, hr2⟩
          have hst2 := hst.trans hs2
          clear hx
          go_wp2_with fail
          refine (rput_any (-1) R s k d 3 w2 hr2).mono ?_
          rintro e' w3 ⟨rfl, hr3, hs3⟩
          have hst3 := hst2.trans hs3
          go_wp2_with fail
          go_ret
          refine ⟨hst3, _, rfl, ?_⟩
          rw [HE.out]
          exact ⟨rfl, putB_size _, k, by omega, by simpa using hr3⟩
        | ok x =>
          obtain ⟨v, r⟩ := x
          rw [ho] at hx
          rcases (show (55296 ≤ v ∧ v ≤ 56319) ∨ (56320 ≤ v ∧ v ≤ 57343) ∨ (v < 55296 ∨ 57343 < v) by omega) with ⟨v1, v2⟩ | ⟨v1, v2⟩ | v1
          · have hu2 := hu.trans (unit_high ho v1 v2)
            have v1' : (55296 : Int) ≤ (v : Int) := by omega
            have v2' : (v : Int) ≤ 56319 := by omega
            clear hu ho
            go_wp2_with fail
            refine hx.mono ?_
            rintro e' w2 ⟨hs2, rfl, -, k, hk, rfl, hr2⟩
            have hst2 := hst.trans hs2
            clear hx
            cases e1 : eatL 92 (tail s k) with
            | none =>
              have HE := Lib.hid (hu2.trans (low_1 e1))
              have E1 := Lib.hid e1
              clear hu2 e1
              go_wp2_with fail
              refine (is_no R s k d 92 w2 hr2 hs E1.out).mono ?_
              rintro e' w3 ⟨rfl, hr3, hs3⟩
              have hst3 := hst2.trans hs3
              go_wp2_with fail
              refine (fail_any R s k d 0 3 w3 hr3).mono ?_
              rintro e' w4 ⟨rfl, hr4, hs4⟩
              have hst4 := hst3.trans hs4
              go_wp2_with fail
              go_ret
              refine ⟨hst4, _, rfl, ?_⟩
              rw [HE.out]
              exact ⟨rfl, by decide, k, by omega, by simpa using hr4⟩
            | some r1 =>
              obtain ⟨hkl, -, hre⟩ := eat_place e1
              subst hre
              have E1 := Lib.hid e1
              cases e2 : eatL 117 (tail s (k + 1)) with
              | none =>
                have HE := Lib.hid (hu2.trans (low_2 e1 e2))
                have E2 := Lib.hid e2
                clear hu2 e1 e2
                go_wp2_with fail
                refine (is_yes R s k d 92 w2 _ hr2 hs E1.out).mono ?_
                rintro e' w3 ⟨rfl, hr3, hs3⟩
                have hst3 := hst2.trans hs3
                go_wp2_with fail
                refine (is_no R s (k + 1) d 117 w3 hr3 hs E2.out).mono ?_
                rintro e' w4 ⟨rfl, hr4, hs4⟩
                have hst4 := hst3.trans hs4
                go_wp2_with fail
                refine (fail_any R s ((k + 1 : Nat) : Int) d 0 3 w4 hr4).mono ?_
                rintro e' w5 ⟨rfl, hr5, hs5⟩
                have hst5 := hst4.trans hs5
                go_wp2_with fail
                go_ret
                refine ⟨hst5, _, rfl, ?_⟩
                rw [HE.out]
                exact ⟨rfl, by decide, k + 1, by omega, by simpa using hr5⟩
              | some r2 =>
                obtain ⟨hkl2, -, hre2⟩ := eat_place e2
                subst hre2
                have E2 := Lib.hid e2
                cases e3 : hexL (tail s (k + 1 + 1)) with
                | error er =>
                  have HE := Lib.hid (hu2.trans (low_3 e1 e2 e3))
                  have E3 := Lib.hid e3
                  clear hu2 e1 e2 e3
                  go_wp2_with fail
                  refine (is_yes R s k d 92 w2 _ hr2 hs E1.out).mono ?_
                  rintro e' w3 ⟨rfl, hr3, hs3⟩
                  have hst3 := hst2.trans hs3
                  go_wp2_with fail
                  refine (is_yes R s (k + 1) d 117 w3 _ hr3 hs E2.out).mono ?_
                  rintro e' w4 ⟨rfl, hr4, hs4⟩
                  have hst4 := hst3.trans hs4
                  have hx2 := hex_any R s (k + 1 + 1) d w4 hr4 hs (by omega)
                  rw [E3.out] at hx2
                  go_wp2_with fail
                  refine hx2.mono ?_
                  rintro e' w5 ⟨hs5, rfl, rfl, k5, hk5, hr5⟩
                  have hst5 := hst4.trans hs5
                  clear hx2
                  go_wp2_with fail
                  refine (fail_any R s (k5 : Int) d 3 3 w5 hr5).mono ?_
                  rintro e' w6 ⟨rfl, hr6, hs6⟩
                  have hst6 := hst5.trans hs6
                  go_wp2_with fail
                  go_ret
                  refine ⟨hst6, _, rfl, ?_⟩
                  rw [HE.out]
                  exact ⟨rfl, by decide, k5, by omega, by simpa using hr6⟩
                | ok y =>
                  obtain ⟨x, r3⟩ := y
                  have E3 := Lib.hid e3
                  by_cases hx5 : 56320 ≤ x ∧ x ≤ 57343
                  · have HE := Lib.hid (hu2.trans (low_5 e1 e2 e3 hx5.1 hx5.2))
                    have x1 : (56320 : Int) ≤ (x : Int) := by omega
                    have x2 : (x : Int) ≤ 57343 := by omega
                    clear hu2 e1 e2 e3 hx5
                    go_wp2_with fail
                    refine (is_yes R s k d 92 w2 _ hr2 hs E1.out).mono ?_
                    rintro e' w3 ⟨rfl, hr3, hs3⟩
                    have hst3 := hst2.trans hs3
                    go_wp2_with fail
                    refine (is_yes R s (k + 1) d 117 w3 _ hr3 hs E2.out).mono ?_
                    rintro e' w4 ⟨rfl, hr4, hs4⟩
                    have hst4 := hst3.trans hs4
                    have hx2 := hex_any R s (k + 1 + 1) d w4 hr4 hs (by omega)
                    rw [E3.out] at hx2
                    go_wp2_with fail
                    refine hx2.mono ?_
                    rintro e' w5 ⟨hs5, rfl, -, k5, hk5, rfl, hr5⟩
                    have hst5 := hst4.trans hs5
                    clear hx2
                    go_wp2_with fail
                    refine (rput_any _ R s k5 d 0 w5 hr5).mono ?_
                    rintro e' w6 ⟨rfl, hr6, hs6⟩
                    have hst6 := hst5.trans hs6
                    go_wp2_with fail
                    go_ret
                    refine ⟨hst6, _, rfl, ?_⟩
                    rw [HE.out]
                    exact ⟨congrArg U8.putL (by omega), k5, hk5, rfl, hr6⟩
                  · have HE := Lib.hid (hu2.trans (low_4 e1 e2 e3 (by omega)))
                    have hx6 : (x : Int) ≤ 56319 ∨ (57344 : Int) ≤ (x : Int) := by omega
                    clear hu2 e1 e2 e3 hx5
                    rcases hx6 with hx6 | hx6
                    all_goals
                      go_wp2_with fail
                      refine (is_yes R s k d 92 w2 _ hr2 hs E1.out).mono ?_
                      rintro e' w3 ⟨rfl, hr3, hs3⟩
                      have hst3 := hst2.trans hs3
                      go_wp2_with fail
                      refine (is_yes R s (k + 1) d 117 w3 _ hr3 hs E2.out).mono ?_
                      rintro e' w4 ⟨rfl, hr4, hs4⟩
                      have hst4 := hst3.trans hs4
                      have hx2 := hex_any R s (k + 1 + 1) d w4 hr4 hs (by omega)
                      rw [E3.out] at hx2
                      go_wp2_with fail
                      refine hx2.mono ?_
                      rintro e' w5 ⟨hs5, rfl, -, k5, hk5, rfl, hr5⟩
                      have hst5 := hst4.trans hs5
                      clear hx2
                      go_wp2_with fail
                      refine (fail_any R s (k5 : Int) d 0 3 w5 hr5).mono ?_
                      rintro e' w6 ⟨rfl, hr6, hs6⟩
                      have hst6 := hst5.trans hs6
                      go_wp2_with fail
                      go_ret
                      refine ⟨hst6, _, rfl, ?_⟩
                      rw [HE.out]
                      exact ⟨rfl, by decide, k5, by omega, by simpa using hr6⟩
          · have HE := Lib.hid (hu.trans (unit_low ho v1 v2))
            have v1' : (56320 : Int) ≤ (v : Int) := by omega
            have v2' : (v : Int) ≤ 57343 := by omega
            clear hu ho
            go_wp2_with fail
            refine hx.mono ?_
            rintro e' w2 ⟨hs2, rfl, -, k, hk, rfl, hr2⟩
            have hst2 := hst.trans hs2
            clear hx
            go_wp2_with fail
            refine (fail_any R s (k : Int) d 0 3 w2 hr2).mono ?_
            rintro e' w3 ⟨rfl, hr3, hs3⟩
            have hst3 := hst2.trans hs3
            go_wp2_with fail
            refine (rput_any _ R s k d _ w3 hr3).mono ?_
            rintro e' w4 ⟨rfl, hr4, hs4⟩
            have hst4 := hst3.trans hs4
            go_wp2_with fail
            go_ret
            refine ⟨hst4, _, rfl, ?_⟩
            rw [HE.out]
            exact ⟨rfl, putB_size _, k, by omega, by simpa using hr4⟩
          · have HE := Lib.hid (hu.trans (unit_other ho v1))
            have v1' : (v : Int) ≤ 55295 ∨ (57344 : Int) ≤ (v : Int) := by omega
            clear hu ho v1
            rcases v1' with v1 | v1
            all_goals
              go_wp2_with fail
              refine hx.mono ?_
              rintro e' w2 ⟨hs2, rfl, v9, k, hk, rfl, hr2⟩
              have v9' : (v : Int) ≤ 65535 := by omega
              have hst2 := hst.trans hs2
              clear hx v9
              go_wp2_with fail
              refine (rput_any (v : Int) R s k d 0 w2 hr2).mono ?_
              rintro e' w4 ⟨rfl, hr4, hs4⟩
              have hst4 := hst2.trans hs4
              go_wp2_with fail
              go_ret
              refine ⟨hst4, _, rfl, ?_⟩
              rw [HE.out]
              exact ⟨rfl, k, hk, rfl, hr4⟩
      · have hu := resc_u hl HC.out q
        obtain ⟨n1, n2, n3, n4, n5, n6, n7, n8, n9⟩ := hn
        rw [if_neg n9] at hu
        have HE := Lib.hid hu
        have q1 : ((c.toNat : Int) == 34) = false := by rw [beq_eq_false_iff_ne]; exact fun e => n1 (byte_eq e)
        have q2 : ((c.toNat : Int) == 92) = false := by rw [beq_eq_false_iff_ne]; exact fun e => n2 (byte_eq e)
        have q3 : ((c.toNat : Int) == 47) = false := by rw [beq_eq_false_iff_ne]; exact fun e => n3 (byte_eq e)
        have q4 : ((c.toNat : Int) == 98) = false := by rw [beq_eq_false_iff_ne]; exact fun e => n4 (byte_eq e)
        have q5 : ((c.toNat : Int) == 102) = false := by rw [beq_eq_false_iff_ne]; exact fun e => n5 (byte_eq e)
        have q6 : ((c.toNat : Int) == 110) = false := by rw [beq_eq_false_iff_ne]; exact fun e => n6 (byte_eq e)
        have q7 : ((c.toNat : Int) == 114) = false := by rw [beq_eq_false_iff_ne]; exact fun e => n7 (byte_eq e)
        have q8 : ((c.toNat : Int) == 116) = false := by rw [beq_eq_false_iff_ne]; exact fun e => n8 (byte_eq e)
        have q9 : ((c.toNat : Int) == 117) = false := by rw [beq_eq_false_iff_ne]; exact fun e => n9 (byte_eq e)
        clear q hu HC n1 n2 n3 n4 n5 n6 n7 n8 n9
        go_wp2_with fail
        refine (fail_any R s ((i + 1 : Nat) : Int) d 0 3 wy hr).mono ?_
        rintro e' w3 ⟨rfl, hr3, hs3⟩
        have hst3 := hst.trans hs3
        go_wp2_with fail
        go_ret
        refine ⟨hst3, _, rfl, ?_⟩
        rw [HE.out]
        exact ⟨rfl, by decide, i + 1, by omega, by simpa using hr3⟩
  · have HE := Lib.hid (esc_end hl)
    have gi : decide (s.size ≤ i) = true := by rw [decide_eq_true_iff]; omega
    go_enter Try.func52, Try.ntmps52
    go_wp2
    go_quiet (fail)
    go_wp2_with fail
    refine (fail_any R s i d 0 3 _ (h.drewN _)).mono ?_
    rintro e' w3 ⟨rfl, hr3, hs3⟩
    have hst3 := ((Step.refl R w).drewN _).trans hs3
    go_wp2
    go_ret
    refine ⟨hst3, _, rfl, ?_⟩
    rw [HE.out]
    exact ⟨rfl, by decide, i, hi, by simpa using hr3⟩
end Go.Proofs.Ytpnffmimpkimeaa.J7
