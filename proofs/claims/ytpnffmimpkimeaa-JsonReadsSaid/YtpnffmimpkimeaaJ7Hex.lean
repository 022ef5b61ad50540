/-
  The reader of the document's answer for package json: hexadecimal digits, one and four. Conditions: the text has at most 65536 bytes.
-/
import Derived.Test.YtpnffmimpkimeaaJ7Rd
namespace Go.Proofs.Ytpnffmimpkimeaa.J7
open Go Go.RowKit Go.Joins Kit

theorem hv_not {c : UInt8} (h : ¬ (48 ≤ c.toNat ∧ c.toNat ≤ 57) ∧ ¬ (97 ≤ c.toNat ∧ c.toNat ≤ 102) ∧ ¬ (65 ≤ c.toNat ∧ c.toNat ≤ 70)) : Q4.hv c = -1 := by
  apply Q4.hv_none
  unfold Q4.hx Q4.hxN
  rw [if_neg h.1, if_neg h.2.1, if_neg h.2.2]
theorem hv_d {c : UInt8} (h : 48 ≤ c.toNat ∧ c.toNat ≤ 57) : Q4.hv c = (c.toNat : Int) - 48 := by
  have e : Q4.hx c = some (c.toNat - 48) := by unfold Q4.hx Q4.hxN; rw [if_pos h]
  rw [Q4.hv_some e]
  omega
theorem hv_l {c : UInt8} (h : 97 ≤ c.toNat ∧ c.toNat ≤ 102) : Q4.hv c = (c.toNat : Int) - 87 := by
  have e : Q4.hx c = some (c.toNat - 87) := by unfold Q4.hx Q4.hxN; rw [if_neg (by omega), if_pos h]
  rw [Q4.hv_some e]
  omega
theorem hv_u {c : UInt8} (h : 65 ≤ c.toNat ∧ c.toNat ≤ 70) : Q4.hv c = (c.toNat : Int) - 55 := by
  have e : Q4.hx c = some (c.toNat - 55) := by unfold Q4.hx Q4.hxN; rw [if_neg (by omega), if_neg (by omega), if_pos h]
  rw [Q4.hv_some e]
  omega
theorem hx_le {c : UInt8} {v : Nat} (h : Q4.hx c = some v) : v ≤ 15 := by
  unfold Q4.hx Q4.hxN at h
  split at h
  · have := Option.some.inj h; omega
  · split at h
    · have := Option.some.inj h; omega
    · split at h
      · have := Option.some.inj h; omega
      · cases h
theorem rhalf_any (c : UInt8) (w : World) :
    Calls Try.prog 66 #[.int .u8 (c.toNat : Int)] w fun e w' => e = .returned (.int .i64 (Q4.hv c)) ∧ w = w' := by
  have hc := c.toNat_lt
  rcases (show c.toNat < 48 ∨ (48 ≤ c.toNat ∧ c.toNat ≤ 57) ∨ (57 < c.toNat ∧ c.toNat < 65) ∨ (65 ≤ c.toNat ∧ c.toNat ≤ 70) ∨ (70 < c.toNat ∧ c.toNat < 97) ∨ (97 ≤ c.toNat ∧ c.toNat ≤ 102) ∨ 102 < c.toNat by omega) with h | h | h | h | h | h | h
  · have hd := Lib.hid (hv_not (c := c) (by omega))
    have g0 : (c.toNat : Int) < 48 := by omega
    clear h
    go_enter Try.func66, Try.ntmps66
    go_wp2
    go_ret
    exact ⟨ret_int (by rw [hd.out] <;> omega), rfl⟩
  · have hd := Lib.hid (hv_d (c := c) (by omega))
    have g0 : 48 ≤ (c.toNat : Int) := by omega
    have g1 : (c.toNat : Int) ≤ 57 := by omega
    clear h
    go_enter Try.func66, Try.ntmps66
    go_wp2
    go_ret
    exact ⟨ret_int (by rw [hd.out] <;> omega), rfl⟩
  · have hd := Lib.hid (hv_not (c := c) (by omega))
    have g0 : 57 < (c.toNat : Int) := by omega
    have g1 : (c.toNat : Int) < 65 := by omega
    clear h
    go_enter Try.func66, Try.ntmps66
    go_wp2
    go_ret
    exact ⟨ret_int (by rw [hd.out] <;> omega), rfl⟩
  · have hd := Lib.hid (hv_u (c := c) (by omega))
    have g0 : 65 ≤ (c.toNat : Int) := by omega
    have g1 : (c.toNat : Int) ≤ 70 := by omega
    clear h
    go_enter Try.func66, Try.ntmps66
    go_wp2
    go_ret
    exact ⟨ret_int (by rw [hd.out] <;> omega), rfl⟩
  · have hd := Lib.hid (hv_not (c := c) (by omega))
    have g0 : 70 < (c.toNat : Int) := by omega
    have g1 : (c.toNat : Int) < 97 := by omega
    clear h
    go_enter Try.func66, Try.ntmps66
    go_wp2
    go_ret
    exact ⟨ret_int (by rw [hd.out] <;> omega), rfl⟩
  · have hd := Lib.hid (hv_l (c := c) (by omega))
    have g0 : 97 ≤ (c.toNat : Int) := by omega
    have g1 : (c.toNat : Int) ≤ 102 := by omega
    clear h
    go_enter Try.func66, Try.ntmps66
    go_wp2
    go_ret
    exact ⟨ret_int (by rw [hd.out] <;> omega), rfl⟩
  · have hd := Lib.hid (hv_not (c := c) (by omega))
    have g0 : 102 < (c.toNat : Int) := by omega
    clear h
    go_enter Try.func66, Try.ntmps66
    go_wp2
    go_ret
    exact ⟨ret_int (by rw [hd.out] <;> omega), rfl⟩

/-- What hex leaves: the number, behind it the reader at the rest; or the error. -/
def HexLeft (R : Nat) (s : ByteArray) (d : Int) (w : World) (o : Out Nat) (e' : Ending) (w' : World) : Prop :=
  Step R w w' ∧ match o with
    | .ok (v, r) => e' = .returned (.int .i64 (v : Int)) ∧ v ≤ 65535 ∧ ∃ k : Nat, k ≤ s.size ∧ r = tail s k ∧ Rd R s (k : Int) d 0 w'
    | .error c => e' = .returned (.int .i64 (-1)) ∧ c = 3 ∧ ∃ k : Nat, k ≤ s.size ∧ Rd R s (k : Int) d 3 w'
theorem hexF_end (f v : Nat) {s : ByteArray} {q : Nat} (h : s.size ≤ q) : hexF (f + 1) v (tail s q) = .error 3 := by rw [tail_end h, hexF]
theorem hexF_bad (f v : Nat) {s : ByteArray} {q : Nat} (h : q < s.size) (hx : Q4.hx s[q] = none) : hexF (f + 1) v (tail s q) = .error 3 := by rw [tail_cons h, hexF, hx]
theorem hexF_step (f v : Nat) {s : ByteArray} {q x : Nat} (h : q < s.size) (hx : Q4.hx s[q] = some x) : hexF (f + 1) v (tail s q) = hexF f (16 * v + x) (tail s (q + 1)) := by rw [tail_cons h, hexF, hx]

set_option maxHeartbeats 2000000 in
set_option maxRecDepth 100000 in
theorem hex_any (R : Nat) (s : ByteArray) (i : Nat) (d : Int) (w : World) (h : Rd R s i d 0 w) (hs : s.size ≤ 65536) (hi : i ≤ s.size) :
    Calls Try.prog 60 #[.pointer (some ⟨R, 0, none⟩)] w fun e' w' => HexLeft R s d w (hexL (tail s i)) e' w' := by
  have hsz : (s.size : Int) ≤ 65536 := by omega
  obtain ⟨O, hO⟩ : ∃ O, hexL (tail s i) = O := ⟨_, rfl⟩
  rw [hO]
  have HO := Lib.hid (show hexF 4 0 (tail s i) = O from hO)
  clear hO
  go_enter Try.func60, Try.ntmps60
  go_wp2_with fail
  go_loopw [3, 4] (fun a b wr => ∃ (v k f q : Nat), a = .int .i64 v ∧ b = .int .i64 k ∧ k + f = 4 ∧ (v : Int) < 16 ^ k ∧ q ≤ s.size ∧ Hid (hexF f v (tail s q) = O) ∧ Rd R s (q : Int) d 0 wr ∧ Step R w wr) (fun _ b _ => 4 - (intOf b).toNat)
  case atStart => exact ⟨0, 0, 4, i, rfl, rfl, rfl, by decide, hi, HO, h, Step.refl R w⟩
  case round =>
    obtain ⟨v, k, f, q, rfl, rfl, hkf, hv, hq, HQ, hr, hst⟩ := hrel
    have hvb : (v : Int) ≤ 65535 := by
      have : k ≤ 4 := by omega
      rcases (show k = 0 ∨ k = 1 ∨ k = 2 ∨ k = 3 ∨ k = 4 by omega) with rfl | rfl | rfl | rfl | rfl <;> omega
    have h0 := hr.c0
    have h1 := hr.c1
    have hz := hr.free 1
    by_cases hk4 : (k : Int) < 4
    · obtain ⟨f', rfl⟩ : ∃ f', f = f' + 1 := ⟨f - 1, by omega⟩
      rcases Nat.lt_or_ge q s.size with hl | hl
      · have g1 : (q : Int) < s.size := by omega
        cases hx : Q4.hx s[q] with
        | none =>
          have HE := Lib.hid (show O = .error 3 from HQ.out.symm.trans (hexF_bad f' v hl hx))
          have e1 := Q4.hv_none hx
          clear hx
          go_wp2
          go_quiet (fail)
          go_wp2
          go_quiet ((refine (rhalf_any _ _).mono ?_; rintro e w9 ⟨rfl, rfl⟩; exact ⟨rfl, _, rfl⟩))
          (try rw [e1])
          go_wp2_with fail
          refine (fail_any R s q d 0 3 _ (hr.drewN _)).mono ?_
          rintro e' w3 ⟨rfl, hr3, hs3⟩
          have hst3 := (hst.drewN _).trans hs3
          go_wp2
          go_ret
          refine ⟨hst3, ?_⟩
          rw [HE.out]
          exact ⟨rfl, rfl, q, hq, by simpa using hr3⟩
        | some x =>
          have hxl := hx_le hx
          have hxi : (x : Int) ≤ 15 := by omega
          have HN := Lib.hid (show hexF f' (16 * v + x) (tail s (q + 1)) = O from (hexF_step f' v hl hx).symm.trans HQ.out)
          have e1 := Q4.hv_some hx
          have hvb' : (v : Int) ≤ 4095 := by
            rcases (show k = 0 ∨ k = 1 ∨ k = 2 ∨ k = 3 by omega) with rfl | rfl | rfl | rfl <;> omega
          have hv' : ((16 * v + x : Nat) : Int) < 16 ^ (k + 1) := by
            rw [Int.pow_succ]
            omega
          clear hx hv
          go_wp2
          go_quiet (fail)
          go_wp2
          go_quiet ((refine (rhalf_any _ _).mono ?_; rintro e w9 ⟨rfl, rfl⟩; exact ⟨rfl, _, rfl⟩))
          (try rw [e1])
          go_wp2
          go_roundw
          case rel => exact ⟨16 * v + x, k + 1, f', q + 1, by go_num, by go_num, by omega, hv', by omega, HN, by simpa using (hr.drewN _).set1 ((q : Int) + 1), (hst.drewN _).set 1 _⟩
          case measure => simp only [intOf]; omega
      · have HE := Lib.hid (show O = .error 3 from HQ.out.symm.trans (hexF_end f' v hl))
        have gi : decide (q < s.size) = false := by rw [decide_eq_false_iff_not]; omega
        go_wp2
        go_quiet (fail)
        go_wp2_with fail
        refine (fail_any R s q d 0 3 _ (hr.drewN _)).mono ?_
        rintro e' w3 ⟨rfl, hr3, hs3⟩
        have hst3 := (hst.drewN _).trans hs3
        go_wp2
        go_ret
        refine ⟨hst3, ?_⟩
        rw [HE.out]
        exact ⟨rfl, rfl, q, hq, by simpa using hr3⟩
    · have hf0 : f = 0 := by omega
      subst hf0
      have HE := Lib.hid (show O = .ok (v, tail s q) from HQ.out.symm.trans (by rw [hexF]))
      go_wp2
      go_ret
      refine ⟨hst, ?_⟩
      rw [HE.out]
      exact ⟨rfl, by omega, q, hq, rfl, hr⟩
end Go.Proofs.Ytpnffmimpkimeaa.J7
