/-
  Plain facts on how package date reckons: years by their mean length, forms held against texts, what a text that fits says. No program in this text. Conditions: none.
-/
import Derived.Test.YtlhoellimldimaaDoorD6Txt
namespace Go.Proofs.YtlhoellimldimaaDoor.D6
open Go

/-! ### Years by their mean length -/
theorem ahead_own (y : Nat) : (aheadN y : Int) = 365 * (y : Int) + ((y : Int) + 3) / 4 - ((y : Int) + 99) / 100 + ((y : Int) + 399) / 400 := by
  unfold aheadN
  split <;> omega
theorem ahead_low (y : Nat) : 400 * aheadN y ≤ 146097 * y + 699 := by have := ahead_own y; omega
theorem ahead_high (y : Nat) : 146097 * y ≤ 400 * aheadN y + 396 := by have := ahead_own y; omega
theorem year_est {D Y : Nat} (h1 : aheadN Y ≤ D) (h2 : D < aheadN (Y + 1)) : Y ≤ D * 400 / 146097 + 1 ∧ D * 400 / 146097 ≤ Y + 1 := by
  have a := ahead_high Y
  have b := ahead_low (Y + 1)
  omega
theorem year_low {E D Y : Nat} (h1 : aheadN Y ≤ D) (hE : E ≤ Y + 1) (h : D < aheadN E) : E = Y + 1 := by
  rcases Nat.lt_or_ge Y E with h' | h'
  · omega
  · have := ahead_mono h'; omega
theorem year_high {E D Y : Nat} (h2 : D < aheadN (Y + 1)) (hE : Y ≤ E + 1) (h : aheadN (E + 1) ≤ D) : Y = E + 1 := by
  rcases Nat.lt_or_ge E Y with h' | h'
  · omega
  · have := ahead_mono (x := Y + 1) (y := E + 1) (by omega); omega
theorem year_mid {E D Y : Nat} (h1 : aheadN Y ≤ D) (h2 : D < aheadN (Y + 1)) (h : ¬ D < aheadN E) (h' : ¬ aheadN (E + 1) ≤ D) : E = Y := by
  rcases Nat.lt_trichotomy E Y with hl | hl | hl
  · have := ahead_mono (x := E + 1) (y := Y) (by omega); omega
  · exact hl
  · have := ahead_mono (x := Y + 1) (y := E) (by omega); omega

/-! ### Forms -/
def fit1 (f c : UInt8) : Bool := f == 97 || (if f == 48 then Tx.isDig c else c == f)
def fitL : List UInt8 → List UInt8 → Bool
  | [], [] => true
  | f :: fs, c :: cs => fit1 f c && fitL fs cs
  | _, _ => false
theorem fit_len : ∀ (f s : List UInt8), fitL f s = true → s.length = f.length
  | [], [], _ => rfl
  | [], _ :: _, h => by simp [fitL] at h
  | _ :: _, [], h => by simp [fitL] at h
  | f :: fs, c :: cs, h => by
    simp only [fitL, Bool.and_eq_true] at h
    simp only [List.length_cons, fit_len fs cs h.2]
theorem fit_step {f s : List UInt8} (k : Nat) (hf : k < f.length) (hs : k < s.length) : fitL (f.drop k) (s.drop k) = (fit1 f[k] s[k] && fitL (f.drop (k + 1)) (s.drop (k + 1))) := by
  rw [List.drop_eq_getElem_cons hf, List.drop_eq_getElem_cons hs, fitL]
theorem fit_not {f s : List UInt8} (h : s.length ≠ f.length) : fitL f s = false := by
  cases e : fitL f s with
  | false => rfl
  | true => exact absurd (fit_len f s e) h
def shortF : List UInt8 := [48, 45, 97, 97, 97, 45, 48, 48, 48, 48]
def longF : List UInt8 := [48, 48, 45, 97, 97, 97, 45, 48, 48, 48, 48]
def restF : List UInt8 := [32, 48, 48, 58, 48, 48, 58, 48, 48, 32, 97, 48, 48, 48, 48]
def rfcF : List UInt8 := [48, 48, 48, 48, 45, 48, 48, 45, 48, 48, 84, 48, 48, 58, 48, 48, 58, 48, 48, 90]

/-! ### Digits that fit -/
def dv (c : UInt8) : Nat := c.toNat - 48
theorem dv_le {c : UInt8} (h : Tx.isDig c = true) : dv c ≤ 9 := by have := (Tx.isDig_iff c).1 h; unfold dv; omega
theorem dg_dv {c : UInt8} (h : Tx.isDig c = true) : dg (dv c) = c := by
  have h1 := (Tx.isDig_iff c).1 h
  apply UInt8.toNat_inj.1
  rw [dg_nat (by have := dv_le h; omega)]
  unfold dv
  omega
theorem numD1 {a : UInt8} (ha : Tx.isDig a = true) : numD [a] = some (dv a) := by
  unfold numD; simp only [Tx.numFrom, ha, if_true]; congr 1; unfold dv; omega
theorem numD2 {a b : UInt8} (ha : Tx.isDig a = true) (hb : Tx.isDig b = true) : numD [a, b] = some (dv a * 10 + dv b) := by
  unfold numD; simp only [Tx.numFrom, ha, hb, if_true]; congr 1; unfold dv; omega
theorem numD4 {a b c d : UInt8} (ha : Tx.isDig a = true) (hb : Tx.isDig b = true) (hc : Tx.isDig c = true) (hd : Tx.isDig d = true) : numD [a, b, c, d] = some (((dv a * 10 + dv b) * 10 + dv c) * 10 + dv d) := by
  unfold numD; simp only [Tx.numFrom, ha, hb, hc, hd, if_true]; congr 1; unfold dv; omega
theorem two_back {a b : UInt8} (ha : Tx.isDig a = true) (hb : Tx.isDig b = true) : two (dv a * 10 + dv b) = [a, b] := by
  have h1 := dv_le ha
  have h2 := dv_le hb
  unfold two
  rw [show (dv a * 10 + dv b) / 10 = dv a by omega, show (dv a * 10 + dv b) % 10 = dv b by omega, dg_dv ha, dg_dv hb]
theorem four_back {a b c d : UInt8} (ha : Tx.isDig a = true) (hb : Tx.isDig b = true) (hc : Tx.isDig c = true) (hd : Tx.isDig d = true) : four (((dv a * 10 + dv b) * 10 + dv c) * 10 + dv d) = [a, b, c, d] := by
  have h1 := dv_le ha
  have h2 := dv_le hb
  have h3 := dv_le hc
  have h4 := dv_le hd
  unfold four
  rw [show (((dv a * 10 + dv b) * 10 + dv c) * 10 + dv d) / 1000 = dv a by omega, show (((dv a * 10 + dv b) * 10 + dv c) * 10 + dv d) / 100 % 10 = dv b by omega, show (((dv a * 10 + dv b) * 10 + dv c) * 10 + dv d) / 10 % 10 = dv c by omega, show (((dv a * 10 + dv b) * 10 + dv c) * 10 + dv d) % 10 = dv d by omega, dg_dv ha, dg_dv hb, dg_dv hc, dg_dv hd]
theorem num_dig {c : UInt8} (r : List UInt8) (n : Nat) (h : Tx.isDig c = false) : Tx.numFrom (c :: r) n = none := by simp [Tx.numFrom, h]

/-! ### What texts that fit say -/
/-- Days from the first of 1970 to a date. -/
def daysI (y m d : Nat) : Int := (dayN y m d : Int) - 719528
theorem secs_days (y m d : Nat) : secs y m d = daysI y m d * 86400 := rfl
def daysO (y : Option Nat) (m : Nat) (d : Option Nat) : Option Int := match y, d with
  | some y, some d => if ValidD y m d then some (daysI y m d) else none
  | _, _ => none
theorem secsO_days (y : Option Nat) (m : Nat) (d : Option Nat) : secsO y m d = (daysO y m d).map (· * 86400) := by
  unfold secsO daysO
  cases y with
  | none => rfl
  | some y =>
    cases d with
    | none => rfl
    | some d =>
      simp only
      split <;> rfl
/-- The days of a text of a day. -/
def dateO (l : List UInt8) : Option Int :=
  if fitL shortF l then daysO (numD (sub l 6 4)) (whichN (sub l 2 3)) (numD (sub l 0 1))
  else if fitL longF l then daysO (numD (sub l 7 4)) (whichN (sub l 3 3)) (numD (sub l 0 2))
  else none
def clockO (l : List UInt8) : Option Nat := timeO (numD (sub l 0 2)) (numD (sub l 3 2)) (numD (sub l 6 2))
def awayO (l : List UInt8) : Option Int := match zoneO (numD (sub l 1 2)) (numD (sub l 3 2)) with
  | some z => if l.getD 0 0 = 43 then some (z : Int) else if l.getD 0 0 = 45 then some (-(z : Int)) else none
  | none => none
theorem fit_short {l : List UInt8} (h : fitL shortF l = true) : ∃ a b c d e f g h, l = [a, 45, b, c, d, 45, e, f, g, h] ∧ Tx.isDig a = true ∧ Tx.isDig e = true ∧ Tx.isDig f = true ∧ Tx.isDig g = true ∧ Tx.isDig h = true := by
  have hl := fit_len _ _ h
  match l, hl, h with
  | [a0, a1, a2, a3, a4, a5, a6, a7, a8, a9], _, h =>
    simp [shortF, fitL, fit1] at h
    obtain ⟨h0, h1, h5, h6, h7, h8, h9⟩ := h
    subst h1 h5
    exact ⟨a0, a2, a3, a4, a6, a7, a8, a9, rfl, h0, h6, h7, h8, h9⟩
theorem fit_long {l : List UInt8} (h : fitL longF l = true) : ∃ a a' b c d e f g h, l = [a, a', 45, b, c, d, 45, e, f, g, h] ∧ Tx.isDig a = true ∧ Tx.isDig a' = true ∧ Tx.isDig e = true ∧ Tx.isDig f = true ∧ Tx.isDig g = true ∧ Tx.isDig h = true := by
  have hl := fit_len _ _ h
  match l, hl, h with
  | [a0, a1, a2, a3, a4, a5, a6, a7, a8, a9, a10], _, h =>
    simp [longF, fitL, fit1] at h
    obtain ⟨h0, h1, h2, h6, h7, h8, h9, h10⟩ := h
    subst h2 h6
    exact ⟨a0, a1, a3, a4, a5, a7, a8, a9, a10, rfl, h0, h1, h7, h8, h9, h10⟩
theorem fit_rest {l : List UInt8} (h : fitL restF l = true) : ∃ a b c d e f z g h i j, l = [32, a, b, 58, c, d, 58, e, f, 32, z, g, h, i, j] ∧ Tx.isDig a = true ∧ Tx.isDig b = true ∧ Tx.isDig c = true ∧ Tx.isDig d = true ∧ Tx.isDig e = true ∧ Tx.isDig f = true ∧ Tx.isDig g = true ∧ Tx.isDig h = true ∧ Tx.isDig i = true ∧ Tx.isDig j = true := by
  have hl := fit_len _ _ h
  match l, hl, h with
  | [a0, a1, a2, a3, a4, a5, a6, a7, a8, a9, a10, a11, a12, a13, a14], _, h =>
    simp [restF, fitL, fit1] at h
    obtain ⟨h0, h1, h2, h3, h4, h5, h6, h7, h8, h9, h11, h12, h13, h14⟩ := h
    subst h0 h3 h6 h9
    exact ⟨a1, a2, a4, a5, a7, a8, a10, a11, a12, a13, a14, rfl, h1, h2, h4, h5, h7, h8, h11, h12, h13, h14⟩
theorem fit_rfc {l : List UInt8} (h : fitL rfcF l = true) : ∃ a b c d e f g h i j k m n o, l = [a, b, c, d, 45, e, f, 45, g, h, 84, i, j, 58, k, m, 58, n, o, 90] ∧ Tx.isDig a = true ∧ Tx.isDig b = true ∧ Tx.isDig c = true ∧ Tx.isDig d = true ∧ Tx.isDig e = true ∧ Tx.isDig f = true ∧ Tx.isDig g = true ∧ Tx.isDig h = true ∧ Tx.isDig i = true ∧ Tx.isDig j = true ∧ Tx.isDig k = true ∧ Tx.isDig m = true ∧ Tx.isDig n = true ∧ Tx.isDig o = true := by
  have hl := fit_len _ _ h
  match l, hl, h with
  | [a0, a1, a2, a3, a4, a5, a6, a7, a8, a9, a10, a11, a12, a13, a14, a15, a16, a17, a18, a19], _, h =>
    simp [rfcF, fitL, fit1] at h
    obtain ⟨h0, h1, h2, h3, h4, h5, h6, h7, h8, h9, h10, h11, h12, h13, h14, h15, h16, h17, h18, h19⟩ := h
    subst h4 h7 h10 h13 h16 h19
    exact ⟨a0, a1, a2, a3, a5, a6, a8, a9, a11, a12, a14, a15, a17, a18, rfl, h0, h1, h2, h3, h5, h6, h8, h9, h11, h12, h14, h15, h17, h18⟩
theorem fit_rfcL {n : Nat} (h : n ≤ maxT) : fitL rfcF (rfcL n) = true := by
  have ht := time_lt n
  obtain ⟨_, hm2, _, hd2⟩ := date_valid n
  have hd := dim_le (yr n) (mo n)
  have hy := (yr_in h).2
  have D : ∀ k, k < 10 → Tx.isDig (dg k) = true := fun k hk => (Tx.isDig_ofNat hk).1
  unfold rfcL rfcD four two
  simp only [List.cons_append, List.nil_append, rfcF, fitL, fit1]
  simp (discharger := omega) [D]

/-! ### The readers' answers -/
def ownRfc (l : List UInt8) : Option Nat := if fitL rfcF l then candL l else none
theorem rrfc_own (l : List UInt8) : rrfcL l = ownRfc l := by
  unfold ownRfc
  cases hf : fitL rfcF l with
  | false =>
    rw [if_neg (by decide)]
    cases e : rrfcL l with
    | none => rfl
    | some n =>
      obtain ⟨h1, rfl⟩ := rrfc_iff.1 e
      rw [fit_rfcL h1] at hf
      cases hf
  | true =>
    rw [if_pos rfl]
    cases e : candL l with
    | none => unfold rrfcL; rw [e]
    | some n =>
      refine rrfc_iff.2 ⟨cand_le e, ?_⟩
      obtain ⟨a, b, c, d, e1, f, g, h, i, j, k, m, o, p, rfl, da, db, dc, dd, de, df, dg', dh, di, dj, dk, dm, dn, dp⟩ := fit_rfc hf
      unfold candL at e
      rw [show sub [a, b, c, d, 45, e1, f, 45, g, h, 84, i, j, 58, k, m, 58, o, p, 90] 0 4 = [a, b, c, d] from rfl, show sub [a, b, c, d, 45, e1, f, 45, g, h, 84, i, j, 58, k, m, 58, o, p, 90] 5 2 = [e1, f] from rfl,
        show sub [a, b, c, d, 45, e1, f, 45, g, h, 84, i, j, 58, k, m, 58, o, p, 90] 8 2 = [g, h] from rfl, show sub [a, b, c, d, 45, e1, f, 45, g, h, 84, i, j, 58, k, m, 58, o, p, 90] 11 2 = [i, j] from rfl,
        show sub [a, b, c, d, 45, e1, f, 45, g, h, 84, i, j, 58, k, m, 58, o, p, 90] 14 2 = [k, m] from rfl, show sub [a, b, c, d, 45, e1, f, 45, g, h, 84, i, j, 58, k, m, 58, o, p, 90] 17 2 = [o, p] from rfl,
        numD4 da db dc dd, numD2 de df, numD2 dg' dh, numD2 di dj, numD2 dk dm, numD2 dn dp, Option.getD_some] at e
      have b4 := four_back da db dc dd
      have b1 := two_back de df
      have b2 := two_back dg' dh
      have b3 := two_back di dj
      have b5 := two_back dk dm
      have b6 := two_back dn dp
      generalize ((dv a * 10 + dv b) * 10 + dv c) * 10 + dv d = Y at *
      generalize dv e1 * 10 + dv f = M at *
      generalize dv g * 10 + dv h = D at *
      generalize dv i * 10 + dv j = H at *
      generalize dv k * 10 + dv m = I at *
      generalize dv o * 10 + dv p = S at *
      unfold secsO timeO at e
      simp only at e
      by_cases hv : ValidD Y M D
      · by_cases ht : H ≤ 23 ∧ I ≤ 59 ∧ S ≤ 59
        · rw [if_pos hv, if_pos ht] at e
          simp only at e
          obtain ⟨e, _⟩ := inT_iff.1 e
          have hday : dayN Y M D = 719528 + n / 86400 := by unfold secs at e; omega
          obtain ⟨q1, q2, q3⟩ := date_of hv hday
          have hr : n % 86400 = 3600 * H + 60 * I + S := by unfold secs at e; omega
          have q4 : ho n = H := by unfold ho; omega
          have q5 : mi n = I := by unfold mi; omega
          have q6 : se n = S := by unfold se; omega
          unfold rfcL rfcD
          rw [q1, q2, q3, q4, q5, q6, b4, b1, b2, b3, b5, b6]
          rfl
        · rw [if_pos hv, if_neg ht] at e
          cases e
      · rw [if_neg hv] at e
        cases e
/-- A second within the time there is. -/
def ownDay (l : List UInt8) : Option Nat := match dateO l with
  | some d => inT (d * 86400)
  | none => none
theorem days_in {y m d : Nat} (hy : y ≤ 9999) (h : ValidD y m d) : -719528 ≤ daysI y m d ∧ daysI y m d * 86400 + 86399 ≤ 253402300799 := by
  have h1 := day_year h
  have h2 := ahead_mono (x := y + 1) (y := 10000) (by omega)
  rw [ahead_end] at h2
  unfold daysI
  omega
theorem pos_in {y d : Option Nat} {m : Nat} (hy : ∀ k, y = some k → k ≤ 9999) : posO (secsO y m d) = match daysO y m d with
    | some t => inT (t * 86400)
    | none => none := by
  rw [secsO_days]
  unfold daysO
  cases y with
  | none => rfl
  | some y =>
    cases d with
    | none => rfl
    | some d =>
      simp only
      by_cases h : ValidD y m d
      · rw [if_pos h]
        have := (days_in (hy y rfl) h).2
        simp only [Option.map_some, posO, inT]
        by_cases h0 : 0 ≤ daysI y m d * 86400
        · rw [if_pos h0, if_pos ⟨h0, by omega⟩]
        · rw [if_neg h0, if_neg (fun e => h0 e.1)]
      · rw [if_neg h]
        rfl
theorem num_le4 {l : List UInt8} {k : Nat} (hl : l.length ≤ 4) (h : numD l = some k) : k ≤ 9999 := by
  have h1 := num_lt h
  have h2 := Nat.pow_le_pow_right (n := 10) (by decide) hl
  omega
theorem bool_no {b : Bool} (h : ¬ b = true) : b = false := by cases b; rfl; exact absurd rfl h
theorem num_none1 {a : UInt8} (r : List UInt8) (h : ¬ Tx.isDig a = true) : numD (a :: r) = none := num_dig r 0 (bool_no h)
theorem num_none2 {a b : UInt8} (r : List UInt8) (h : ¬ (Tx.isDig a = true ∧ Tx.isDig b = true)) : numD (a :: b :: r) = none := by
  by_cases ha : Tx.isDig a = true
  · have hb : ¬ Tx.isDig b = true := fun e => h ⟨ha, e⟩
    unfold numD
    rw [Tx.numFrom, if_pos ha]
    exact num_dig r _ (bool_no hb)
  · exact num_none1 _ ha
theorem num_none4 {a b c d : UInt8} (h : ¬ (Tx.isDig a = true ∧ Tx.isDig b = true ∧ Tx.isDig c = true ∧ Tx.isDig d = true)) : numD [a, b, c, d] = none := by
  by_cases hab : Tx.isDig a = true ∧ Tx.isDig b = true
  · unfold numD
    rw [Tx.numFrom, if_pos hab.1, Tx.numFrom, if_pos hab.2]
    by_cases hc : Tx.isDig c = true
    · have hd : ¬ Tx.isDig d = true := fun e => h ⟨hab.1, hab.2, hc, e⟩
      rw [Tx.numFrom, if_pos hc]
      exact num_dig _ _ (bool_no hd)
    · exact num_dig _ _ (bool_no hc)
  · exact num_none2 _ hab
theorem daysO_none1 (m : Nat) (d : Option Nat) : daysO none m d = none := rfl
theorem daysO_none2 (y : Option Nat) (m : Nat) : daysO y m none = none := by cases y <;> rfl
theorem rday_own (l : List UInt8) : rdayL l = ownDay l := by
  unfold rdayL ownDay
  by_cases h10 : l.length = 10
  · rw [show dayP l = 48 :: l by unfold dayP; rw [if_pos h10]]
    match l, h10 with
    | [a0, a1, a2, a3, a4, a5, a6, a7, a8, a9], _ =>
      by_cases hq : a1 = 45 ∧ a5 = 45
      · obtain ⟨rfl, rfl⟩ := hq
        rw [if_pos ⟨rfl, rfl, rfl⟩]
        show posO (secsO (numD [a6, a7, a8, a9]) (whichN [a2, a3, a4]) (numD [48, a0])) = _
        rw [pos_in (fun k hk => num_le4 (by simp) hk)]
        by_cases hd : Tx.isDig a0 = true
        · by_cases hy : Tx.isDig a6 = true ∧ Tx.isDig a7 = true ∧ Tx.isDig a8 = true ∧ Tx.isDig a9 = true
          · have hf : fitL shortF [a0, 45, a2, a3, a4, 45, a6, a7, a8, a9] = true := by simp [shortF, fitL, fit1, hd, hy]
            unfold dateO
            rw [if_pos hf, numD2 (by rfl) hd, show sub [a0, 45, a2, a3, a4, 45, a6, a7, a8, a9] 0 1 = [a0] from rfl, numD1 hd, show dv 48 * 10 + dv a0 = dv a0 by show 0 * 10 + dv a0 = dv a0; omega]
            rfl
          · have hf : fitL shortF [a0, 45, a2, a3, a4, 45, a6, a7, a8, a9] = false := by
              apply bool_no
              intro h
              simp [shortF, fitL, fit1] at h
              exact hy h.2
            unfold dateO
            rw [hf, if_neg (by decide), fit_not (f := longF) (by simp [longF]), if_neg (by decide), num_none4 hy, daysO_none1]
        · have hf : fitL shortF [a0, 45, a2, a3, a4, 45, a6, a7, a8, a9] = false := by
            apply bool_no
            intro h
            simp [shortF, fitL, fit1] at h
            exact hd h.1
          unfold dateO
          rw [hf, if_neg (by decide), fit_not (f := longF) (by simp [longF]), if_neg (by decide), num_none2 _ (fun e => hd e.2), daysO_none2]
      · have hf : fitL shortF [a0, a1, a2, a3, a4, a5, a6, a7, a8, a9] = false := by
          apply bool_no
          intro h
          simp [shortF, fitL, fit1] at h
          exact hq ⟨h.2.1, h.2.2.1⟩
        rw [if_neg (fun e => hq ⟨e.2.1, e.2.2⟩)]
        unfold dateO
        rw [hf, if_neg (by decide), fit_not (f := longF) (by simp [longF]), if_neg (by decide)]
  · rw [show dayP l = l by unfold dayP; rw [if_neg h10]]
    have hs : fitL shortF l = false := fit_not (by simpa [shortF] using h10)
    by_cases h11 : l.length = 11
    · match l, h11, hs with
      | [a0, b0, a1, a2, a3, a4, a5, a6, a7, a8, a9], _, hs =>
        have hd0 : dateO [a0, b0, a1, a2, a3, a4, a5, a6, a7, a8, a9] = if fitL longF [a0, b0, a1, a2, a3, a4, a5, a6, a7, a8, a9] then daysO (numD [a6, a7, a8, a9]) (whichN [a2, a3, a4]) (numD [a0, b0]) else none := by
          unfold dateO
          rw [hs, if_neg (by decide)]
          rfl
        rw [hd0]
        clear hd0 hs
        by_cases hq : a1 = 45 ∧ a5 = 45
        · obtain ⟨rfl, rfl⟩ := hq
          rw [if_pos (show ([a0, b0, 45, a2, a3, a4, 45, a6, a7, a8, a9] : List UInt8).length = 11 ∧ ([a0, b0, 45, a2, a3, a4, 45, a6, a7, a8, a9] : List UInt8).getD 2 0 = 45 ∧ ([a0, b0, 45, a2, a3, a4, 45, a6, a7, a8, a9] : List UInt8).getD 6 0 = 45 from ⟨rfl, rfl, rfl⟩)]
          show posO (secsO (numD [a6, a7, a8, a9]) (whichN [a2, a3, a4]) (numD [a0, b0])) = _
          rw [pos_in (fun k hk => num_le4 (by simp) hk)]
          by_cases hd : Tx.isDig a0 = true ∧ Tx.isDig b0 = true
          · by_cases hy : Tx.isDig a6 = true ∧ Tx.isDig a7 = true ∧ Tx.isDig a8 = true ∧ Tx.isDig a9 = true
            · have hf : fitL longF [a0, b0, 45, a2, a3, a4, 45, a6, a7, a8, a9] = true := by simp [longF, fitL, fit1, hd, hy]
              rw [if_pos hf]
            · have hf : fitL longF [a0, b0, 45, a2, a3, a4, 45, a6, a7, a8, a9] = false := by
                apply bool_no
                intro h
                simp [longF, fitL, fit1] at h
                exact hy h.2.2
              rw [hf, if_neg (by decide), num_none4 hy, daysO_none1]
          · have hf : fitL longF [a0, b0, 45, a2, a3, a4, 45, a6, a7, a8, a9] = false := by
              apply bool_no
              intro h
              simp [longF, fitL, fit1] at h
              exact hd ⟨h.1, h.2.1⟩
            rw [hf, if_neg (by decide), num_none2 _ hd, daysO_none2]
        · have hf : fitL longF [a0, b0, a1, a2, a3, a4, a5, a6, a7, a8, a9] = false := by
            apply bool_no
            intro h
            simp [longF, fitL, fit1] at h
            exact hq ⟨h.2.2.1, h.2.2.2.1⟩
          rw [if_neg (show ¬ (([a0, b0, a1, a2, a3, a4, a5, a6, a7, a8, a9] : List UInt8).length = 11 ∧ ([a0, b0, a1, a2, a3, a4, a5, a6, a7, a8, a9] : List UInt8).getD 2 0 = 45 ∧ ([a0, b0, a1, a2, a3, a4, a5, a6, a7, a8, a9] : List UInt8).getD 6 0 = 45) from fun e => hq ⟨e.2.1, e.2.2⟩), hf, if_neg (by decide)]
    · rw [if_neg (fun e => h11 e.1)]
      unfold dateO
      rw [hs, if_neg (by decide), fit_not (f := longF) (by simpa [longF] using h11), if_neg (by decide)]

/-- A day's eleven bytes, without a blank ahead. -/
def trimL (l : List UInt8) : List UInt8 := if l.getD 0 0 = 32 then l.drop 1 else l
def ownImap (l : List UInt8) : Option Nat :=
  if l.length = 26 ∧ fitL restF (l.drop 11) = true then match dateO (trimL (l.take 11)), clockO (l.drop 12), awayO (l.drop 21) with
    | some a, some b, some c => inT (a * 86400 + b - c)
    | _, _, _ => none
  else none
theorem date_own (a0 a1 a2 a3 a4 a5 a6 a7 a8 a9 a10 : UInt8) : dateO (trimL [a0, a1, a2, a3, a4, a5, a6, a7, a8, a9, a10]) =
    if a2 = 45 ∧ a6 = 45 then daysO (numD [a7, a8, a9, a10]) (whichN [a3, a4, a5]) (numD (if a0 = 32 then [a1] else [a0, a1])) else none := by
  by_cases h0 : a0 = 32
  · subst h0
    rw [if_pos rfl]
    show dateO [a1, a2, a3, a4, a5, a6, a7, a8, a9, a10] = _
    unfold dateO
    by_cases hq : a2 = 45 ∧ a6 = 45
    · obtain ⟨rfl, rfl⟩ := hq
      rw [if_pos (show (45 : UInt8) = 45 ∧ (45 : UInt8) = 45 from ⟨rfl, rfl⟩)]
      by_cases hd : Tx.isDig a1 = true ∧ Tx.isDig a7 = true ∧ Tx.isDig a8 = true ∧ Tx.isDig a9 = true ∧ Tx.isDig a10 = true
      · have hf : fitL shortF [a1, 45, a3, a4, a5, 45, a7, a8, a9, a10] = true := by simp [shortF, fitL, fit1, hd]
        rw [if_pos hf]
        rfl
      · have hf : fitL shortF [a1, 45, a3, a4, a5, 45, a7, a8, a9, a10] = false := by
          apply bool_no
          intro h
          simp [shortF, fitL, fit1] at h
          exact hd h
        rw [hf, if_neg (by decide), fit_not (f := longF) (by simp [longF]), if_neg (by decide)]
        by_cases h1 : Tx.isDig a1 = true
        · rw [num_none4 (fun e => hd ⟨h1, e⟩), daysO_none1]
        · rw [num_none1 _ h1, daysO_none2]
    · rw [if_neg hq]
      have hf : fitL shortF [a1, a2, a3, a4, a5, a6, a7, a8, a9, a10] = false := by
        apply bool_no
        intro h
        simp [shortF, fitL, fit1] at h
        exact hq ⟨h.2.1, h.2.2.1⟩
      rw [hf, if_neg (by decide), fit_not (f := longF) (by simp [longF]), if_neg (by decide)]
  · rw [if_neg h0]
    rw [show trimL [a0, a1, a2, a3, a4, a5, a6, a7, a8, a9, a10] = [a0, a1, a2, a3, a4, a5, a6, a7, a8, a9, a10] by
      unfold trimL
      rw [if_neg (by simpa using h0)]]
    unfold dateO
    rw [fit_not (f := shortF) (by simp [shortF]), if_neg (by decide)]
    by_cases hq : a2 = 45 ∧ a6 = 45
    · obtain ⟨rfl, rfl⟩ := hq
      rw [if_pos (show (45 : UInt8) = 45 ∧ (45 : UInt8) = 45 from ⟨rfl, rfl⟩)]
      by_cases hd : Tx.isDig a0 = true ∧ Tx.isDig a1 = true ∧ Tx.isDig a7 = true ∧ Tx.isDig a8 = true ∧ Tx.isDig a9 = true ∧ Tx.isDig a10 = true
      · have hf : fitL longF [a0, a1, 45, a3, a4, a5, 45, a7, a8, a9, a10] = true := by simp [longF, fitL, fit1, hd]
        rw [if_pos hf]
        rfl
      · have hf : fitL longF [a0, a1, 45, a3, a4, a5, 45, a7, a8, a9, a10] = false := by
          apply bool_no
          intro h
          simp [longF, fitL, fit1] at h
          exact hd h
        rw [hf, if_neg (by decide)]
        by_cases h1 : Tx.isDig a0 = true ∧ Tx.isDig a1 = true
        · rw [num_none4 (fun e => hd ⟨h1.1, h1.2, e⟩), daysO_none1]
        · rw [num_none2 _ h1, daysO_none2]
    · rw [if_neg hq]
      have hf : fitL longF [a0, a1, a2, a3, a4, a5, a6, a7, a8, a9, a10] = false := by
        apply bool_no
        intro h
        simp [longF, fitL, fit1] at h
        exact hq ⟨h.2.2.1, h.2.2.2.1⟩
      rw [hf, if_neg (by decide)]
theorem sum_time (a : Option Int) (c : Option Nat) (n : Bool) : sumO a none c n = none := by cases a <;> rfl
theorem sum_zone (a : Option Int) (b : Option Nat) (n : Bool) : sumO a b none n = none := by cases a <;> cases b <;> rfl
theorem time1 (a b : Option Nat) : timeO none a b = none := rfl
theorem time2 (a b : Option Nat) : timeO a none b = none := by cases a <;> rfl
theorem time3 (a b : Option Nat) : timeO a b none = none := by cases a <;> cases b <;> rfl
theorem zone1 (a : Option Nat) : zoneO none a = none := rfl
theorem zone2 (a : Option Nat) : zoneO a none = none := by cases a <;> rfl
theorem sum_none (b c : Option Nat) (n : Bool) : sumO none b c n = none := rfl
theorem rimap_own (l : List UInt8) : rimapL l = ownImap l := by
  unfold ownImap
  by_cases hl : l.length = 26
  · match l, hl with
    | [a0, a1, a2, a3, a4, a5, a6, a7, a8, a9, a10, a11, a12, a13, a14, a15, a16, a17, a18, a19, a20, a21, a22, a23, a24, a25], hl =>
      by_cases hf : fitL restF [a11, a12, a13, a14, a15, a16, a17, a18, a19, a20, a21, a22, a23, a24, a25] = true
      · rw [if_pos ⟨hl, hf⟩]
        have hf' := hf
        simp only [restF, fitL, fit1] at hf'
        simp at hf'
        obtain ⟨rfl, d12, d13, rfl, d15, d16, rfl, d18, d19, rfl, d22, d23, d24, d25⟩ := hf'
        rw [show ([a0, a1, a2, a3, a4, a5, a6, a7, a8, a9, a10, 32, a12, a13, 58, a15, a16, 58, a18, a19, 32, a21, a22, a23, a24, a25] : List UInt8).take 11 = [a0, a1, a2, a3, a4, a5, a6, a7, a8, a9, a10] from rfl, date_own]
        rw [show clockO (([a0, a1, a2, a3, a4, a5, a6, a7, a8, a9, a10, 32, a12, a13, 58, a15, a16, 58, a18, a19, 32, a21, a22, a23, a24, a25] : List UInt8).drop 12) = timeO (numD [a12, a13]) (numD [a15, a16]) (numD [a18, a19]) from rfl]
        rw [show awayO (([a0, a1, a2, a3, a4, a5, a6, a7, a8, a9, a10, 32, a12, a13, 58, a15, a16, 58, a18, a19, 32, a21, a22, a23, a24, a25] : List UInt8).drop 21) = (match zoneO (numD [a22, a23]) (numD [a24, a25]) with
          | some z => if a21 = 43 then some (z : Int) else if a21 = 45 then some (-(z : Int)) else none
          | none => none) from rfl]
        unfold rimapL
        rw [show sub [a0, a1, a2, a3, a4, a5, a6, a7, a8, a9, a10, 32, a12, a13, 58, a15, a16, 58, a18, a19, 32, a21, a22, a23, a24, a25] 7 4 = [a7, a8, a9, a10] from rfl, show sub [a0, a1, a2, a3, a4, a5, a6, a7, a8, a9, a10, 32, a12, a13, 58, a15, a16, 58, a18, a19, 32, a21, a22, a23, a24, a25] 3 3 = [a3, a4, a5] from rfl,
          show sub [a0, a1, a2, a3, a4, a5, a6, a7, a8, a9, a10, 32, a12, a13, 58, a15, a16, 58, a18, a19, 32, a21, a22, a23, a24, a25] 12 2 = [a12, a13] from rfl, show sub [a0, a1, a2, a3, a4, a5, a6, a7, a8, a9, a10, 32, a12, a13, 58, a15, a16, 58, a18, a19, 32, a21, a22, a23, a24, a25] 15 2 = [a15, a16] from rfl,
          show sub [a0, a1, a2, a3, a4, a5, a6, a7, a8, a9, a10, 32, a12, a13, 58, a15, a16, 58, a18, a19, 32, a21, a22, a23, a24, a25] 18 2 = [a18, a19] from rfl, show sub [a0, a1, a2, a3, a4, a5, a6, a7, a8, a9, a10, 32, a12, a13, 58, a15, a16, 58, a18, a19, 32, a21, a22, a23, a24, a25] 22 2 = [a22, a23] from rfl,
          show sub [a0, a1, a2, a3, a4, a5, a6, a7, a8, a9, a10, 32, a12, a13, 58, a15, a16, 58, a18, a19, 32, a21, a22, a23, a24, a25] 24 2 = [a24, a25] from rfl, show dayT [a0, a1, a2, a3, a4, a5, a6, a7, a8, a9, a10, 32, a12, a13, 58, a15, a16, 58, a18, a19, 32, a21, a22, a23, a24, a25] = (if a0 = 32 then [a1] else [a0, a1]) from rfl,
          show ([a0, a1, a2, a3, a4, a5, a6, a7, a8, a9, a10, 32, a12, a13, 58, a15, a16, 58, a18, a19, 32, a21, a22, a23, a24, a25] : List UInt8).getD 21 0 = a21 from rfl]
        generalize numD [a7, a8, a9, a10] = Y
        generalize whichN [a3, a4, a5] = M
        generalize numD (if a0 = 32 then [a1] else [a0, a1]) = D
        generalize timeO (numD [a12, a13]) (numD [a15, a16]) (numD [a18, a19]) = T
        generalize zoneO (numD [a22, a23]) (numD [a24, a25]) = Z
        have hF : FormI [a0, a1, a2, a3, a4, a5, a6, a7, a8, a9, a10, 32, a12, a13, 58, a15, a16, 58, a18, a19, 32, a21, a22, a23, a24, a25] ↔ (a2 = 45 ∧ a6 = 45) ∧ (a21 = 43 ∨ a21 = 45) := by
          constructor
          · rintro ⟨_, h1, h2, _, _, _, _, h3⟩; exact ⟨⟨h1, h2⟩, h3⟩
          · rintro ⟨⟨h1, h2⟩, h3⟩; exact ⟨rfl, h1, h2, rfl, rfl, rfl, rfl, h3⟩
        rw [secsO_days]
        by_cases hq : a2 = 45 ∧ a6 = 45
        · rw [if_pos hq]
          by_cases hz : a21 = 43
          · rw [if_pos (hF.2 ⟨hq, Or.inl hz⟩)]
            subst hz
            cases daysO Y M D <;> cases T <;> cases Z <;> rfl
          · by_cases hz' : a21 = 45
            · rw [if_pos (hF.2 ⟨hq, Or.inr hz'⟩)]
              subst hz'
              cases daysO Y M D <;> cases T <;> cases Z <;> rfl
            · rw [if_neg (fun e => by rcases (hF.1 e).2 with h | h; exact hz h; exact hz' h)]
              cases daysO Y M D <;> cases T <;> cases Z <;> simp [hz, hz']
        · rw [if_neg (fun e => hq (hF.1 e).1), if_neg hq]
      · rw [if_neg (fun e => hf e.2)]
        unfold rimapL
        by_cases hF : FormI [a0, a1, a2, a3, a4, a5, a6, a7, a8, a9, a10, a11, a12, a13, a14, a15, a16, a17, a18, a19, a20, a21, a22, a23, a24, a25]
        · rw [if_pos hF]
          obtain ⟨_, _, _, h1, h2, h3, h4, _⟩ := hF
          have e11 : a11 = 32 := h1
          have e14 : a14 = 58 := h2
          have e17 : a17 = 58 := h3
          have e20 : a20 = 32 := h4
          clear h1 h2 h3 h4
          subst e11 e14 e17 e20
          show sumO _ (timeO (numD [a12, a13]) (numD [a15, a16]) (numD [a18, a19])) (zoneO (numD [a22, a23]) (numD [a24, a25])) _ = none
          by_cases d1 : Tx.isDig a12 = true ∧ Tx.isDig a13 = true
          · by_cases d2 : Tx.isDig a15 = true ∧ Tx.isDig a16 = true
            · by_cases d3 : Tx.isDig a18 = true ∧ Tx.isDig a19 = true
              · by_cases d4 : Tx.isDig a22 = true ∧ Tx.isDig a23 = true
                · by_cases d5 : Tx.isDig a24 = true ∧ Tx.isDig a25 = true
                  · exact absurd (by simp [restF, fitL, fit1, d1, d2, d3, d4, d5]) hf
                  · rw [num_none2 _ d5, zone2, sum_zone]
                · rw [num_none2 _ d4, zone1, sum_zone]
              · rw [num_none2 _ d3, time3, sum_time]
            · rw [num_none2 _ d2, time2, sum_time]
          · rw [num_none2 _ d1, time1, sum_time]
        · rw [if_neg hF]
  · rw [if_neg (fun e => hl e.1)]
    unfold rimapL
    rw [if_neg (fun e => hl e.1)]
end Go.Proofs.YtlhoellimldimaaDoor.D6
