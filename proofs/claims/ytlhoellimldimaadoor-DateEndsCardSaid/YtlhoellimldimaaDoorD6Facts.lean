/-
  Plain facts that the laws of package date take: the next second, a day out of a text, leap days, order. No program in this text. Conditions: none.
-/
import Derived.Test.YtlhoellimldimaaDoorD6Ex
namespace Go.Proofs.YtlhoellimldimaaDoor.D6
open Go

/-! ### The next second -/
theorem same_day {k : Nat} (h : k % 86400 ≠ 86399) : yr (k + 1) = yr k ∧ mo (k + 1) = mo k ∧ dy (k + 1) = dy k := by
  refine date_of (date_valid k) ?_
  rw [date_day]
  omega
theorem next_sec {k : Nat} (h : se k < 59) : (yr (k + 1) = yr k ∧ mo (k + 1) = mo k ∧ dy (k + 1) = dy k) ∧ ho (k + 1) = ho k ∧ mi (k + 1) = mi k ∧ se (k + 1) = se k + 1 := by
  refine ⟨same_day (by unfold se at h; omega), ?_⟩
  unfold ho mi se at *
  omega
theorem next_min {k : Nat} (h : ¬ se k < 59) (h2 : mi k < 59) : (yr (k + 1) = yr k ∧ mo (k + 1) = mo k ∧ dy (k + 1) = dy k) ∧ ho (k + 1) = ho k ∧ mi (k + 1) = mi k + 1 ∧ se (k + 1) = 0 := by
  refine ⟨same_day (by unfold mi at h2; omega), ?_⟩
  unfold ho mi se at *
  omega
theorem next_hour {k : Nat} (h : ¬ se k < 59) (h2 : ¬ mi k < 59) (h3 : ho k < 23) : (yr (k + 1) = yr k ∧ mo (k + 1) = mo k ∧ dy (k + 1) = dy k) ∧ ho (k + 1) = ho k + 1 ∧ mi (k + 1) = 0 ∧ se (k + 1) = 0 := by
  refine ⟨same_day (by unfold ho at h3; omega), ?_⟩
  unfold ho mi se at *
  omega
theorem next_day {k : Nat} (h : ¬ se k < 59) (h2 : ¬ mi k < 59) (h3 : ¬ ho k < 23) :
    ((yr (k + 1) = yr k ∧ mo (k + 1) = mo k ∧ dy (k + 1) = dy k + 1) ∨ (yr (k + 1) = yr k ∧ mo (k + 1) = mo k + 1 ∧ dy (k + 1) = 1 ∧ 28 ≤ dy k) ∨ (yr (k + 1) = yr k + 1 ∧ mo (k + 1) = 1 ∧ dy (k + 1) = 1 ∧ mo k = 12 ∧ dy k = 31)) ∧ ho (k + 1) = 0 ∧ mi (k + 1) = 0 ∧ se (k + 1) = 0 := by
  have hd : (k + 1) / 86400 = k / 86400 + 1 := by unfold ho mi se at *; omega
  refine ⟨?_, by unfold ho mi se at *; omega⟩
  have hday := date_day k
  rcases day_next (date_valid k) with ⟨h1, h2⟩ | ⟨h1, _, h2, h3⟩ | ⟨h1, h2, h3, h4⟩
  · exact Or.inl (date_of h1 (by rw [h2, hday, hd]; omega))
  · obtain ⟨a, b, c⟩ := date_of (n := k + 1) h2 (by rw [h3, hday, hd]; omega)
    exact Or.inr (Or.inl ⟨a, b, c, by rw [h1]; exact dim_ge _ _⟩)
  · obtain ⟨a, b, c⟩ := date_of (n := k + 1) h3 (by rw [h4, hday, hd]; omega)
    exact Or.inr (Or.inr ⟨a, b, c, h2, h1⟩)

/-! ### A day out of a text -/
theorem imap_day (n : Nat) : (imapL n).take 11 = day1 (dy n) :: dg (dy n % 10) :: 45 :: (mon3 (mo n) ++ 45 :: four (yr n)) := rfl
theorem day_low {n : Nat} (h : dy n < 10) : (imapL n).getD 0 0 = 32 ∧ ((imapL n).take 11).drop 1 = dayL (yr n) (mo n) (dy n) := by
  rw [imap_day]
  refine ⟨?_, ?_⟩
  · show day1 (dy n) = 32
    rw [day1, if_pos h]
  · rw [dayL, if_pos h]
    rfl
theorem day_high {n : Nat} (h : ¬ dy n < 10) : (imapL n).getD 0 0 ≠ 32 ∧ (imapL n).take 11 = dayL (yr n) (mo n) (dy n) := by
  have hd := dim_le (yr n) (mo n)
  have hv := (date_valid n).2.2.2
  rw [imap_day]
  refine ⟨?_, ?_⟩
  · show day1 (dy n) ≠ 32
    rw [day1, if_neg h]
    intro e
    have := congrArg UInt8.toNat e
    rw [dg_nat (by omega)] at this
    simp at this
    omega
  · rw [dayL, if_neg h, day1, if_neg h]
    rfl

/-! ### Leap days -/
theorem dim_feb (y : Nat) : dim y 2 = if leapN y then 29 else 28 := rfl
theorem feb29 (y : Nat) : ValidD y 2 29 ↔ leapN y = true := by
  unfold ValidD
  rw [dim_feb]
  cases leapN y <;> simp
theorem feb30 (y : Nat) : ¬ ValidD y 2 30 := by
  unfold ValidD
  rw [dim_feb]
  cases leapN y <;> simp
theorem feb28 (y : Nat) : ValidD y 2 28 := by
  unfold ValidD
  have := dim_ge y 2
  omega
theorem mar1 (y : Nat) : ValidD y 3 1 := ⟨by decide, by decide, by decide, by have := dim_ge y 3; omega⟩
theorem leap_days {y : Nat} (hy : 1970 ≤ y) : ((secs y 3 1).toNat : Int) - ((secs y 2 28).toNat : Int) = 86400 * (if leapN y then 2 else 1) := by
  have h1 := secs_pos (mar1 y) hy
  have h2 := secs_pos (feb28 y) hy
  have hm : monN y 3 = monN y 2 + dim y 2 := mon_succ y (m := 2) (by decide)
  rw [dim_feb] at hm
  have e : secs y 3 1 - secs y 2 28 = 86400 * (if leapN y then 2 else 1) := by
    unfold secs dayN
    cases h : leapN y with
    | true => rw [h] at hm; simp only [if_true] at hm ⊢; omega
    | false => rw [h] at hm; simp only [Bool.false_eq_true, if_false] at hm ⊢; omega
  omega
/-- The text of a leap day's first second. -/
def leapT (y : Nat) : List UInt8 := four y ++ [45, 48, 50, 45, 50, 57, 84, 48, 48, 58, 48, 48, 58, 48, 48, 90]
theorem secs_le {y m d : Nat} (h : ValidD y m d) (hy : y ≤ 9999) : secs y m d + 86399 ≤ 253402300799 := by
  have h1 := day_year h
  have h2 := ahead_mono (x := y + 1) (y := 10000) (by omega)
  rw [ahead_end] at h2
  unfold secs
  omega
theorem leap_yes {y : Nat} (hy : 1970 ≤ y) (hy2 : y ≤ 9999) (h : leapN y = true) : ∃ n, rrfcL (leapT y) = some n := by
  have hv := (feb29 y).2 h
  have hp := secs_pos hv hy
  have hl := secs_le hv hy2
  obtain ⟨n, hn⟩ : ∃ n : Nat, (secs y 2 29).toNat = n := ⟨_, rfl⟩
  have hs : secs y 2 29 = (n : Int) := by omega
  have hdiv : dayN y 2 29 = 719528 + n / 86400 := by unfold secs at hs; omega
  have hmod : n % 86400 = 0 := by unfold secs at hs; omega
  obtain ⟨e1, e2, e3⟩ := date_of hv hdiv
  refine ⟨n, rrfc_iff.2 ⟨by unfold maxT; omega, ?_⟩⟩
  unfold rfcL leapT
  rw [e1, e2, e3, show ho n = 0 by unfold ho; omega, show mi n = 0 by unfold mi; omega, show se n = 0 by unfold se; omega]
  rfl
theorem leap_no {y : Nat} (hy2 : y ≤ 9999) (h : leapN y = false) : rrfcL (leapT y) = none := by
  cases e : rrfcL (leapT y) with
  | none => rfl
  | some n =>
    obtain ⟨hn, hr⟩ := rrfc_iff.1 e
    have hv := date_valid n
    have hd := dim_le (yr n) (mo n)
    have f1 : numD (sub (leapT y) 0 4) = some y := num_four (by omega)
    have f2 : numD (sub (leapT y) 5 2) = some 2 := by show numD [48, 50] = some 2; decide +kernel
    have f3 : numD (sub (leapT y) 8 2) = some 29 := by show numD [50, 57] = some 29; decide +kernel
    rw [← hr] at f1 f2 f3
    have g1 : numD (sub (rfcL n) 0 4) = some (yr n) := num_four (by have := (yr_in hn).2; omega)
    have g2 : numD (sub (rfcL n) 5 2) = some (mo n) := num_two (by have := hv.2.1; omega)
    have g3 : numD (sub (rfcL n) 8 2) = some (dy n) := num_two (by have := hv.2.2.2; omega)
    have e1 : yr n = y := Option.some.inj (g1.symm.trans f1)
    have e2 : mo n = 2 := Option.some.inj (g2.symm.trans f2)
    have e3 : dy n = 29 := Option.some.inj (g3.symm.trans f3)
    rw [e1, e2, e3] at hv
    rw [(feb29 y).1 hv] at h
    cases h
end Go.Proofs.YtlhoellimldimaaDoor.D6
