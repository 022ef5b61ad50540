/-
  Plain facts on the calendar: leap years, days ahead of a year and of a month, a day's date and that there is just one, the day behind it. No program in this text. Conditions: none.
-/
import Derived.Lib.Strings
namespace Go.Proofs.YtlhoellimldimaaDoor.D6
open Go

/-! ### Years -/
def leapN (y : Nat) : Bool := y % 4 == 0 && (!(y % 100 == 0) || y % 400 == 0)
theorem leap_iff (y : Nat) : leapN y = true ↔ y % 4 = 0 ∧ (y % 100 ≠ 0 ∨ y % 400 = 0) := by
  unfold leapN
  simp
def yearN (y : Nat) : Nat := if leapN y then 366 else 365
theorem year_le (y : Nat) : 365 ≤ yearN y ∧ yearN y ≤ 366 := by unfold yearN; split <;> omega
/-- The days ahead of a year, since the beginning of the year 0. -/
def aheadN (y : Nat) : Nat := if y = 0 then 0 else 365 * y + (y - 1) / 4 - (y - 1) / 100 + (y - 1) / 400 + 1
theorem div4 {y : Nat} (h : 1 ≤ y) : y / 4 = (y - 1) / 4 + (if y % 4 = 0 then 1 else 0) := by split <;> omega
theorem div100 {y : Nat} (h : 1 ≤ y) : y / 100 = (y - 1) / 100 + (if y % 100 = 0 then 1 else 0) := by split <;> omega
theorem div400 {y : Nat} (h : 1 ≤ y) : y / 400 = (y - 1) / 400 + (if y % 400 = 0 then 1 else 0) := by split <;> omega
theorem ahead_succ (y : Nat) : aheadN (y + 1) = aheadN y + yearN y := by
  unfold aheadN yearN
  by_cases h0 : y = 0
  · subst h0; decide
  · rw [if_neg (by omega), if_neg h0, Nat.add_sub_cancel]
    have h4 := div4 (y := y) (by omega)
    have h100 := div100 (y := y) (by omega)
    have h400 := div400 (y := y) (by omega)
    have hle : (y - 1) / 100 ≤ (y - 1) / 4 := by omega
    have d1 : y % 100 = 0 → y % 4 = 0 := by omega
    have d2 : y % 400 = 0 → y % 100 = 0 := by omega
    have hl := leap_iff y
    obtain ⟨a, ha⟩ : ∃ a, (y - 1) / 4 = a := ⟨_, rfl⟩
    obtain ⟨b, hb⟩ : ∃ b, (y - 1) / 100 = b := ⟨_, rfl⟩
    obtain ⟨c, hc⟩ : ∃ c, (y - 1) / 400 = c := ⟨_, rfl⟩
    rw [h4, h100, h400, ha, hb, hc]
    rw [ha, hb] at hle
    clear h4 h100 h400 ha hb hc
    by_cases e4 : y % 4 = 0
    · by_cases e100 : y % 100 = 0
      · by_cases e400 : y % 400 = 0
        · rw [if_pos e4, if_pos e100, if_pos e400, if_pos (hl.2 ⟨e4, Or.inr e400⟩)]
          clear hl d1 d2 e4 e100 e400
          omega
        · rw [if_pos e4, if_pos e100, if_neg e400, if_neg (fun e => by have := hl.1 e; rcases this.2 with h | h; exact h e100; exact e400 h)]
          clear hl d1 d2 e4 e100 e400
          omega
      · rw [if_pos e4, if_neg e100, if_neg (fun e => e100 (d2 e)), if_pos (hl.2 ⟨e4, Or.inl e100⟩)]
        clear hl d1 d2 e4 e100
        omega
    · rw [if_neg e4, if_neg (fun e => e4 (d1 e)), if_neg (fun e => e4 (d1 (d2 e))), if_neg (fun e => e4 (hl.1 e).1)]
      clear hl d1 d2 e4
      omega
theorem ahead_mono {x y : Nat} (h : x ≤ y) : aheadN x ≤ aheadN y := by
  induction y with
  | zero => rw [show x = 0 by omega]; exact Nat.le_refl _
  | succ y ih =>
    by_cases e : x = y + 1
    · rw [e]; exact Nat.le_refl _
    · have := ih (by omega)
      have := ahead_succ y
      omega
theorem ahead_ge (y : Nat) : 365 * y ≤ aheadN y := by
  induction y with
  | zero => simp
  | succ y ih => have := ahead_succ y; have := (year_le y).1; omega
theorem ahead_le (y : Nat) : aheadN y ≤ 366 * y := by
  induction y with
  | zero => simp [aheadN]
  | succ y ih => have := ahead_succ y; have := (year_le y).2; omega
theorem epoch : aheadN 1970 = 719528 := by decide
theorem ahead_end : aheadN 10000 = 3652425 := by decide

/-! ### Months -/
def dim (y m : Nat) : Nat := if m = 2 then (if leapN y then 29 else 28) else if m = 4 ∨ m = 6 ∨ m = 9 ∨ m = 11 then 30 else 31
theorem dim_ge (y m : Nat) : 28 ≤ dim y m := by unfold dim; split <;> (try split) <;> omega
theorem dim_le (y m : Nat) : dim y m ≤ 31 := by unfold dim; split <;> (try split) <;> omega
/-- The days of a year ahead of a month. -/
def monN (y : Nat) : Nat → Nat
  | 0 => 0
  | 1 => 0
  | m + 2 => monN y (m + 1) + dim y (m + 1)
theorem mon_one (y : Nat) : monN y 1 = 0 := rfl
theorem mon_succ (y : Nat) {m : Nat} (h : 1 ≤ m) : monN y (m + 1) = monN y m + dim y m := by
  obtain ⟨k, rfl⟩ : ∃ k, m = k + 1 := ⟨m - 1, by omega⟩
  rfl
theorem mon_all (y : Nat) : monN y 13 = yearN y := by
  unfold yearN
  cases h : leapN y <;> simp [monN, dim, h]
theorem mon_mono (y : Nat) {a b : Nat} (ha : 1 ≤ a) (h : a ≤ b) : monN y a ≤ monN y b := by
  induction b with
  | zero => omega
  | succ b ih =>
    by_cases e : a = b + 1
    · rw [e]; exact Nat.le_refl _
    · have := ih (by omega)
      have := mon_succ y (m := b) (by omega)
      omega
def ValidD (y m d : Nat) : Prop := 1 ≤ m ∧ m ≤ 12 ∧ 1 ≤ d ∧ d ≤ dim y m
/-- A date's day, since the beginning of the year 0. -/
def dayN (y m d : Nat) : Nat := aheadN y + monN y m + (d - 1)
theorem day_in {y m d : Nat} (h : ValidD y m d) : monN y m + (d - 1) < monN y (m + 1) ∧ monN y (m + 1) ≤ yearN y := by
  obtain ⟨h1, h2, h3, h4⟩ := h
  have := mon_succ y h1
  have := mon_mono y (a := m + 1) (b := 13) (by omega) (by omega)
  rw [mon_all] at this
  omega
theorem day_year {y m d : Nat} (h : ValidD y m d) : aheadN y ≤ dayN y m d ∧ dayN y m d < aheadN (y + 1) := by
  have := day_in h
  have := ahead_succ y
  unfold dayN
  omega
theorem day_inj {y m d y' m' d' : Nat} (h : ValidD y m d) (h' : ValidD y' m' d') (e : dayN y m d = dayN y' m' d') : y = y' ∧ m = m' ∧ d = d' := by
  have hy : y = y' := by
    have a := day_year h
    have b := day_year h'
    rcases Nat.lt_trichotomy y y' with hl | hl | hl
    · have := ahead_mono (x := y + 1) (y := y') (by omega); omega
    · exact hl
    · have := ahead_mono (x := y' + 1) (y := y) (by omega); omega
  subst hy
  have hm : m = m' := by
    have a := day_in h
    have b := day_in h'
    obtain ⟨h1, _⟩ := h
    obtain ⟨h1', _⟩ := h'
    unfold dayN at e
    rcases Nat.lt_trichotomy m m' with hl | hl | hl
    · have := mon_mono y (a := m + 1) (b := m') (by omega) (by omega); omega
    · exact hl
    · have := mon_mono y (a := m' + 1) (b := m) (by omega) (by omega); omega
  subst hm
  obtain ⟨_, _, h3, _⟩ := h
  obtain ⟨_, _, h3', _⟩ := h'
  unfold dayN at e
  exact ⟨rfl, rfl, by omega⟩
/-- Of two dates the days are in their order. -/
theorem day_lt {y m d y' m' d' : Nat} (h : ValidD y m d) (h' : ValidD y' m' d') : dayN y m d < dayN y' m' d' ↔ y < y' ∨ (y = y' ∧ (m < m' ∨ (m = m' ∧ d < d'))) := by
  have ay := day_year h
  have by' := day_year h'
  rcases Nat.lt_trichotomy y y' with hl | hl | hl
  · have := ahead_mono (x := y + 1) (y := y') (by omega)
    constructor
    · intro _; exact Or.inl hl
    · intro _; omega
  · subst hl
    have am := day_in h
    have bm := day_in h'
    obtain ⟨h1, _, h3, _⟩ := h
    obtain ⟨h1', _, h3', _⟩ := h'
    rcases Nat.lt_trichotomy m m' with hl | hl | hl
    · have := mon_mono y (a := m + 1) (b := m') (by omega) (by omega)
      unfold dayN
      constructor
      · intro _; exact Or.inr ⟨rfl, Or.inl hl⟩
      · intro _; omega
    · subst hl
      unfold dayN
      constructor
      · intro _; exact Or.inr ⟨rfl, Or.inr ⟨rfl, by omega⟩⟩
      · rintro (h | ⟨_, h | ⟨_, h⟩⟩) <;> omega
    · have := mon_mono y (a := m' + 1) (b := m) (by omega) (by omega)
      unfold dayN
      constructor
      · intro _; omega
      · rintro (h | ⟨_, h | ⟨_, h⟩⟩) <;> omega
  · have := ahead_mono (x := y' + 1) (y := y) (by omega)
    constructor
    · intro _; omega
    · rintro (h | ⟨h, _⟩) <;> omega

/-! ### A day's date -/
def yearF : Nat → Nat → Nat → Nat
  | 0, y, _ => y
  | f + 1, y, D => if aheadN (y + 1) ≤ D then yearF f (y + 1) D else y
theorem yearF_spec : ∀ (f y D : Nat), aheadN y ≤ D → D < aheadN (y + f + 1) → aheadN (yearF f y D) ≤ D ∧ D < aheadN (yearF f y D + 1)
  | 0, y, D, h1, h2 => ⟨h1, h2⟩
  | f + 1, y, D, h1, h2 => by
    unfold yearF
    split
    · rename_i h
      exact yearF_spec f (y + 1) D h (by rw [show y + 1 + f + 1 = y + (f + 1) + 1 by omega]; exact h2)
    · exact ⟨h1, by omega⟩
def monF (y : Nat) : Nat → Nat → Nat → Nat × Nat
  | 0, m, r => (m, r)
  | f + 1, m, r => if dim y m ≤ r then monF y f (m + 1) (r - dim y m) else (m, r)
theorem monF_spec (y : Nat) : ∀ (f m r : Nat), 1 ≤ m → m + f = 13 → monN y m + r < yearN y → m ≤ (monF y f m r).1 ∧ (monF y f m r).1 ≤ 12 ∧ (monF y f m r).2 < dim y (monF y f m r).1 ∧ monN y (monF y f m r).1 + (monF y f m r).2 = monN y m + r
  | 0, m, r, h1, hf, h => by
    have hm : m = 13 := by omega
    subst hm
    rw [mon_all] at h
    omega
  | f + 1, m, r, h1, hf, h => by
    unfold monF
    split
    · rename_i hd
      have e := mon_succ y h1
      have ih := monF_spec y f (m + 1) (r - dim y m) (by omega) (by omega) (by omega)
      omega
    · exact ⟨Nat.le_refl _, by omega, by simp only; omega, rfl⟩
def civD (D : Nat) : Nat × Nat × Nat := (yearF D 0 D, (monF (yearF D 0 D) 12 1 (D - aheadN (yearF D 0 D))).1, (monF (yearF D 0 D) 12 1 (D - aheadN (yearF D 0 D))).2 + 1)
theorem civD_spec (D : Nat) : ValidD (civD D).1 (civD D).2.1 (civD D).2.2 ∧ dayN (civD D).1 (civD D).2.1 (civD D).2.2 = D := by
  have h1 := yearF_spec D 0 D (by simp [aheadN]) (by have := ahead_ge (0 + D + 1); omega)
  unfold civD ValidD dayN
  simp only
  obtain ⟨y, hy⟩ : ∃ y, yearF D 0 D = y := ⟨_, rfl⟩
  rw [hy] at h1 ⊢
  have hs := ahead_succ y
  have h2 := monF_spec y 12 1 (D - aheadN y) (Nat.le_refl _) rfl (by rw [mon_one]; omega)
  rw [mon_one] at h2
  omega
theorem civD_of {y m d D : Nat} (h : ValidD y m d) (e : dayN y m d = D) : civD D = (y, m, d) := by
  obtain ⟨h1, h2⟩ := civD_spec D
  obtain ⟨e1, e2, e3⟩ := day_inj h1 h (h2.trans e.symm)
  rw [← e1, ← e2, ← e3]
/-- The day behind a date. -/
theorem day_next {y m d : Nat} (h : ValidD y m d) :
    (ValidD y m (d + 1) ∧ dayN y m (d + 1) = dayN y m d + 1) ∨ (d = dim y m ∧ m < 12 ∧ ValidD y (m + 1) 1 ∧ dayN y (m + 1) 1 = dayN y m d + 1) ∨ (d = 31 ∧ m = 12 ∧ ValidD (y + 1) 1 1 ∧ dayN (y + 1) 1 1 = dayN y m d + 1) := by
  obtain ⟨h1, h2, h3, h4⟩ := h
  by_cases hd : d < dim y m
  · exact Or.inl ⟨⟨h1, h2, by omega, hd⟩, by unfold dayN; omega⟩
  · by_cases hm : m < 12
    · refine Or.inr (Or.inl ⟨by omega, hm, ⟨by omega, by omega, Nat.le_refl _, by have := dim_ge y (m + 1); omega⟩, ?_⟩)
      have := mon_succ y h1
      unfold dayN
      omega
    · have hm' : m = 12 := by omega
      subst hm'
      have h31 : dim y 12 = 31 := rfl
      refine Or.inr (Or.inr ⟨by omega, rfl, ⟨Nat.le_refl _, by decide, Nat.le_refl _, by have := dim_ge (y + 1) 1; omega⟩, ?_⟩)
      have := ahead_succ y
      have := mon_succ y (m := 12) (by omega)
      rw [mon_all] at this
      unfold dayN
      rw [mon_one]
      omega

/-! ### A second's date and time -/
def maxT : Nat := 253402300799
def yr (n : Nat) : Nat := (civD (719528 + n / 86400)).1
def mo (n : Nat) : Nat := (civD (719528 + n / 86400)).2.1
def dy (n : Nat) : Nat := (civD (719528 + n / 86400)).2.2
def ho (n : Nat) : Nat := n % 86400 / 3600
def mi (n : Nat) : Nat := n % 86400 / 60 % 60
def se (n : Nat) : Nat := n % 86400 % 60
theorem time_lt (n : Nat) : ho n ≤ 23 ∧ mi n ≤ 59 ∧ se n ≤ 59 := by unfold ho mi se; omega
theorem time_sum (n : Nat) : 3600 * ho n + 60 * mi n + se n = n % 86400 := by unfold ho mi se; omega
theorem yr_eq (n : Nat) : yr n = (civD (719528 + n / 86400)).1 := by rw [yr]
theorem mo_eq (n : Nat) : mo n = (civD (719528 + n / 86400)).2.1 := by rw [mo]
theorem dy_eq (n : Nat) : dy n = (civD (719528 + n / 86400)).2.2 := by rw [dy]
theorem date_valid (n : Nat) : ValidD (yr n) (mo n) (dy n) := by
  rw [yr_eq, mo_eq, dy_eq]
  exact (civD_spec _).1
theorem date_day (n : Nat) : dayN (yr n) (mo n) (dy n) = 719528 + n / 86400 := by
  rw [yr_eq, mo_eq, dy_eq]
  exact (civD_spec _).2
theorem date_of {n y m d : Nat} (h : ValidD y m d) (e : dayN y m d = 719528 + n / 86400) : yr n = y ∧ mo n = m ∧ dy n = d := by
  rw [yr_eq, mo_eq, dy_eq, civD_of h e]
  exact ⟨rfl, rfl, rfl⟩
theorem yr_in {n : Nat} (h : n ≤ maxT) : 1970 ≤ yr n ∧ yr n ≤ 9999 := by
  have hy := day_year (date_valid n)
  rw [date_day] at hy
  unfold maxT at h
  constructor
  · rcases Nat.lt_or_ge (yr n) 1970 with hl | hl
    · have := ahead_mono (x := yr n + 1) (y := 1970) (by omega)
      rw [epoch] at this
      omega
    · exact hl
  · rcases Nat.lt_or_ge 9999 (yr n) with hl | hl
    · have := ahead_mono (x := 10000) (y := yr n) (by omega)
      rw [ahead_end] at this
      omega
    · exact hl
/-- Seconds from the beginning of 1970 to the first of a date. -/
def secs (y m d : Nat) : Int := ((dayN y m d : Int) - 719528) * 86400
theorem secs_date (n : Nat) : secs (yr n) (mo n) (dy n) + (3600 * ho n + 60 * mi n + se n : Nat) = (n : Int) := by
  unfold secs
  rw [date_day, time_sum]
  omega
/-- A number of whichever sign: below 0 it counts as 0, above the end as the end. -/
def clamp (x : Int) : Nat := (max 0 (min x 253402300799)).toNat
theorem clamp_le (x : Int) : clamp x ≤ maxT := by unfold clamp maxT; omega
theorem clamp_in {x : Nat} (h : x ≤ maxT) : clamp (x : Int) = x := by unfold clamp; unfold maxT at h; omega
end Go.Proofs.YtlhoellimldimaaDoor.D6
