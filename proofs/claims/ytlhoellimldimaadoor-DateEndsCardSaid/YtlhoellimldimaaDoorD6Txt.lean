/-
  Plain facts on texts of seconds and days: what a second's texts are, what texts say, that what was told is read back, zones, order. No program in this text. Conditions: none.
-/
import Derived.Test.YtlhoellimldimaaDoorD6Cal
import Derived.Test.YtlhoellimldimaaDoorTxPlain
namespace Go.Proofs.YtlhoellimldimaaDoor.D6
open Go

/-! ### Digits -/
def dg (k : Nat) : UInt8 := UInt8.ofNat (48 + k)
theorem dg_nat {k : Nat} (h : k < 10) : (dg k).toNat = 48 + k := by unfold dg; simp; omega
def two (n : Nat) : List UInt8 := [dg (n / 10), dg (n % 10)]
def four (n : Nat) : List UInt8 := [dg (n / 1000), dg (n / 100 % 10), dg (n / 10 % 10), dg (n % 10)]
theorem digits_two {n : Nat} (h : 10 ≤ n) (h2 : n < 100) : Lib.decDigits n = two n := by
  rw [Lib.decDigits, dif_neg (by omega), Lib.decDigits_one (by omega)]
  rfl
theorem digits_four {n : Nat} (h : 1000 ≤ n) (h2 : n < 10000) : Lib.decDigits n = four n := by
  rw [Lib.decDigits, dif_neg (by omega), Lib.decDigits, dif_neg (by omega), Lib.decDigits, dif_neg (by omega), Lib.decDigits_one (by omega)]
  unfold four dg
  rw [show n / 10 / 10 / 10 = n / 1000 by omega, show n / 10 / 10 % 10 = n / 100 % 10 by omega]
  rfl
/-- Noughts ahead, so long. -/
def padL (n long : Nat) : List UInt8 := List.replicate (long - (Lib.decDigits n).length) 48 ++ Lib.decDigits n
theorem pad_two {n : Nat} (h : n < 100) : padL n 2 = two n := by
  unfold padL
  by_cases h1 : n < 10
  · rw [Lib.decDigits_one h1]
    unfold two dg
    rw [show n / 10 = 0 by omega, show n % 10 = n by omega]
    rfl
  · rw [digits_two (by omega) h]
    rfl
theorem pad_four {n : Nat} (h : 1000 ≤ n) (h2 : n < 10000) : padL n 4 = four n := by
  unfold padL
  rw [digits_four h h2]
  rfl
def numD (l : List UInt8) : Option Nat := Tx.numFrom l 0
theorem num_dg {k : Nat} (h : k < 10) (r : List UInt8) (n : Nat) : Tx.numFrom (dg k :: r) n = Tx.numFrom r (n * 10 + k) := by
  have := Tx.isDig_ofNat h
  unfold dg
  rw [Tx.numFrom, if_pos this.1, this.2]
theorem num_two {n : Nat} (h : n < 100) : numD (two n) = some n := by
  unfold numD two
  rw [num_dg (by omega), num_dg (by omega), Tx.numFrom]
  congr 1
  omega
theorem num_four {n : Nat} (h : n < 10000) : numD (four n) = some n := by
  unfold numD four
  rw [num_dg (by omega), num_dg (by omega), num_dg (by omega), num_dg (by omega), Tx.numFrom]
  congr 1
  omega
theorem num_one {n : Nat} (h : n < 10) : numD [dg n] = some n := by
  unfold numD
  rw [num_dg h, Tx.numFrom]
  congr 1
  omega
theorem numFrom_lt : ∀ (l : List UInt8) (n k : Nat), Tx.numFrom l n = some k → k < (n + 1) * 10 ^ l.length
  | [], n, k, h => by
    simp only [Tx.numFrom, Option.some.injEq] at h
    simp
    omega
  | c :: r, n, k, h => by
    unfold Tx.numFrom at h
    split at h
    · rename_i hc
      have hd := (Tx.isDig_iff c).1 hc
      have := numFrom_lt r _ k h
      have hm : (n * 10 + (c.toNat - 48) + 1) * 10 ^ r.length ≤ ((n + 1) * 10) * 10 ^ r.length := Nat.mul_le_mul_right _ (by omega)
      rw [List.length_cons, Nat.pow_succ, Nat.mul_comm (10 ^ r.length) 10, ← Nat.mul_assoc]
      omega
    · cases h
theorem num_lt {l : List UInt8} {k : Nat} (h : numD l = some k) : k < 10 ^ l.length := by
  have := numFrom_lt l 0 k h
  omega

/-! ### Months -/
def mons : List UInt8 := [74, 97, 110, 70, 101, 98, 77, 97, 114, 65, 112, 114, 77, 97, 121, 74, 117, 110, 74, 117, 108, 65, 117, 103, 83, 101, 112, 79, 99, 116, 78, 111, 118, 68, 101, 99]
def mon3 (m : Nat) : List UInt8 := [mons.getD (3 * m - 3) 0, mons.getD (3 * m - 2) 0, mons.getD (3 * m - 1) 0]
def whichF : Nat → Nat → List UInt8 → Nat
  | 0, _, _ => 0
  | f + 1, m, l => if Tx.foldL l = Tx.foldL (mon3 m) then m else whichF f (m + 1) l
/-- A month by its letters, of any size; 0: none. -/
def whichN (l : List UInt8) : Nat := whichF 12 1 l
theorem which_mon : ∀ m, m < 13 → 1 ≤ m → whichN (mon3 m) = m := by decide +kernel
theorem whichF_le : ∀ (f m : Nat) (l : List UInt8), whichF f m l < m + f ∨ whichF f m l = 0
  | 0, _, _ => Or.inr rfl
  | f + 1, m, l => by
    unfold whichF
    split
    · exact Or.inl (by omega)
    · rcases whichF_le f (m + 1) l with h | h
      · exact Or.inl (by omega)
      · exact Or.inr h
theorem which_le (l : List UInt8) : whichN l ≤ 12 := by
  rcases whichF_le 12 1 l with h | h
  · unfold whichN; omega
  · unfold whichN; omega

/-! ### A second's texts -/
/-- A day, with a blank in the place of a nought. -/
def day1 (d : Nat) : UInt8 := if d < 10 then 32 else dg (d / 10)
def imapZ (y m d h i s : Nat) (sg : UInt8) (zh zm : Nat) : List UInt8 :=
  day1 d :: dg (d % 10) :: 45 :: (mon3 m ++ 45 :: (four y ++ 32 :: (two h ++ 58 :: (two i ++ 58 :: (two s ++ 32 :: sg :: (two zh ++ two zm))))))
def imapD (y m d h i s : Nat) : List UInt8 := imapZ y m d h i s 43 0 0
def imapL (n : Nat) : List UInt8 := imapD (yr n) (mo n) (dy n) (ho n) (mi n) (se n)
def rfcD (y m d h i s : Nat) : List UInt8 := four y ++ 45 :: (two m ++ 45 :: (two d ++ 84 :: (two h ++ 58 :: (two i ++ 58 :: (two s ++ [90])))))
def rfcL (n : Nat) : List UInt8 := rfcD (yr n) (mo n) (dy n) (ho n) (mi n) (se n)
theorem imap_len (n : Nat) : (imapL n).length = 26 := rfl
theorem rfc_len (n : Nat) : (rfcL n).length = 20 := rfl

/-! ### What texts say -/
def sub (l : List UInt8) (i n : Nat) : List UInt8 := (l.drop i).take n
instance (y m d : Nat) : Decidable (ValidD y m d) := by unfold ValidD; exact inferInstance
/-- The first second of a date; none where there is no such date. -/
def secsO (y : Option Nat) (m : Nat) (d : Option Nat) : Option Int := match y, d with
  | some y, some d => if ValidD y m d then some (secs y m d) else none
  | _, _ => none
def timeO (h i s : Option Nat) : Option Nat := match h, i, s with
  | some h, some i, some s => if h ≤ 23 ∧ i ≤ 59 ∧ s ≤ 59 then some (3600 * h + 60 * i + s) else none
  | _, _, _ => none
def zoneO (h i : Option Nat) : Option Nat := match h, i with
  | some h, some i => if h ≤ 23 ∧ i ≤ 59 then some (3600 * h + 60 * i) else none
  | _, _ => none
/-- A day's two signs without a blank ahead. -/
def dayT (l : List UInt8) : List UInt8 := if l.getD 0 0 = 32 then (l.take 2).drop 1 else l.take 2
def FormI (l : List UInt8) : Prop := l.length = 26 ∧ l.getD 2 0 = 45 ∧ l.getD 6 0 = 45 ∧ l.getD 11 0 = 32 ∧ l.getD 14 0 = 58 ∧ l.getD 17 0 = 58 ∧ l.getD 20 0 = 32 ∧ (l.getD 21 0 = 43 ∨ l.getD 21 0 = 45)
instance (l : List UInt8) : Decidable (FormI l) := by unfold FormI; exact inferInstance
def inT (t : Int) : Option Nat := if 0 ≤ t ∧ t ≤ 253402300799 then some t.toNat else none
/-- The second of a date, a time and a zone. -/
def sumO (a : Option Int) (b c : Option Nat) (neg : Bool) : Option Nat := match a, b, c with
  | some a, some b, some c => inT (a + b - (if neg then -(c : Int) else c))
  | _, _, _ => none
def rimapL (l : List UInt8) : Option Nat :=
  if FormI l then sumO (secsO (numD (sub l 7 4)) (whichN (sub l 3 3)) (numD (dayT l))) (timeO (numD (sub l 12 2)) (numD (sub l 15 2)) (numD (sub l 18 2))) (zoneO (numD (sub l 22 2)) (numD (sub l 24 2))) (decide (l.getD 21 0 = 45))
  else none
/-- The second that a text in the other form would tell. -/
def candL (l : List UInt8) : Option Nat := match secsO (numD (sub l 0 4)) ((numD (sub l 5 2)).getD 0) (numD (sub l 8 2)), timeO (numD (sub l 11 2)) (numD (sub l 14 2)) (numD (sub l 17 2)) with
  | some a, some b => inT (a + b)
  | _, _ => none
def rrfcL (l : List UInt8) : Option Nat := match candL l with
  | some n => if rfcL n = l then some n else none
  | none => none
/-- A day's text with two signs for the day. -/
def dayP (l : List UInt8) : List UInt8 := if l.length = 10 then 48 :: l else l
def posO : Option Int → Option Nat
  | some t => if 0 ≤ t then some t.toNat else none
  | none => none
def rdayL (l : List UInt8) : Option Nat :=
  if (dayP l).length = 11 ∧ (dayP l).getD 2 0 = 45 ∧ (dayP l).getD 6 0 = 45 then posO (secsO (numD ((dayP l).drop 7)) (whichN (sub (dayP l) 3 3)) (numD (sub (dayP l) 0 2))) else none

/-! ### What was told is read back -/
theorem secsO_some {y m d : Nat} (h : ValidD y m d) : secsO (some y) m (some d) = some (secs y m d) := by unfold secsO; simp only; rw [if_pos h]
theorem timeO_some {h i s : Nat} (h1 : h ≤ 23) (h2 : i ≤ 59) (h3 : s ≤ 59) : timeO (some h) (some i) (some s) = some (3600 * h + 60 * i + s) := by unfold timeO; simp only; rw [if_pos ⟨h1, h2, h3⟩]
theorem zoneO_some {h i : Nat} (h1 : h ≤ 23) (h2 : i ≤ 59) : zoneO (some h) (some i) = some (3600 * h + 60 * i) := by unfold zoneO; simp only; rw [if_pos ⟨h1, h2⟩]
theorem inT_some {t : Int} {n : Nat} (h : t = (n : Int)) (hn : n ≤ maxT) : inT t = some n := by
  unfold maxT at hn
  unfold inT
  rw [if_pos (by omega), h]
  rfl
theorem inT_iff {t : Int} {n : Nat} : inT t = some n ↔ t = (n : Int) ∧ n ≤ maxT := by
  constructor
  · intro h
    unfold inT at h
    split at h
    · have := Option.some.inj h
      unfold maxT
      omega
    · cases h
  · rintro ⟨h1, h2⟩
    exact inT_some h1 h2
theorem num_day {d : Nat} (h : d < 100) (l : List UInt8) : numD (dayT (day1 d :: dg (d % 10) :: l)) = some d := by
  unfold dayT day1
  by_cases h1 : d < 10
  · rw [if_pos h1]
    simp only [List.getD_cons_zero, if_true, List.take_succ_cons, List.take_zero, List.drop_succ_cons, List.drop_zero]
    rw [num_one (by omega), show d % 10 = d by omega]
  · rw [if_neg h1]
    have hne : dg (d / 10) ≠ 32 := by
      intro e
      have := congrArg UInt8.toNat e
      rw [dg_nat (by omega)] at this
      simp at this
      omega
    simp only [List.getD_cons_zero, if_neg hne, List.take_succ_cons, List.take_zero]
    exact num_two h
theorem rimapZ {y m d h i s zh zm : Nat} {sg : UInt8} (hy : y < 10000) (hv : ValidD y m d) (h1 : h ≤ 23) (h2 : i ≤ 59) (h3 : s ≤ 59) (hs : sg = 43 ∨ sg = 45) (h4 : zh ≤ 23) (h5 : zm ≤ 59) :
    rimapL (imapZ y m d h i s sg zh zm) = inT (secs y m d + (3600 * h + 60 * i + s : Nat) - (if sg = 45 then -((3600 * zh + 60 * zm : Nat) : Int) else (3600 * zh + 60 * zm : Nat))) := by
  obtain ⟨hm1, hm2, hd1, hd2⟩ := hv
  have hd := dim_le y m
  have hF : FormI (imapZ y m d h i s sg zh zm) := ⟨rfl, rfl, rfl, rfl, rfl, rfl, rfl, hs⟩
  unfold rimapL
  rw [if_pos hF, show sub (imapZ y m d h i s sg zh zm) 7 4 = four y from rfl, show sub (imapZ y m d h i s sg zh zm) 3 3 = mon3 m from rfl,
    show sub (imapZ y m d h i s sg zh zm) 12 2 = two h from rfl, show sub (imapZ y m d h i s sg zh zm) 15 2 = two i from rfl, show sub (imapZ y m d h i s sg zh zm) 18 2 = two s from rfl,
    show sub (imapZ y m d h i s sg zh zm) 22 2 = two zh from rfl, show sub (imapZ y m d h i s sg zh zm) 24 2 = two zm from rfl, show (imapZ y m d h i s sg zh zm).getD 21 0 = sg from rfl,
    num_four hy, which_mon m (by omega) hm1, num_two (by omega), num_two (by omega), num_two (by omega), num_two (by omega), num_two (by omega)]
  unfold imapZ
  rw [num_day (by omega), secsO_some ⟨hm1, hm2, hd1, hd2⟩, timeO_some h1 h2 h3, zoneO_some h4 h5]
  unfold sumO
  simp only [decide_eq_true_eq]
theorem rimap_back {n : Nat} (h : n ≤ maxT) : rimapL (imapL n) = some n := by
  have ht := time_lt n
  unfold imapL imapD
  rw [rimapZ (by have := (yr_in h).2; omega) (date_valid n) ht.1 ht.2.1 ht.2.2 (Or.inl rfl) (by omega) (by omega), if_neg (by decide)]
  refine inT_some ?_ h
  have := secs_date n
  omega
/-- The same second, told in another zone. -/
theorem rimap_zone {n k : Nat} (hn : n ≤ maxT) (hk : k ≤ maxT) {zh zm : Nat} (h4 : zh ≤ 23) (h5 : zm ≤ 59) {sg : UInt8} (hs : (sg = 43 ∧ n = k + (3600 * zh + 60 * zm)) ∨ (sg = 45 ∧ k = n + (3600 * zh + 60 * zm))) :
    rimapL ((imapL n).take 21 ++ (sg :: (two zh ++ two zm))) = some k := by
  have ht := time_lt n
  have e : (imapL n).take 21 ++ (sg :: (two zh ++ two zm)) = imapZ (yr n) (mo n) (dy n) (ho n) (mi n) (se n) sg zh zm := rfl
  rw [e, rimapZ (by have := (yr_in hn).2; omega) (date_valid n) ht.1 ht.2.1 ht.2.2 (by rcases hs with h | h; exact Or.inl h.1; exact Or.inr h.1) h4 h5]
  refine inT_some ?_ hk
  have := secs_date n
  rcases hs with ⟨rfl, h⟩ | ⟨rfl, h⟩
  · rw [if_neg (by decide)]; omega
  · rw [if_pos rfl]; omega
theorem cand_rfc {n : Nat} (h : n ≤ maxT) : candL (rfcL n) = some n := by
  have ht := time_lt n
  have hv := date_valid n
  obtain ⟨hm1, hm2, hd1, hd2⟩ := hv
  have hd := dim_le (yr n) (mo n)
  unfold candL
  rw [show sub (rfcL n) 0 4 = four (yr n) from rfl, show sub (rfcL n) 5 2 = two (mo n) from rfl, show sub (rfcL n) 8 2 = two (dy n) from rfl,
    show sub (rfcL n) 11 2 = two (ho n) from rfl, show sub (rfcL n) 14 2 = two (mi n) from rfl, show sub (rfcL n) 17 2 = two (se n) from rfl,
    num_four (by have := (yr_in h).2; omega), num_two (by omega), num_two (by omega), num_two (by omega), num_two (by omega), num_two (by omega)]
  rw [Option.getD_some, secsO_some ⟨hm1, hm2, hd1, hd2⟩, timeO_some ht.1 ht.2.1 ht.2.2]
  refine inT_some ?_ h
  have := secs_date n
  omega
theorem cand_le {l : List UInt8} {n : Nat} (h : candL l = some n) : n ≤ maxT := by
  unfold candL at h
  split at h
  · exact (inT_iff.1 h).2
  · cases h
theorem rrfc_iff {l : List UInt8} {n : Nat} : rrfcL l = some n ↔ n ≤ maxT ∧ rfcL n = l := by
  constructor
  · intro h
    unfold rrfcL at h
    split at h
    · rename_i k hk
      split at h
      · rename_i e
        rw [Option.some.inj h] at hk e
        exact ⟨cand_le hk, e⟩
      · cases h
    · cases h
  · rintro ⟨h1, rfl⟩
    unfold rrfcL
    rw [cand_rfc h1]
    simp
theorem rfc_inj {a b : Nat} (ha : a ≤ maxT) (hb : b ≤ maxT) (h : rfcL a = rfcL b) : a = b := by
  have := cand_rfc ha
  rw [h, cand_rfc hb] at this
  exact (Option.some.inj this).symm
theorem rrfc_back {n : Nat} (h : n ≤ maxT) : rrfcL (rfcL n) = some n := rrfc_iff.2 ⟨h, rfl⟩
/-- A day's text: of a day of one digit without the blank. -/
def dayL (y m d : Nat) : List UInt8 := (if d < 10 then [dg (d % 10)] else two d) ++ 45 :: (mon3 m ++ 45 :: four y)
theorem rday_of {y m d : Nat} (hy : y < 10000) (hd : d < 100) (hm1 : 1 ≤ m) (hm2 : m ≤ 12) :
    rdayL (dayL y m d) = posO (secsO (some y) m (some d)) := by
  have e : dayP (dayL y m d) = two d ++ 45 :: (mon3 m ++ 45 :: four y) := by
    unfold dayP dayL
    by_cases h : d < 10
    · rw [if_pos h]
      rw [if_pos (by rfl)]
      unfold two
      rw [show d / 10 = 0 by omega]
      rfl
    · rw [if_neg h, if_neg (by unfold two mon3 four; simp)]
  unfold rdayL
  rw [e, if_pos ⟨rfl, rfl, rfl⟩, show (two d ++ 45 :: (mon3 m ++ 45 :: four y)).drop 7 = four y from rfl, show sub (two d ++ 45 :: (mon3 m ++ 45 :: four y)) 3 3 = mon3 m from rfl,
    show sub (two d ++ 45 :: (mon3 m ++ 45 :: four y)) 0 2 = two d from rfl, num_four hy, num_two hd, which_mon m (by omega) hm1]
theorem secs_pos {y m d : Nat} (h : ValidD y m d) (hy : 1970 ≤ y) : 0 ≤ secs y m d := by
  have := (day_year h).1
  have := ahead_mono hy
  rw [epoch] at this
  unfold secs
  omega
theorem rday_valid {y m d : Nat} (hy : y < 10000) (hy1 : 1970 ≤ y) (h : ValidD y m d) : rdayL (dayL y m d) = some (secs y m d).toNat := by
  have hd := dim_le y m
  rw [rday_of hy (by have := h.2.2.2; omega) h.1 h.2.1, secsO_some h, posO, if_pos (secs_pos h hy1)]
theorem rday_none {y m d : Nat} (hy : y < 10000) (hd : d < 100) (hm1 : 1 ≤ m) (hm2 : m ≤ 12) (h : ¬ ValidD y m d) : rdayL (dayL y m d) = none := by
  rw [rday_of hy hd hm1 hm2]
  unfold secsO
  simp only
  rw [if_neg h, posO]
theorem rday_back {n : Nat} (h : n ≤ maxT) : rdayL (dayL (yr n) (mo n) (dy n)) = some (n / 86400 * 86400) := by
  rw [rday_valid (by have := (yr_in h).2; omega) (yr_in h).1 (date_valid n)]
  congr 1
  have := secs_date n
  have := time_sum n
  omega

/-! ### Order -/
theorem dg_lt {a b : Nat} (ha : a < 10) (hb : b < 10) : dg a < dg b ↔ a < b := by
  rw [UInt8.lt_iff_toNat_lt, dg_nat ha, dg_nat hb]
  omega
theorem dg_eq {a b : Nat} (ha : a < 10) (hb : b < 10) : dg a = dg b ↔ a = b := by
  constructor
  · intro h
    have := congrArg UInt8.toNat h
    rw [dg_nat ha, dg_nat hb] at this
    omega
  · rintro rfl; rfl
theorem two_lt {a b : Nat} (ha : a < 100) (hb : b < 100) (u v : List UInt8) : two a ++ u < two b ++ v ↔ a < b ∨ (a = b ∧ u < v) := by
  unfold two
  simp only [List.cons_append, List.nil_append, List.cons_lt_cons_iff]
  rw [dg_lt (by omega) (by omega), dg_lt (by omega) (by omega), dg_eq (by omega) (by omega), dg_eq (by omega) (by omega)]
  by_cases h : u < v
  · simp only [h, and_true]; omega
  · simp only [h, and_false, or_false]; omega
theorem four_lt {a b : Nat} (ha : a < 10000) (hb : b < 10000) (u v : List UInt8) : four a ++ u < four b ++ v ↔ a < b ∨ (a = b ∧ u < v) := by
  unfold four
  simp only [List.cons_append, List.nil_append, List.cons_lt_cons_iff]
  rw [dg_lt (by omega) (by omega), dg_lt (by omega) (by omega), dg_lt (by omega) (by omega), dg_lt (by omega) (by omega), dg_eq (by omega) (by omega), dg_eq (by omega) (by omega), dg_eq (by omega) (by omega), dg_eq (by omega) (by omega)]
  by_cases h : u < v
  · simp only [h, and_true]; omega
  · simp only [h, and_false, or_false]; omega
theorem same_lt (c : UInt8) (u v : List UInt8) : c :: u < c :: v ↔ u < v := by
  rw [List.cons_lt_cons_iff]
  constructor
  · rintro (h | ⟨_, h⟩)
    · exact absurd h (by rw [UInt8.lt_iff_toNat_lt]; omega)
    · exact h
  · exact fun h => Or.inr ⟨rfl, h⟩
theorem rfc_lt {a b : Nat} (ha : a ≤ maxT) (hb : b ≤ maxT) : rfcL a < rfcL b ↔ a < b := by
  have ya := (yr_in ha).2
  have yb := (yr_in hb).2
  have va := date_valid a
  have vb := date_valid b
  have ta := time_lt a
  have tb := time_lt b
  have sa := time_sum a
  have sb := time_sum b
  have hd := day_lt va vb
  have he : yr a = yr b ∧ mo a = mo b ∧ dy a = dy b ↔ a / 86400 = b / 86400 := by
    have da := date_day a
    have db := date_day b
    constructor
    · rintro ⟨h1, h2, h3⟩
      rw [h1, h2, h3, db] at da
      omega
    · intro h
      exact day_inj va vb (by rw [da, db, h])
  rw [date_day, date_day] at hd
  have la := dim_le (yr a) (mo a)
  have lb := dim_le (yr b) (mo b)
  have m1 : mo a < 100 := by have := va.2.1; omega
  have m2 : mo b < 100 := by have := vb.2.1; omega
  have d1 : dy a < 100 := by have := va.2.2.2; omega
  have d2 : dy b < 100 := by have := vb.2.2.2; omega
  unfold rfcL rfcD
  rw [four_lt (by omega) (by omega), same_lt, two_lt m1 m2, same_lt, two_lt d1 d2, same_lt, two_lt (by omega) (by omega), same_lt, two_lt (by omega) (by omega), same_lt, two_lt (by omega) (by omega)]
  have hn : ¬ ([90] : List UInt8) < [90] := by decide
  simp only [hn, and_false, or_false]
  clear va vb la lb m1 m2 d1 d2 ha hb ya yb hn
  generalize yr a = A1 at *
  generalize yr b = B1 at *
  generalize mo a = A2 at *
  generalize mo b = B2 at *
  generalize dy a = A3 at *
  generalize dy b = B3 at *
  have h1 : a < b ↔ a / 86400 < b / 86400 ∨ (a / 86400 = b / 86400 ∧ (ho a < ho b ∨ (ho a = ho b ∧ (mi a < mi b ∨ (mi a = mi b ∧ se a < se b))))) := by omega
  rw [h1]
  have hd' : a / 86400 < b / 86400 ↔ A1 < B1 ∨ (A1 = B1 ∧ (A2 < B2 ∨ (A2 = B2 ∧ A3 < B3))) := by rw [← hd]; omega
  rw [hd', ← he]
  clear hd hd' he h1 sa sb ta tb
  generalize (ho a < ho b ∨ (ho a = ho b ∧ (mi a < mi b ∨ (mi a = mi b ∧ se a < se b)))) = P
  by_cases hP : P
  · simp only [hP, and_true]; omega
  · simp only [hP, and_false, or_false]
end Go.Proofs.YtlhoellimldimaaDoor.D6
