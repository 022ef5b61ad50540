/-
  Plain facts on bytes, for package text: folding, numbers, atoms, quoted texts, whether one text stands in another. No program in this text. Conditions: none.
-/
import Derived.Lib.Strings
import Derived.Lib.ItoaNum
import Derived.Lib.IndexMore
import Derived.Lib.IndexLaws
namespace Go.Proofs.YtnnbbjdidbggmaaGreatDoor.Tx
open Go

/-! ### Folding -/
def foldB (c : UInt8) : UInt8 := if 65 ≤ c.toNat ∧ c.toNat ≤ 90 then c + 32 else c
def foldL (l : List UInt8) : List UInt8 := l.map foldB

theorem foldB_up {c : UInt8} (h1 : 65 ≤ c.toNat) (h2 : c.toNat ≤ 90) : (foldB c).toNat = c.toNat + 32 := by
  unfold foldB
  rw [if_pos ⟨h1, h2⟩, UInt8.toNat_add]
  have : (32 : UInt8).toNat = 32 := rfl
  omega
theorem foldB_low {c : UInt8} (h : ¬ (65 ≤ c.toNat ∧ c.toNat ≤ 90)) : foldB c = c := by
  unfold foldB
  rw [if_neg h]
theorem foldB_notUp (c : UInt8) : ¬ (65 ≤ (foldB c).toNat ∧ (foldB c).toNat ≤ 90) := by
  by_cases h : 65 ≤ c.toNat ∧ c.toNat ≤ 90
  · rw [foldB_up h.1 h.2]; omega
  · rw [foldB_low h]; exact h
theorem foldB_twice (c : UInt8) : foldB (foldB c) = foldB c := foldB_low (foldB_notUp c)
theorem foldL_length (l : List UInt8) : (foldL l).length = l.length := by simp [foldL]
theorem foldL_append (a b : List UInt8) : foldL (a ++ b) = foldL a ++ foldL b := by simp [foldL]
theorem foldL_twice (l : List UInt8) : foldL (foldL l) = foldL l := by
  simp only [foldL, List.map_map]
  exact List.map_congr_left fun c _ => foldB_twice c
theorem foldL_take_succ (l : List UInt8) (k : Nat) (h : k < l.length) : foldL (l.take (k + 1)) = foldL (l.take k) ++ [foldB l[k]] := by
  rw [List.take_succ_eq_append_getElem h, foldL_append]
  rfl
theorem foldL_getElem (l : List UInt8) (k : Nat) (h : k < (foldL l).length) : ¬ (65 ≤ ((foldL l)[k]).toNat ∧ ((foldL l)[k]).toNat ≤ 90) := by
  simp only [foldL, List.getElem_map]
  exact foldB_notUp _

/-! ### Numbers -/
def isDig (c : UInt8) : Bool := decide (48 ≤ c.toNat) && decide (c.toNat ≤ 57)
/-- The number that digits tell behind n. -/
def numFrom : List UInt8 → Nat → Option Nat
  | [], n => some n
  | c :: r, n => if isDig c then numFrom r (n * 10 + (c.toNat - 48)) else none
/-- What Number reads. -/
def numL (l : List UInt8) : Option Nat :=
  if l = [] ∨ 10 < l.length ∨ (l.head? = some 48 ∧ 1 < l.length) then none
  else match numFrom l 0 with
    | some n => if n ≤ 4294967295 then some n else none
    | none => none
theorem numFrom_append : ∀ (a b : List UInt8) (n : Nat), numFrom (a ++ b) n = (numFrom a n).bind (numFrom b)
  | [], _, _ => rfl
  | c :: r, b, n => by
    simp only [List.cons_append, numFrom]
    split
    · exact numFrom_append r b _
    · rfl
theorem isDig_iff (c : UInt8) : isDig c = true ↔ 48 ≤ c.toNat ∧ c.toNat ≤ 57 := by simp [isDig]
theorem isDig_ofNat {k : Nat} (h : k < 10) : isDig (UInt8.ofNat (48 + k)) = true ∧ (UInt8.ofNat (48 + k)).toNat - 48 = k := by
  have e : (UInt8.ofNat (48 + k)).toNat = 48 + k := by simp; omega
  rw [isDig_iff, e]
  omega
theorem numFrom_digits : ∀ (u : Nat), numFrom (Lib.decDigits u) 0 = some u := fun u => by
  induction u using Nat.strongRecOn with
  | _ u ih =>
    by_cases h : u < 10
    · rw [Lib.decDigits_one h]
      simp only [numFrom, (isDig_ofNat h).1, if_true, (isDig_ofNat h).2, Nat.zero_mul, Nat.zero_add]
    · rw [Lib.decDigits, dif_neg h, numFrom_append, ih (u / 10) (by omega)]
      have h' : u % 10 < 10 := Nat.mod_lt _ (by decide)
      simp only [Option.bind_some, numFrom, (isDig_ofNat h').1, if_true, (isDig_ofNat h').2]
      congr 1
      omega
theorem digits_ne (u : Nat) : Lib.decDigits u ≠ [] := by
  intro h
  have := Lib.decDigits_length u
  rw [h] at this
  have := Lib.nDigits_pos u
  simp at *
  omega
theorem digits_head : ∀ (u : Nat), 1 ≤ u → (Lib.decDigits u).head? ≠ some 48 := fun u => by
  induction u using Nat.strongRecOn with
  | _ u ih =>
    intro h1
    by_cases h : u < 10
    · rw [Lib.decDigits_one h]
      simp only [List.head?_cons, ne_eq, Option.some.injEq]
      intro e
      have := congrArg UInt8.toNat e
      simp at this
      omega
    · rw [Lib.decDigits, dif_neg h]
      have hne := digits_ne (u / 10)
      have := ih (u / 10) (by omega) (by omega)
      match hd : Lib.decDigits (u / 10), hne with
      | c :: r, _ =>
        rw [hd] at this
        simpa using this
theorem nDigits_le {k : Nat} : ∀ {u : Nat}, u < 10 ^ (k + 1) → Lib.nDigits u ≤ k + 1 := by
  induction k with
  | zero => intro u h; rw [Lib.nDigits_small (by simpa using h)]; exact Nat.le_refl _
  | succ k ih =>
    intro u h
    by_cases h' : u < 10
    · rw [Lib.nDigits_small h']; omega
    · rw [Lib.nDigits_big h']
      have := ih (u := u / 10) (by rw [Nat.pow_succ] at h; omega)
      omega
theorem num_digits {u : Nat} (h : u ≤ 4294967295) : numL (Lib.decDigits u) = some u := by
  unfold numL
  have hl := Lib.decDigits_length u
  have hn := nDigits_le (k := 9) (u := u) (by omega)
  have hne := digits_ne u
  rw [if_neg, numFrom_digits]
  · simp [h]
  · intro hc
    rcases hc with hc | hc | ⟨hc, h1⟩
    · exact hne hc
    · omega
    · by_cases h0 : u = 0
      · subst h0
        rw [Lib.decDigits_one (by decide)] at h1
        simp at h1
      · exact digits_head u (by omega) hc
theorem num_digits_great {u : Nat} (h : 4294967295 < u) : numL (Lib.decDigits u) = none := by
  unfold numL
  by_cases hc : Lib.decDigits u = [] ∨ 10 < (Lib.decDigits u).length ∨ ((Lib.decDigits u).head? = some 48 ∧ 1 < (Lib.decDigits u).length)
  · rw [if_pos hc]
  · rw [if_neg hc, numFrom_digits]
    simp only
    rw [if_neg (by omega)]
theorem num_nought {l : List UInt8} (h : l ≠ []) : numL (48 :: l) = none := by
  unfold numL
  rw [if_pos]
  refine Or.inr (Or.inr ⟨rfl, ?_⟩)
  cases l with
  | nil => exact absurd rfl h
  | cons a r => simp

/-! ### Atoms -/
def atomB (c : UInt8) : Bool := decide (33 ≤ c.toNat) && decide (c.toNat ≤ 126) && !(c.toNat == 40 || c.toNat == 41 || c.toNat == 123 || c.toNat == 125 || c.toNat == 37 || c.toNat == 42 || c.toNat == 34 || c.toNat == 92 || c.toNat == 93)
def atomL (l : List UInt8) : Bool := l.all atomB && !l.isEmpty

/-! ### Texts as IMAP tells them -/
def plainB (c : UInt8) : Bool := decide (32 ≤ c.toNat) && decide (c.toNat ≤ 126)
def plainL (l : List UInt8) : Bool := decide (l.length ≤ 200) && l.all plainB
def signB (c : UInt8) : Bool := c.toNat == 34 || c.toNat == 92
def escB (c : UInt8) : List UInt8 := if signB c then [92, c] else [c]
def escL (l : List UInt8) : List UInt8 := l.flatMap escB
def litL (l : List UInt8) : List UInt8 := 123 :: Lib.decDigits l.length ++ [125, 13, 10] ++ l
def strL (l : List UInt8) : List UInt8 := if plainL l then 34 :: escL l ++ [34] else litL l
theorem escL_append (a b : List UInt8) : escL (a ++ b) = escL a ++ escL b := by simp [escL]
theorem escL_take_succ (l : List UInt8) (k : Nat) (h : k < l.length) : escL (l.take (k + 1)) = escL (l.take k) ++ escB l[k] := by
  rw [List.take_succ_eq_append_getElem h, escL_append]
  simp [escL]
theorem escB_length (c : UInt8) : 1 ≤ (escB c).length ∧ (escB c).length ≤ 2 := by
  unfold escB
  split <;> simp
theorem escL_length (l : List UInt8) : l.length ≤ (escL l).length ∧ (escL l).length ≤ 2 * l.length := by
  induction l with
  | nil => simp [escL]
  | cons c r ih =>
    have := escB_length c
    simp only [escL, List.flatMap_cons, List.length_append, List.length_cons] at *
    omega

/-! ### Whether one text stands in another -/
def inL (s sub : List UInt8) : Bool := Lib.contains (foldL s) (foldL sub)
theorem contains_of_append (a b c : List UInt8) : Lib.contains (a ++ b ++ c) b = true := by
  unfold Lib.contains
  rw [decide_eq_true_eq]
  rcases Lib.index_spec (a ++ b ++ c) b with ⟨_, h⟩ | ⟨i, h, _⟩
  · have := h a.length (by simp)
    exfalso
    revert this
    simp [Lib.occAt]
  · omega
theorem contains_longer (s sub : List UInt8) (h : s.length < sub.length) : Lib.contains s sub = false := by
  unfold Lib.contains
  rw [decide_eq_false_iff_not]
  intro h0
  have := Lib.index_room s sub h0
  omega
end Go.Proofs.YtnnbbjdidbggmaaGreatDoor.Tx
