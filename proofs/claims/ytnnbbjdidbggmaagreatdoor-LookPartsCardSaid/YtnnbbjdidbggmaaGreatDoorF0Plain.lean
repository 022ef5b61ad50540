/-
  Plain facts on headers, for package field: the lines of some bytes, what a text tells as a field, the fields of lines. No program in this text. Conditions: none.
-/
import Derived.Lib.Strings
import Derived.Lib.SlTrimSet
namespace Go.Proofs.YtnnbbjdidbggmaaGreatDoor.F0
open Go

/-! ### Lines -/
/-- Without one byte 13 at its end. -/
def chopL (l : List UInt8) : List UInt8 := Lib.trimSuffix l [13]
/-- The lines of l, that begins at place p, behind what the first line has already: their texts, and the places behind them. -/
def linesG : Nat → List UInt8 → List UInt8 → List (List UInt8 × Nat)
  | p, cur, [] => if cur.isEmpty then [] else [(cur, p)]
  | p, cur, c :: r => if c = 10 then (chopL cur, p + 1) :: linesG (p + 1) [] r else linesG (p + 1) (cur ++ [c]) r
def linesL (p : Nat) (l : List UInt8) : List (List UInt8 × Nat) := linesG p [] l

theorem linesG_walk : ∀ (a : List UInt8) (p : Nat) (cur r : List UInt8) (_ : ∀ c ∈ a, c ≠ 10), linesG p cur (a ++ r) = linesG (p + a.length) (cur ++ a) r
  | [], p, cur, r, _ => by simp
  | c :: a, p, cur, r, h => by
    rw [List.cons_append, linesG, if_neg (h c (by simp)), linesG_walk a (p + 1) (cur ++ [c]) r (fun x hx => h x (by simp [hx]))]
    rw [List.append_assoc, List.length_cons, Nat.add_assoc, Nat.add_comm 1]
    rfl
theorem linesL_nil (p : Nat) : linesL p [] = [] := rfl
theorem linesL_cut (a r : List UInt8) (p : Nat) (h : ∀ c ∈ a, c ≠ 10) : linesL p (a ++ 10 :: r) = (chopL a, p + a.length + 1) :: linesL (p + a.length + 1) r := by
  unfold linesL
  rw [linesG_walk a p [] (10 :: r) h, linesG, if_pos rfl, List.nil_append]
theorem linesL_last (a : List UInt8) (p : Nat) (h : ∀ c ∈ a, c ≠ 10) (h0 : a ≠ []) : linesL p a = [(a, p + a.length)] := by
  unfold linesL
  have := linesG_walk a p [] [] h
  rw [List.append_nil] at this
  rw [this, linesG, List.nil_append]
  simp [h0]
theorem chopL_le (l : List UInt8) : (chopL l).length ≤ l.length := by
  unfold chopL Lib.trimSuffix
  split
  · rw [List.length_take]; omega
  · exact Nat.le_refl _
theorem chopL_cr (l : List UInt8) : chopL (l ++ [13]) = l := by
  unfold chopL Lib.trimSuffix Lib.hasSuffix
  rw [if_pos (by rw [List.isSuffixOf_iff_suffix]; exact ⟨l, rfl⟩)]
  simp
theorem chopL_other {l : List UInt8} (h : l.getLast? ≠ some 13) : chopL l = l := by
  unfold chopL Lib.trimSuffix Lib.hasSuffix
  rw [if_neg]
  rw [List.isSuffixOf_iff_suffix]
  rintro ⟨t, rfl⟩
  exact h (by simp)
/-- Every line ends behind where it begins. -/
theorem linesG_ge : ∀ (l cur : List UInt8) (p : Nat) (x : List UInt8 × Nat), x ∈ linesG p cur l → p ≤ x.2
  | [], cur, p, x, h => by
    rw [linesG] at h
    split at h
    · simp at h
    · simp only [List.mem_singleton] at h
      rw [h]
      exact Nat.le_refl _
  | c :: r, cur, p, x, h => by
    rw [linesG] at h
    split at h
    · rcases List.mem_cons.1 h with rfl | h
      · simp
      · have := linesG_ge r _ _ x h; omega
    · have := linesG_ge r _ _ x h; omega
theorem linesG_le : ∀ (l cur : List UInt8) (p : Nat) (x : List UInt8 × Nat), x ∈ linesG p cur l → x.2 ≤ p + l.length ∧ x.1.length ≤ cur.length + l.length
  | [], cur, p, x, h => by
    rw [linesG] at h
    split at h
    · simp at h
    · simp only [List.mem_singleton] at h
      rw [h]
      simp
  | c :: r, cur, p, x, h => by
    rw [linesG] at h
    rw [List.length_cons]
    split at h
    · rcases List.mem_cons.1 h with rfl | h
      · have := chopL_le cur
        exact ⟨by simp, by simp only []; omega⟩
      · have := linesG_le r _ _ x h; simp at this; omega
    · have := linesG_le r _ _ x h; simp at this; omega
theorem linesG_count : ∀ (l cur : List UInt8) (p : Nat), (linesG p cur l).length ≤ l.length + 1
  | [], cur, p => by rw [linesG]; split <;> simp
  | c :: r, cur, p => by
    rw [linesG]
    split
    · have := linesG_count r [] (p + 1); simp; omega
    · have := linesG_count r (cur ++ [c]) (p + 1); simp; omega
/-- The lines of the same bytes further on. -/
def shift (d : Nat) (x : List UInt8 × Nat) : List UInt8 × Nat := (x.1, x.2 + d)
theorem linesG_shift (d : Nat) : ∀ (l cur : List UInt8) (p : Nat), linesG (p + d) cur l = (linesG p cur l).map (shift d)
  | [], cur, p => by
    rw [linesG, linesG]
    split <;> rfl
  | c :: r, cur, p => by
    rw [linesG, linesG, Nat.add_right_comm p d 1, linesG_shift d r [] (p + 1), linesG_shift d r (cur ++ [c]) (p + 1)]
    split <;> rfl

/-! ### A field -/
/-- What stands ahead of the first d, and behind it. -/
def cutL (d : UInt8) : List UInt8 → Option (List UInt8 × List UInt8)
  | [] => none
  | c :: r => if c = d then some ([], r) else (cutL d r).map fun x => (c :: x.1, x.2)
theorem cutL_none {d : UInt8} : ∀ {l : List UInt8} (_ : ∀ c ∈ l, c ≠ d), cutL d l = none
  | [], _ => rfl
  | c :: r, h => by rw [cutL, if_neg (h c (by simp)), cutL_none (fun x hx => h x (by simp [hx]))]; rfl
theorem cutL_some {d : UInt8} : ∀ {a : List UInt8} (r : List UInt8) (_ : ∀ c ∈ a, c ≠ d), cutL d (a ++ d :: r) = some (a, r)
  | [], r, _ => by simp [cutL]
  | c :: a, r, h => by rw [List.cons_append, cutL, if_neg (h c (by simp)), cutL_some r (fun x hx => h x (by simp [hx]))]; rfl
def inName (c : UInt8) : Bool := decide (33 ≤ c.toNat) && decide (c.toNat ≤ 126)
def nameL (l : List UInt8) : Bool := !l.isEmpty && l.all inName
def trimL (l : List UInt8) : List UInt8 := Lib.trimS l [32, 9]
def fieldL (t : List UInt8) : Option (List UInt8 × List UInt8) :=
  match cutL 58 t with
  | some (n, v) => if nameL n then some (n, trimL v) else none
  | none => none
theorem fieldL_nil : fieldL [] = none := rfl
theorem fieldL_none {l : List UInt8} (h : ∀ c ∈ l, c ≠ 58) : fieldL l = none := by unfold fieldL; rw [cutL_none h]
theorem fieldL_no {a : List UInt8} (r : List UInt8) (h : ∀ c ∈ a, c ≠ 58) (hn : nameL a = false) : fieldL (a ++ 58 :: r) = none := by unfold fieldL; rw [cutL_some r h]; simp [hn]
theorem fieldL_yes {a : List UInt8} (r : List UInt8) (h : ∀ c ∈ a, c ≠ 58) (hn : nameL a = true) : fieldL (a ++ 58 :: r) = some (a, trimL r) := by unfold fieldL; rw [cutL_some r h]; simp [hn]
def oneL (t : List UInt8) : List (List UInt8 × List UInt8) := (fieldL t).toList
theorem dropWhile_le (p : UInt8 → Bool) : ∀ l : List UInt8, (l.dropWhile p).length ≤ l.length
  | [] => Nat.le_refl _
  | c :: r => by
    rw [List.dropWhile_cons]
    split
    · exact Nat.le_trans (dropWhile_le p r) (by simp)
    · exact Nat.le_refl _
theorem trimL_le (l : List UInt8) : (trimL l).length ≤ l.length := by
  unfold trimL Lib.trimS Lib.trimLeftS Lib.trimRightS
  refine Nat.le_trans (dropWhile_le _ _) ?_
  rw [List.length_reverse]
  refine Nat.le_trans (dropWhile_le _ _) ?_
  rw [List.length_reverse]
  exact Nat.le_refl _
theorem oneL_le (t : List UInt8) : (oneL t).length ≤ 1 := by
  unfold oneL
  cases fieldL t <;> simp

/-! ### The fields of lines -/
def goesL : List UInt8 → Bool
  | [] => false
  | c :: _ => c == 32 || c == 9
/-- What a line that has a text does to the fields so far, and to the joined text. -/
def stepL (st : List (List UInt8 × List UInt8) × List UInt8) (t : List UInt8) : List (List UInt8 × List UInt8) × List UInt8 :=
  if goesL t then (st.1, st.2 ++ t) else (st.1 ++ oneL st.2, t)
def stL (ts : List (List UInt8)) : List (List UInt8 × List UInt8) × List UInt8 := ts.foldl stepL ([], [])
theorem stL_snoc (ts : List (List UInt8)) (t : List UInt8) : stL (ts ++ [t]) = stepL (stL ts) t := by simp [stL]
def endL (st : List (List UInt8 × List UInt8) × List UInt8) : List (List UInt8 × List UInt8) := st.1 ++ oneL st.2
/-- The lines up to the first that is empty; the place behind it, or the other one. -/
def uptoL (to : Nat) : List (List UInt8 × Nat) → List (List UInt8) × Nat
  | [] => ([], to)
  | (t, n) :: r => if t.isEmpty then ([], n) else (t :: (uptoL to r).1, (uptoL to r).2)
def fieldsL (to : Nat) (ls : List (List UInt8 × Nat)) : List (List UInt8 × List UInt8) × Nat := (endL (stL (uptoL to ls).1), (uptoL to ls).2)
/-- The document's Split of the bytes l from place p to place to. -/
def splitL (p to : Nat) (l : List UInt8) : List (List UInt8 × List UInt8) × Nat := fieldsL to (linesL p l)

theorem upto_all (to : Nat) : ∀ (ls : List (List UInt8 × Nat)) (_ : ∀ x ∈ ls, x.1 ≠ []), uptoL to ls = (ls.map (·.1), to)
  | [], _ => rfl
  | (t, n) :: r, h => by
    rw [uptoL, if_neg (by simpa using h (t, n) (by simp)), upto_all to r (fun x hx => h x (by simp [hx]))]
    rfl
theorem upto_stop (to : Nat) (n : Nat) (r : List (List UInt8 × Nat)) : ∀ (ls : List (List UInt8 × Nat)) (_ : ∀ x ∈ ls, x.1 ≠ []), uptoL to (ls ++ ([], n) :: r) = (ls.map (·.1), n)
  | [], _ => by simp [uptoL]
  | (t, k) :: ls, h => by
    rw [List.cons_append, uptoL, if_neg (by simpa using h (t, k) (by simp)), upto_stop to n r ls (fun x hx => h x (by simp [hx]))]
    rfl
theorem fields_all {to : Nat} {ls : List (List UInt8 × Nat)} (h : ∀ x ∈ ls, x.1 ≠ []) : fieldsL to ls = (endL (stL (ls.map (·.1))), to) := by unfold fieldsL; rw [upto_all to ls h]
theorem fields_stop {to n : Nat} {ls r : List (List UInt8 × Nat)} (h : ∀ x ∈ ls, x.1 ≠ []) : fieldsL to (ls ++ ([], n) :: r) = (endL (stL (ls.map (·.1))), n) := by unfold fieldsL; rw [upto_stop to n r ls h]
theorem step_le (st : List (List UInt8 × List UInt8) × List UInt8) (t : List UInt8) : (stepL st t).1.length ≤ st.1.length + 1 ∧ (stepL st t).2.length ≤ st.2.length + t.length := by
  unfold stepL
  have := oneL_le st.2
  split
  · rw [List.length_append]; exact ⟨by simp, Nat.le_refl _⟩
  · simp only [List.length_append]; omega
theorem st_le (M : Nat) : ∀ (ts : List (List UInt8)) (_ : ∀ t ∈ ts, t.length ≤ M) (st : List (List UInt8 × List UInt8) × List UInt8), (ts.foldl stepL st).1.length ≤ st.1.length + ts.length ∧ (ts.foldl stepL st).2.length ≤ st.2.length + ts.length * M
  | [], _, st => by simp
  | t :: ts, h, st => by
    rw [List.foldl_cons]
    have h1 := step_le st t
    have h2 := st_le M ts (fun x hx => h x (by simp [hx])) (stepL st t)
    have h3 := h t (by simp)
    rw [List.length_cons, Nat.succ_mul]
    omega
theorem stL_le (M : Nat) (ts : List (List UInt8)) (h : ∀ t ∈ ts, t.length ≤ M) : (stL ts).1.length ≤ ts.length ∧ (stL ts).2.length ≤ ts.length * M := by
  have := st_le M ts h ([], [])
  simpa [stL] using this
theorem goes_cons (c : UInt8) (r : List UInt8) : goesL (c :: r) = (c == 32 || c == 9) := rfl

/-! ### Bytes elsewhere -/
theorem upto_shift (d to : Nat) : ∀ (ls : List (List UInt8 × Nat)), uptoL (to + d) (ls.map (shift d)) = ((uptoL to ls).1, (uptoL to ls).2 + d)
  | [] => rfl
  | (t, n) :: r => by
    rw [List.map_cons, show shift d (t, n) = (t, n + d) from rfl, uptoL, uptoL, upto_shift d to r]
    split <;> rfl
theorem split_shift (d p to : Nat) (l : List UInt8) : splitL (p + d) (to + d) l = ((splitL p to l).1, (splitL p to l).2 + d) := by
  unfold splitL fieldsL linesL
  rw [linesG_shift, upto_shift]

/-! ### What stands behind the empty line -/
theorem lines_upto (u : List UInt8) : ∀ (p : Nat) (cur : List UInt8), ∃ ls : List (List UInt8 × Nat), (∀ x ∈ ls, x.2 ≤ p + u.length + 4) ∧ ∀ a : List UInt8, ∃ r, linesG p cur (u ++ 13 :: 10 :: 13 :: 10 :: a) = ls ++ ([], p + u.length + 4) :: r := by
  induction u with
  | nil =>
    intro p cur
    refine ⟨[(chopL (cur ++ [13]), p + 2)], by simp, fun a => ⟨linesG (p + 4) [] a, ?_⟩⟩
    rw [List.nil_append, linesG, if_neg (by decide), linesG, if_pos rfl, linesG, if_neg (by decide), linesG, if_pos rfl, List.nil_append]
    have h13 : chopL [13] = [] := chopL_cr []
    rw [h13]
    simp
  | cons c u ih =>
    intro p cur
    by_cases hc : c = 10
    · obtain ⟨ls, h1, h2⟩ := ih (p + 1) []
      refine ⟨(chopL cur, p + 1) :: ls, ?_, fun a => ?_⟩
      · intro x hx
        rcases List.mem_cons.1 hx with rfl | hx
        · simp only [List.length_cons]; omega
        · have := h1 x hx; rw [List.length_cons]; omega
      · obtain ⟨r, hr⟩ := h2 a
        refine ⟨r, ?_⟩
        rw [List.cons_append, linesG, if_pos hc, hr, List.length_cons, Nat.add_right_comm p 1, ← Nat.add_assoc p]
        rfl
    · obtain ⟨ls, h1, h2⟩ := ih (p + 1) (cur ++ [c])
      refine ⟨ls, fun x hx => by have := h1 x hx; rw [List.length_cons]; omega, fun a => ?_⟩
      obtain ⟨r, hr⟩ := h2 a
      refine ⟨r, ?_⟩
      rw [List.cons_append, linesG, if_neg hc, hr, List.length_cons, Nat.add_right_comm p 1, ← Nat.add_assoc p]
theorem upto_fix (to to' n : Nat) (r r' : List (List UInt8 × Nat)) : ∀ ls : List (List UInt8 × Nat), uptoL to (ls ++ ([], n) :: r) = uptoL to' (ls ++ ([], n) :: r')
  | [] => by simp [uptoL]
  | (t, k) :: ls => by rw [List.cons_append, List.cons_append, uptoL, uptoL, upto_fix to to' n r r' ls]
theorem upto_mem (to : Nat) : ∀ (ls : List (List UInt8 × Nat)), (uptoL to ls).2 = to ∧ (∀ x ∈ ls, x.1 ≠ []) ∨ ∃ x ∈ ls, x.1 = [] ∧ (uptoL to ls).2 = x.2
  | [] => Or.inl ⟨rfl, by simp⟩
  | (t, n) :: r => by
    rw [uptoL]
    by_cases ht : t.isEmpty
    · rw [if_pos ht]
      exact Or.inr ⟨(t, n), by simp, by simpa using ht, rfl⟩
    · rw [if_neg ht]
      rcases upto_mem to r with ⟨h1, h2⟩ | ⟨x, h1, h2⟩
      · refine Or.inl ⟨h1, fun x hx => ?_⟩
        rcases List.mem_cons.1 hx with rfl | hx
        · simpa using ht
        · exact h2 x hx
      · exact Or.inr ⟨x, by simp [h1], h2⟩
/-- Two empty lines behind s: the headers of s and a are those of s and b, and the body begins at one place, behind the first line's end, and not behind the second's. -/
theorem split_bodies (s a b : List UInt8) (A B : Nat) : splitL 0 A (s ++ 13 :: 10 :: 13 :: 10 :: a) = splitL 0 B (s ++ 13 :: 10 :: 13 :: 10 :: b) ∧ (splitL 0 A (s ++ 13 :: 10 :: 13 :: 10 :: a)).2 ≤ s.length + 4 ∧
    ∀ u v, s ++ 13 :: 10 :: 13 :: 10 :: a = u ++ 10 :: v → (∀ c ∈ u, c ≠ 10) → u.length < (splitL 0 A (s ++ 13 :: 10 :: 13 :: 10 :: a)).2 := by
  obtain ⟨ls, h1, h2⟩ := lines_upto s 0 []
  obtain ⟨r, hr⟩ := h2 a
  obtain ⟨r', hr'⟩ := h2 b
  have hm := upto_mem A (linesG 0 [] (s ++ 13 :: 10 :: 13 :: 10 :: a))
  have hx : ∃ x ∈ linesG 0 [] (s ++ 13 :: 10 :: 13 :: 10 :: a), (splitL 0 A (s ++ 13 :: 10 :: 13 :: 10 :: a)).2 = x.2 := by
    rcases hm with ⟨_, hno⟩ | ⟨x, hx, _, he⟩
    · exact absurd rfl (hno ([], 0 + s.length + 4) (by rw [hr]; simp))
    · exact ⟨x, hx, he⟩
  refine ⟨?_, ?_, ?_⟩
  · unfold splitL linesL fieldsL
    rw [hr, hr', upto_fix A B _ r r']
  · unfold splitL linesL fieldsL
    rw [hr, upto_fix A A _ r []]
    rcases upto_mem A (ls ++ [([], 0 + s.length + 4)]) with ⟨_, hno⟩ | ⟨x, hx, _, he⟩
    · exact absurd rfl (hno ([], 0 + s.length + 4) (by simp))
    · show (uptoL A _).2 ≤ _
      rw [he]
      rcases List.mem_append.1 hx with hx | hx
      · have := h1 x hx; omega
      · simp only [List.mem_singleton] at hx
        rw [hx]
        simp
  · intro u v he hu
    obtain ⟨x, hx, hxe⟩ := hx
    rw [hxe]
    have hl := linesL_cut u v 0 hu
    unfold linesL at hl
    rw [he, hl] at hx
    rcases List.mem_cons.1 hx with rfl | hx
    · simp
    · have := linesG_ge _ _ _ x hx; omega
end Go.Proofs.YtnnbbjdidbggmaaGreatDoor.F0
