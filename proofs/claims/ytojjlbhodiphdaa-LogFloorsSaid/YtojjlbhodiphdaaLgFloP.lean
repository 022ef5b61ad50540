/-
  Plain facts on a log to which one entry after the other is added, each of a clock of its own. No program in this text. Conditions: none.
-/
import Derived.Test.YtojjlbhodiphdaaLgPlain
namespace Go.Proofs.Ytojjlbhodiphdaa.Lg

/-- So many entries behind a clock. -/
def rgF : Int → Nat → List En
  | _, 0 => []
  | a, n + 1 => ⟨a + 1, 2, a + 1, 1⟩ :: rgF (a + 1) n
theorem rgF_len : ∀ (n : Nat) (a : Int), (rgF a n).length = n
  | 0, _ => rfl
  | n + 1, a => by rw [rgF, List.length_cons, rgF_len n]
theorem rgF_snoc : ∀ (n : Nat) (a : Int), rgF a n ++ [⟨a + n + 1, 2, a + n + 1, 1⟩] = rgF a (n + 1)
  | 0, a => by simp [rgF]
  | n + 1, a => by
    have h := rgF_snoc n (a + 1)
    rw [rgF, List.cons_append, rgF]
    congr 1
    rw [← h]
    have e : a + ((n + 1 : Nat) : Int) + 1 = a + 1 + (n : Int) + 1 := by omega
    rw [e]
theorem rgF_mem : ∀ (n : Nat) (a : Int) (e : En), e ∈ rgF a n → a < e.mod ∧ e.mod ≤ a + n ∧ e.kind = 2 ∧ e.id = e.mod ∧ e.how = 1
  | 0, _, _, h => by simp [rgF] at h
  | n + 1, a, e, h => by
    rw [rgF] at h
    rcases List.mem_cons.1 h with rfl | h
    · refine ⟨?_, ?_, rfl, rfl, rfl⟩ <;> simp only <;> omega
    · obtain ⟨h1, h2, h3⟩ := rgF_mem n (a + 1) e h
      exact ⟨by omega, by omega, h3⟩
theorem rgF_rise : ∀ (n : Nat) (a : Int), Rise (rgF a n)
  | 0, _ => List.Pairwise.nil
  | n + 1, a => by
    rw [rgF]
    refine List.Pairwise.cons (fun e he => ?_) (rgF_rise n (a + 1))
    have := (rgF_mem n (a + 1) e he).1
    show a + 1 ≤ e.mod
    omega
/-- What is kept of n of them, where there may be m. -/
def stF (m n : Nat) : Int × List En := (((n - m : Nat) : Int), rgF ((n - m : Nat) : Int) (min n m))
theorem stF_zero (m : Nat) : stF m 0 = (0, []) := by simp [stF, rgF]
theorem stF_len (m n : Nat) : (stF m n).2.length = min n m := rgF_len _ _
theorem falls_rg (a : Int) (n : Nat) : falls (rgF a n) ⟨a + n + 1, 2, a + n + 1, 1⟩ = false := by
  unfold falls
  cases h : (rgF a n).getLast? with
  | none => rfl
  | some l =>
    have h1 := (rgF_mem n a l (List.mem_of_getLast? h)).2.1
    show decide (a + n + 1 < l.mod) = false
    rw [decide_eq_false_iff_not]
    omega
theorem stF_step (m n : Nat) : addL m (stF m n) [⟨(n : Int) + 1, 2, (n : Int) + 1, 1⟩] = stF m (n + 1) := by
  have e : (n : Int) + 1 = ((n - m : Nat) : Int) + ((min n m : Nat) : Int) + 1 := by omega
  rw [e, addL_cons, addL_nil]
  unfold stF
  rw [if_neg (by simp only; rw [falls_rg]; simp)]
  unfold putL
  simp only
  rw [rgF_snoc, rgF_len]
  by_cases h : n < m
  · have e1 : n - m = 0 := by omega
    have e2 : n + 1 - m = 0 := by omega
    have e3 : min n m = n := by omega
    have e4 : min (n + 1) m = n + 1 := by omega
    rw [e1, e2, e3, e4, if_neg (by omega)]
  · have e2 : n + 1 - m = n - m + 1 := by omega
    have e3 : min n m = m := by omega
    have e4 : min (n + 1) m = m := by omega
    rw [e2, e3, e4, if_pos (by omega)]
    rw [rgF]
    have e5 : ((n - m + 1 : Nat) : Int) = ((n - m : Nat) : Int) + 1 := by omega
    rw [e5]
    rfl
theorem sel_rg : ∀ (n : Nat) (a i : Int), a ≤ i → i ≤ a + n → selL (rgF a n) 2 i (a + n) = rgF i (a + n - i).toNat
  | 0, a, i, h1, h2 => by
    have e : (a + ((0 : Nat) : Int) - i).toNat = 0 := by omega
    rw [e]; rfl
  | n + 1, a, i, h1, h2 => by
    by_cases h : i = a
    · subst h
      have e : (i + ((n + 1 : Nat) : Int) - i).toNat = n + 1 := by omega
      rw [e]
      unfold selL
      rw [List.filter_eq_self]
      intro x hx
      obtain ⟨g1, g2, g3, _⟩ := rgF_mem (n + 1) i x hx
      simp only [Bool.and_eq_true, decide_eq_true_eq]
      exact ⟨g3, g1, g2⟩
    · have ih := sel_rg n (a + 1) i (by omega) (by omega)
      have e : a + 1 + (n : Int) = a + ((n + 1 : Nat) : Int) := by omega
      rw [e] at ih
      rw [← ih]
      unfold selL
      rw [rgF, List.filter_cons, if_neg]
      simp only [Bool.and_eq_true, decide_eq_true_eq]
      omega
theorem fates_rg (a : Int) : ∀ (n : Nat), fatesL (rgF a n) = (rgF a n).map (fun e => ⟨e.id, 1, 1⟩)
  | 0 => rfl
  | n + 1 => by
    rw [← rgF_snoc, fatesL_snoc, fates_rg a n]
    unfold addF
    have h : placeF ((rgF a n).map (fun e => (⟨e.id, 1, 1⟩ : Ft))) (a + n + 1) = none := by
      unfold placeF
      rw [List.findIdx?_eq_none_iff]
      intro x hx
      obtain ⟨y, hy, rfl⟩ := List.mem_map.1 hx
      obtain ⟨g1, g2, g3, g4, _⟩ := rgF_mem n a y hy
      rw [decide_eq_false_iff_not]
      show ¬ y.id = _
      omega
    simp only [h, List.map_append, List.map_cons, List.map_nil]
theorem made_rg (a : Int) (n : Nat) : (madeL (fatesL (rgF a n))).length = n := by
  rw [fates_rg]
  unfold madeL
  rw [List.length_map, List.filter_eq_self.2, List.length_map, rgF_len]
  intro x hx
  obtain ⟨y, hy, rfl⟩ := List.mem_map.1 hx
  rfl
theorem since_low (m n : Nat) (i : Int) (h : i < ((n - m : Nat) : Int)) : sinceL (stF m n).1 (stF m n).2 2 i n 0 = (noCh, 12) := by
  unfold sinceL
  exact if_pos (Or.inl h)
theorem since_high (m n : Nat) (i : Int) (h : (n : Int) < i) : sinceL (stF m n).1 (stF m n).2 2 i n 0 = (noCh, 12) := by
  unfold sinceL
  exact if_pos (Or.inr h)
theorem since_in (m n : Nat) (i : Int) (h1 : ((n - m : Nat) : Int) ≤ i) (h2 : i ≤ n) : (sinceL (stF m n).1 (stF m n).2 2 i n 0).2 = 0 ∧ ((sinceL (stF m n).1 (stF m n).2 2 i n 0).1.made.length : Int) = (n : Int) - i := by
  have hr : reachL (stF m n).2 2 i n 0 = n := by unfold reachL; rw [if_pos (by omega)]
  unfold sinceL
  rw [if_neg (by show ¬ (i < ((n - m : Nat) : Int) ∨ (n : Int) < i); omega)]
  simp only [hr]
  rw [if_neg (by omega)]
  refine ⟨rfl, ?_⟩
  have e : (n : Int) = ((n - m : Nat) : Int) + ((min n m : Nat) : Int) := by omega
  show ((madeL (fatesL (selL (rgF ((n - m : Nat) : Int) (min n m)) 2 i n))).length : Int) = _
  have h3 := sel_rg (min n m) ((n - m : Nat) : Int) i h1 (by omega)
  rw [← e] at h3
  rw [h3, made_rg]
  omega
end Go.Proofs.Ytojjlbhodiphdaa.Lg
