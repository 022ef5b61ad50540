/-
  Plain facts on two logs, one with entries of three kinds, one with those of one of them. No program in this text. Conditions: none.
-/
import Derived.Test.YtojjlbhodiphdaaLgPlain
namespace Go.Proofs.Ytojjlbhodiphdaa.Lg

/-- Where clocks do not fall, and there is room, all entries are taken. -/
theorem addL_all (most : Int) (f : Int) : ∀ (es k : List En), Rise (k ++ es) → ((k ++ es).length : Int) ≤ most → addL most (f, k) es = (f, k ++ es)
  | [], k, _, _ => by rw [addL_nil, List.append_nil]
  | x :: r, k, hr, hl => by
    have hf : falls k x = false := by
      unfold falls
      cases h : k.getLast? with
      | none => rfl
      | some l =>
        have h1 : l.mod ≤ x.mod := (List.pairwise_append.1 hr).2.2 l (List.mem_of_getLast? h) x (by simp)
        show decide (x.mod < l.mod) = false
        rw [decide_eq_false_iff_not]
        omega
    rw [addL_cons]
    rw [if_neg (by show ¬ falls k x = true; rw [hf]; simp)]
    have hp : putL most (f, k) x = (f, k ++ [x]) := by
      unfold putL
      rw [if_neg]
      have : (k ++ x :: r).length = k.length + (r.length + 1) := by simp
      have : (k ++ [x]).length = k.length + 1 := by simp
      show ¬ most < ((k ++ [x]).length : Int)
      omega
    rw [hp, addL_all most f r (k ++ [x]) (by simpa using hr) (by simpa using hl)]
    simp

abbrev Stp := Int × Int
def idS (s : Stp) : Int := 1 + s.1 % 9
def howS (s : Stp) : Int := 1 + s.2 % 3
/-- What one step brings: to the one log, to the other. -/
def esX (c : Int) (s : Stp) : List En := [⟨c, 1, idS s, howS s⟩, ⟨c, 2, idS s, howS s⟩, ⟨c, 3, idS s + 1, howS s⟩]
def esY (c : Int) (s : Stp) : List En := [⟨c, 2, idS s, howS s⟩]
def kG (g : Int → Stp → List En) : Int → List Stp → List En
  | _, [] => []
  | c, s :: r => g (c + 1) s ++ kG g (c + 1) r
theorem kG_snoc (g : Int → Stp → List En) : ∀ (l : List Stp) (c : Int) (s : Stp), kG g c (l ++ [s]) = kG g c l ++ g (c + l.length + 1) s
  | [], c, s => by simp [kG]
  | x :: l, c, s => by
    rw [List.cons_append, kG, kG_snoc g l (c + 1) s, kG, List.append_assoc]
    have e : c + 1 + (l.length : Int) + 1 = c + ((x :: l).length : Int) + 1 := by rw [List.length_cons]; omega
    rw [e]
theorem kX_len : ∀ (l : List Stp) (c : Int), (kG esX c l).length = 3 * l.length
  | [], _ => rfl
  | s :: l, c => by rw [kG, List.length_append, kX_len l, List.length_cons]; show 3 + _ = _; omega
theorem kY_len : ∀ (l : List Stp) (c : Int), (kG esY c l).length = l.length
  | [], _ => rfl
  | s :: l, c => by rw [kG, List.length_append, kY_len l, List.length_cons]; show 1 + _ = _; omega
/-- All of a step have one clock, and numbers in bounds. -/
def Good (g : Int → Stp → List En) : Prop := ∀ c s, ∀ e ∈ g c s, e.mod = c ∧ 1 ≤ e.id ∧ e.id ≤ 10
theorem good_X : Good esX := fun c s e he => by
  simp only [esX, List.mem_cons, List.not_mem_nil, or_false] at he
  rcases he with rfl | rfl | rfl <;> refine ⟨rfl, ?_, ?_⟩ <;> simp only [idS] <;> omega
theorem good_Y : Good esY := fun c s e he => by
  simp only [esY, List.mem_cons, List.not_mem_nil, or_false] at he
  subst he
  refine ⟨rfl, ?_, ?_⟩ <;> simp only [idS] <;> omega
theorem kG_mem {g : Int → Stp → List En} (hg : Good g) : ∀ (l : List Stp) (c : Int) (e : En), e ∈ kG g c l → c < e.mod ∧ e.mod ≤ c + l.length ∧ 1 ≤ e.id ∧ e.id ≤ 10
  | [], _, _, h => by simp [kG] at h
  | s :: l, c, e, h => by
    rw [kG] at h
    rw [List.length_cons]
    rcases List.mem_append.1 h with h | h
    · obtain ⟨h1, h2, h3⟩ := hg _ _ e h
      omega
    · obtain ⟨h1, h2, h3, h4⟩ := kG_mem hg l (c + 1) e h
      omega
theorem rise_one {c : Int} : ∀ (l : List En), (∀ e ∈ l, e.mod = c) → Rise l
  | [], _ => List.Pairwise.nil
  | x :: l, h => List.Pairwise.cons (fun e he => by rw [h x (by simp), h e (by simp [he])]; exact Int.le_refl _) (rise_one l (fun e he => h e (by simp [he])))
theorem kG_rise {g : Int → Stp → List En} (hg : Good g) : ∀ (l : List Stp) (c : Int), Rise (kG g c l)
  | [], _ => List.Pairwise.nil
  | s :: l, c => by
    rw [kG]
    unfold Rise
    rw [List.pairwise_append]
    refine ⟨rise_one _ (fun e he => (hg _ _ e he).1), kG_rise hg l (c + 1), fun a ha b hb => ?_⟩
    have h1 := (hg _ _ a ha).1
    have h2 := (kG_mem hg l (c + 1) b hb).1
    omega
theorem sel_app (a b : List En) (kind x y : Int) : selL (a ++ b) kind x y = selL a kind x y ++ selL b kind x y := by unfold selL; rw [List.filter_append]
theorem sel_XY : ∀ (l : List Stp) (c a b : Int), selL (kG esX c l) 2 a b = selL (kG esY c l) 2 a b
  | [], _, _, _ => rfl
  | s :: l, c, a, b => by
    rw [kG, kG, sel_app, sel_app, sel_XY l (c + 1) a b]
    congr 1
theorem since_all (k : List En) (a clock : Int) (h0 : 0 ≤ a) (h1 : a ≤ clock) : sinceL 0 k 2 a clock 0 = (chOf (fatesL (selL k 2 a clock)) clock false, 0) := by
  have hr : reachL k 2 a clock 0 = clock := by unfold reachL; rw [if_pos (by omega)]
  unfold sinceL
  rw [if_neg (by omega)]
  simp only [hr]
  rw [if_neg (by omega), decide_eq_false (by omega)]
/-- One step more. -/
theorem step_X (l : List Stp) (s : Stp) (h : l.length < 80) : addL 1000 (0, kG esX 1 l) (esX ((l.length : Int) + 2) s) = (0, kG esX 1 (l ++ [s])) := by
  have e : (1 : Int) + (l.length : Int) + 1 = (l.length : Int) + 2 := by omega
  rw [kG_snoc, e]
  refine addL_all _ _ _ _ ?_ ?_
  · rw [← e, ← kG_snoc]; exact kG_rise good_X _ _
  · rw [← e, ← kG_snoc, kX_len, List.length_append, List.length_singleton]; omega
theorem step_Y (l : List Stp) (s : Stp) (h : l.length < 80) : addL 1000 (0, kG esY 1 l) (esY ((l.length : Int) + 2) s) = (0, kG esY 1 (l ++ [s])) := by
  have e : (1 : Int) + (l.length : Int) + 1 = (l.length : Int) + 2 := by omega
  rw [kG_snoc, e]
  refine addL_all _ _ _ _ ?_ ?_
  · rw [← e, ← kG_snoc]; exact kG_rise good_Y _ _
  · rw [← e, ← kG_snoc, kY_len, List.length_append, List.length_singleton]; omega
/-- The last entry, of a clock that is not asked for. -/
def kZ (l : List Stp) : List En := kG esX 1 l ++ [⟨(l.length : Int) + 2, 2, 1, 2⟩]
theorem rise_Z (l : List Stp) : Rise (kZ l) := by
  unfold Rise kZ
  rw [List.pairwise_append]
  refine ⟨kG_rise good_X l 1, List.pairwise_singleton _ _, fun a ha b hb => ?_⟩
  rw [List.mem_singleton] at hb
  subst hb
  have := (kG_mem good_X l 1 a ha).2.1
  show a.mod ≤ (l.length : Int) + 2
  omega
theorem step_Z (l : List Stp) (h : l.length ≤ 80) : addL 1000 (0, kG esX 1 l) [⟨(l.length : Int) + 2, 2, 1, 2⟩] = (0, kZ l) := by
  refine addL_all _ _ _ _ (rise_Z l) ?_
  rw [List.length_append, kX_len, List.length_singleton]; omega
theorem sel_Z (l : List Stp) (a : Int) : selL (kZ l) 2 a ((l.length : Int) + 1) = selL (kG esX 1 l) 2 a ((l.length : Int) + 1) := by
  unfold kZ
  rw [sel_app]
  have : selL [(⟨(l.length : Int) + 2, 2, 1, 2⟩ : En)] 2 a ((l.length : Int) + 1) = [] := by
    unfold selL
    rw [List.filter_cons, if_neg]
    · rfl
    · simp only [Bool.and_eq_true, decide_eq_true_eq]
      omega
  rw [this, List.append_nil]
/-- What all three tell. -/
def chK (l : List Stp) (a : Int) : Ch := chOf (fatesL (selL (kG esY 1 l) 2 a ((l.length : Int) + 1))) ((l.length : Int) + 1) false
theorem since_Y (l : List Stp) (a : Int) (h0 : 0 ≤ a) (h1 : a ≤ (l.length : Int) + 1) : sinceL 0 (kG esY 1 l) 2 a ((l.length : Int) + 1) 0 = (chK l a, 0) := since_all _ _ _ h0 h1
theorem since_X (l : List Stp) (a : Int) (h0 : 0 ≤ a) (h1 : a ≤ (l.length : Int) + 1) : sinceL 0 (kG esX 1 l) 2 a ((l.length : Int) + 1) 0 = (chK l a, 0) := by
  rw [since_all _ _ _ h0 h1, sel_XY]; rfl
theorem since_Z (l : List Stp) (a : Int) (h0 : 0 ≤ a) (h1 : a ≤ (l.length : Int) + 1) : sinceL 0 (kZ l) 2 a ((l.length : Int) + 1) 0 = (chK l a, 0) := by
  rw [since_all _ _ _ h0 h1, sel_Z, sel_XY]; rfl
theorem chK_len (l : List Stp) (a : Int) : (chK l a).made.length ≤ l.length ∧ (chK l a).turned.length ≤ l.length ∧ (chK l a).gone.length ≤ l.length := by
  have h : (fatesL (selL (kG esY 1 l) 2 a ((l.length : Int) + 1))).length ≤ l.length := by
    refine Nat.le_trans (fatesL_len _) ?_
    unfold selL
    refine Nat.le_trans (List.length_filter_le _ _) ?_
    rw [kY_len]
    exact Nat.le_refl _
  refine ⟨?_, ?_, ?_⟩
  · show (madeL _).length ≤ _
    unfold madeL
    rw [List.length_map]
    exact Nat.le_trans (List.length_filter_le _ _) h
  · show (turnedL _).length ≤ _
    unfold turnedL
    rw [List.length_map]
    exact Nat.le_trans (List.length_filter_le _ _) h
  · show (goneL _).length ≤ _
    unfold goneL
    rw [List.length_map]
    exact Nat.le_trans (List.length_filter_le _ _) h
end Go.Proofs.Ytojjlbhodiphdaa.Lg
