/-
  Plain fact on blanks: a list without the blanks at its ends is empty just where it is blanks alone. No program in this text. Conditions: none.
-/
import Derived.Test.YtigamkdomdglhaaDoorWdPlain
import Derived.Lib.SlTrimSet
namespace Go.Proofs.YtigamkdomdglhaaDoor.Wd
open Go

theorem trim_blank (l : List UInt8) : decide (Lib.trimS l [32, 9] = []) = blankL l := by
  have hb : (fun c : UInt8 => [32, 9].contains c) = blankB := by
    funext c
    simp only [List.contains_cons, List.contains_nil, Bool.or_false]
    rfl
  unfold Lib.trimS Lib.trimLeftS Lib.trimRightS
  rw [hb]
  cases h : blankL l
  · rw [decide_eq_false_iff_not]
    intro e
    rw [drop_all, List.all_reverse] at e
    obtain ⟨c, hc, hn⟩ := List.all_eq_false.1 h
    have hr : ∃ c ∈ (l.reverse).dropWhile blankB, ¬ blankB c = true := by
      refine Classical.byContradiction fun hx => ?_
      have e2 : ∀ m : List UInt8, (∀ c ∈ m.dropWhile blankB, blankB c = true) → ∀ c ∈ m, blankB c = true := by
        intro m
        induction m with
        | nil => intro _ c hc; cases hc
        | cons d m ih =>
          intro hm c hc
          rw [List.dropWhile_cons] at hm
          cases hd : blankB d
          · rw [hd] at hm
            exact hm c hc
          · rw [hd] at hm
            rcases List.mem_cons.1 hc with rfl | hc
            · exact hd
            · exact ih hm c hc
      exact hn (e2 l.reverse (fun c hc => Classical.byContradiction fun hcn => hx ⟨c, hc, hcn⟩) c (by simpa using hc))
    obtain ⟨c, hc, hn⟩ := hr
    exact hn (List.all_eq_true.1 e c hc)
  · rw [decide_eq_true_iff]
    have : (l.reverse).dropWhile blankB = [] := by rw [drop_all, List.all_reverse]; exact h
    rw [this]
    rfl
end Go.Proofs.YtigamkdomdglhaaDoor.Wd
