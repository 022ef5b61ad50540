/-
  Plain facts on parts that are put together: the kids that stand between marks, each with its octets. No program in this text. Conditions: none.
-/
import Derived.Test.YtnnbbjdidbggmaaGreatDoorPtMadeP
namespace Go.Proofs.YtnnbbjdidbggmaaGreatDoor.Pt
open Go F0

/-- Without dashes and line ends. -/
def Pure (c : List UInt8) : Prop := ∀ x ∈ c, x ≠ 45 ∧ x ≠ 10 ∧ x ≠ 13
theorem rtr_mem {c : List UInt8} {x : UInt8} (h : x ∈ rtrL c) : x ∈ c := by
  unfold rtrL Lib.trimRightS at h
  rw [List.mem_reverse] at h
  have := (List.dropWhile_sublist _).mem h
  rwa [List.mem_reverse] at this
theorem pure_mark {c : List UInt8} (h : Pure c) (bd : List UInt8) : isMark bd c = false ∧ isLast bd c = false := by
  have no : ∀ r : List UInt8, rtrL c ≠ 45 :: r := fun r e => (h 45 (rtr_mem (by rw [e]; simp))).1 rfl
  unfold isMark isLast
  exact ⟨by rw [beq_eq_false_iff_ne]; exact no _, by rw [beq_eq_false_iff_ne]; exact no _⟩
theorem pure_10 {c : List UInt8} (h : Pure c) : ∀ x ∈ c, x ≠ 10 := fun x hx => (h x hx).2.1
theorem pure_13 {c : List UInt8} (h : Pure c) : c.getLast? ≠ some 13 := fun e => (h 13 (List.mem_of_getLast? e)).2.2 rfl
theorem calm_pure {bd e c : List UInt8} (he : IsEnd e) (h : Pure c) : Calm bd (c ++ e) := calm_line he (pure_10 h) (pure_13 h) (pure_mark h bd).1 (pure_mark h bd).2
/-- Pieces: a mark, a head, a text; each line with its end. -/
def catP (mk e pre : List UInt8) : List (List UInt8) → List UInt8
  | [] => []
  | c :: r => mk ++ (e ++ ((pre ++ (c ++ e)) ++ catP mk e pre r))
def kidsOf (mk e pre : List UInt8) : Nat → List (List UInt8) → List (Nat × Nat)
  | _, [] => []
  | p, c :: r => (p + mk.length + e.length, p + mk.length + e.length + (pre ++ c).length) :: kidsOf mk e pre (p + mk.length + e.length + (pre ++ (c ++ e)).length) r
theorem kidsOf_length (mk e pre : List UInt8) : ∀ (p : Nat) (cs : List (List UInt8)), (kidsOf mk e pre p cs).length = cs.length
  | _, [] => rfl
  | p, c :: r => by rw [kidsOf, List.length_cons, List.length_cons, kidsOf_length mk e pre _ r]
theorem kids_pieces {bd e mk lst pre : List UInt8} (he : IsEnd e) (m10 : ∀ c ∈ mk, c ≠ 10) (m13 : mk.getLast? ≠ some 13) (hm : isMark bd mk = true) (l10 : ∀ c ∈ lst, c ≠ 10) (l13 : lst.getLast? ≠ some 13) (lm : isMark bd lst = false) (ll : isLast bd lst = true)
    (hpre : Calm bd pre) (hp10 : pre.getLast? = some 10) (s behind : List UInt8) (b : Nat) :
    ∀ (cs : List (List UInt8)) (_ : ∀ c ∈ cs, Pure c) (o : Option Nat) (p : Nat) (A : List UInt8) (_ : s = A ++ (catP mk e pre cs ++ (lst ++ (e ++ behind)))) (_ : A.length = p),
      kidsG bd s b o p (linesL p (catP mk e pre cs ++ (lst ++ (e ++ behind)))) = closeL s o p ++ kidsOf mk e pre p cs
  | [], _, o, p, A, _, _ => by
    rw [catP, List.nil_append, kids_last he l10 l13 lm ll, kidsOf, List.append_nil]
  | c :: r, hc, o, p, A, hs, hA => by
    have hcp := hc c (by simp)
    have hin : Calm bd (pre ++ (c ++ e)) := calm_append hpre (calm_pure he hcp)
    have e1 : catP mk e pre (c :: r) ++ (lst ++ (e ++ behind)) = mk ++ (e ++ ((pre ++ (c ++ e)) ++ (catP mk e pre r ++ (lst ++ (e ++ behind))))) := by
      rw [catP]; simp only [List.append_assoc]
    have hs2 : s = (A ++ (mk ++ e)) ++ ((pre ++ (c ++ e)) ++ (catP mk e pre r ++ (lst ++ (e ++ behind)))) := by
      rw [hs, e1]; simp only [List.append_assoc]
    have hA2 : (A ++ (mk ++ e)).length = p + mk.length + e.length := by simp only [List.length_append]; omega
    have hseg : segL s (p + mk.length + e.length) (p + mk.length + e.length + (pre ++ (c ++ e)).length) = (pre ++ c) ++ e := by
      rw [seg_at hs2 hA2 rfl]
      simp only [List.append_assoc]
    have h13 : e = [10] → (pre ++ c).getLast? ≠ some 13 := fun _ => by
      cases c with
      | nil => rw [List.append_nil, hp10]; decide
      | cons x l =>
        have h9 := pure_13 hcp
        cases hg : (x :: l).getLast? with
        | none => rw [List.getLast?_eq_none_iff] at hg; cases hg
        | some y =>
          rw [hg] at h9
          rw [List.getLast?_append, hg]
          exact h9
    have ih := kids_pieces he m10 m13 hm l10 l13 lm ll hpre hp10 s behind b r (fun c hc' => hc c (by simp [hc'])) (some (p + mk.length + e.length)) (p + mk.length + e.length + (pre ++ (c ++ e)).length) ((A ++ (mk ++ e)) ++ (pre ++ (c ++ e))) (by rw [hs2]; simp only [List.append_assoc]) (by rw [List.length_append, hA2])
    rw [e1, kids_mark he m10 m13 hm, hin, ih, close_some he hseg h13, kidsOf]
    rfl
/-- All kids without kids of their own. -/
theorem foldK_leaves {s : List UInt8} {d : Nat} : ∀ (l : List (Nat × Nat)) (n : Nat) (_ : ∀ x ∈ l, hasL s x.1 x.2 = none) (_ : n + l.length ≤ 30), foldK (readL s d) l n = (l.map fun x => partL s x.1 x.2 [], n + l.length)
  | [], n, _, _ => by rw [foldK]; rfl
  | (f, t) :: r, n, h, hn => by
    rw [List.length_cons] at hn
    have h1 := h (f, t) (by simp)
    rw [foldK, if_pos (by omega), read_leaf h1, foldK_leaves r (n + 1) (fun x hx => h x (by simp [hx])) (by omega), List.map_cons, List.length_cons]
    simp only [Prod.mk.injEq, true_and]
    omega
/-- Each kid's octets: its head, its text. -/
theorem kidsOf_seg {e mk pre : List UInt8} (s Z : List UInt8) : ∀ (cs : List (List UInt8)) (p : Nat) (A : List UInt8) (_ : s = A ++ (catP mk e pre cs ++ Z)) (_ : A.length = p) (i : Nat) (hi : i < cs.length),
    ∃ f, (kidsOf mk e pre p cs)[i]'(by rw [kidsOf_length]; exact hi) = (f, f + (pre ++ cs[i]).length) ∧ f + (pre ++ cs[i]).length ≤ s.length ∧ segL s f (f + (pre ++ cs[i]).length) = pre ++ cs[i] ∧ segL s (f + pre.length) (f + (pre ++ cs[i]).length) = cs[i]
  | [], p, A, hs, hA, i, hi => by simp at hi
  | c :: r, p, A, hs, hA, i, hi => by
    have e1 : catP mk e pre (c :: r) ++ Z = mk ++ (e ++ ((pre ++ (c ++ e)) ++ (catP mk e pre r ++ Z))) := by
      rw [catP]; simp only [List.append_assoc]
    have hA2 : (A ++ (mk ++ e)).length = p + mk.length + e.length := by simp only [List.length_append]; omega
    cases i with
    | zero =>
      refine ⟨p + mk.length + e.length, rfl, ?_, ?_, ?_⟩
      · have := congrArg List.length hs
        rw [e1] at this
        simp only [List.length_append] at this
        simp only [List.getElem_cons_zero, List.length_append]
        omega
      · exact seg_at (A := A ++ (mk ++ e)) (Z := e ++ (catP mk e pre r ++ Z)) (by rw [hs, e1]; simp only [List.append_assoc, List.getElem_cons_zero]) hA2 rfl
      · refine seg_at (A := A ++ (mk ++ (e ++ pre))) (Z := e ++ (catP mk e pre r ++ Z)) (by rw [hs, e1]; simp only [List.append_assoc, List.getElem_cons_zero]) (by simp only [List.length_append]; omega) ?_
        simp only [List.length_append, List.getElem_cons_zero]
        omega
    | succ i =>
      have hi' : i < r.length := by simp at hi; omega
      obtain ⟨f, h1, h2, h3, h4⟩ := kidsOf_seg (e := e) (mk := mk) (pre := pre) s Z r (p + mk.length + e.length + (pre ++ (c ++ e)).length) ((A ++ (mk ++ e)) ++ (pre ++ (c ++ e))) (by rw [hs, e1]; simp only [List.append_assoc]) (by rw [List.length_append, hA2]) i hi'
      exact ⟨f, h1, h2, h3, h4⟩
end Go.Proofs.YtnnbbjdidbggmaaGreatDoor.Pt
