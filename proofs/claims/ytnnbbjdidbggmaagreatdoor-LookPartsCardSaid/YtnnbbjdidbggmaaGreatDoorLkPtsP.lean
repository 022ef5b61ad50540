/-
  Plain facts on parts that are put together, each with a head of its own: the kids that stand between marks, each with its octets; the tree of what the law LookParts puts together. No program in this text. Conditions: none.
-/
import Derived.Test.YtnnbbjdidbggmaaGreatDoorPtMadeL
namespace Go.Proofs.YtnnbbjdidbggmaaGreatDoor.Pt
open Go F0

/-- Pieces: a mark, a head, a text; each line with its end. -/
def catQ (mk e : List UInt8) : List (List UInt8 × List UInt8) → List UInt8
  | [] => []
  | x :: r => mk ++ (e ++ ((x.1 ++ (x.2 ++ e)) ++ catQ mk e r))
def kidsQ (mk e : List UInt8) : Nat → List (List UInt8 × List UInt8) → List (Nat × Nat)
  | _, [] => []
  | p, x :: r => (p + mk.length + e.length, p + mk.length + e.length + (x.1 ++ x.2).length) :: kidsQ mk e (p + mk.length + e.length + (x.1 ++ (x.2 ++ e)).length) r
theorem kidsQ_length (mk e : List UInt8) : ∀ (p : Nat) (cs : List (List UInt8 × List UInt8)), (kidsQ mk e p cs).length = cs.length
  | _, [] => rfl
  | p, x :: r => by rw [kidsQ, List.length_cons, List.length_cons, kidsQ_length mk e _ r]
theorem catQ_snoc (mk e : List UInt8) : ∀ (l : List (List UInt8 × List UInt8)) (x : List UInt8 × List UInt8), catQ mk e (l ++ [x]) = catQ mk e l ++ (mk ++ (e ++ (x.1 ++ (x.2 ++ e))))
  | [], x => by rw [List.nil_append, catQ, catQ, catQ]; simp only [List.append_nil, List.nil_append]
  | d :: l, x => by rw [List.cons_append, catQ, catQ, catQ_snoc mk e l x]; simp only [List.append_assoc]
theorem kids_piecesQ {bd e mk lst : List UInt8} (he : IsEnd e) (m10 : ∀ c ∈ mk, c ≠ 10) (m13 : mk.getLast? ≠ some 13) (hm : isMark bd mk = true) (l10 : ∀ c ∈ lst, c ≠ 10) (l13 : lst.getLast? ≠ some 13) (lm : isMark bd lst = false) (ll : isLast bd lst = true)
    (s behind : List UInt8) (b : Nat) :
    ∀ (cs : List (List UInt8 × List UInt8)) (_ : ∀ x ∈ cs, Calm bd x.1 ∧ x.1.getLast? = some 10) (_ : ∀ x ∈ cs, Pure x.2) (o : Option Nat) (p : Nat) (A : List UInt8) (_ : s = A ++ (catQ mk e cs ++ (lst ++ (e ++ behind)))) (_ : A.length = p),
      kidsG bd s b o p (linesL p (catQ mk e cs ++ (lst ++ (e ++ behind)))) = closeL s o p ++ kidsQ mk e p cs
  | [], _, _, o, p, A, _, _ => by
    rw [catQ, List.nil_append, kids_last he l10 l13 lm ll, kidsQ, List.append_nil]
  | x :: r, hpre, hc, o, p, A, hs, hA => by
    have hcp := hc x (by simp)
    obtain ⟨hpr, hp10⟩ := hpre x (by simp)
    have hin : Calm bd (x.1 ++ (x.2 ++ e)) := calm_append hpr (calm_pure he hcp)
    have e1 : catQ mk e (x :: r) ++ (lst ++ (e ++ behind)) = mk ++ (e ++ ((x.1 ++ (x.2 ++ e)) ++ (catQ mk e r ++ (lst ++ (e ++ behind))))) := by
      rw [catQ]; simp only [List.append_assoc]
    have hs2 : s = (A ++ (mk ++ e)) ++ ((x.1 ++ (x.2 ++ e)) ++ (catQ mk e r ++ (lst ++ (e ++ behind)))) := by
      rw [hs, e1]; simp only [List.append_assoc]
    have hA2 : (A ++ (mk ++ e)).length = p + mk.length + e.length := by simp only [List.length_append]; omega
    have hseg : segL s (p + mk.length + e.length) (p + mk.length + e.length + (x.1 ++ (x.2 ++ e)).length) = (x.1 ++ x.2) ++ e := by
      rw [seg_at hs2 hA2 rfl]
      simp only [List.append_assoc]
    have h13 : e = [10] → (x.1 ++ x.2).getLast? ≠ some 13 := fun _ => by
      cases hx : x.2 with
      | nil => rw [List.append_nil, hp10]; decide
      | cons y l =>
        have h9 := pure_13 hcp
        rw [hx] at h9
        cases hg : (y :: l).getLast? with
        | none => rw [List.getLast?_eq_none_iff] at hg; cases hg
        | some z =>
          rw [hg] at h9
          rw [List.getLast?_append, hg]
          exact h9
    have ih := kids_piecesQ he m10 m13 hm l10 l13 lm ll s behind b r (fun c hc' => hpre c (by simp [hc'])) (fun c hc' => hc c (by simp [hc'])) (some (p + mk.length + e.length)) (p + mk.length + e.length + (x.1 ++ (x.2 ++ e)).length) ((A ++ (mk ++ e)) ++ (x.1 ++ (x.2 ++ e))) (by rw [hs2]; simp only [List.append_assoc]) (by rw [List.length_append, hA2])
    rw [e1, kids_mark he m10 m13 hm, hin, ih, close_some he hseg h13, kidsQ]
    rfl
/-- Each kid's octets: its head, its text. -/
theorem kidsQ_seg {e mk : List UInt8} (s Z : List UInt8) : ∀ (cs : List (List UInt8 × List UInt8)) (p : Nat) (A : List UInt8) (_ : s = A ++ (catQ mk e cs ++ Z)) (_ : A.length = p) (i : Nat) (hi : i < cs.length),
    ∃ f, (kidsQ mk e p cs)[i]'(by rw [kidsQ_length]; exact hi) = (f, f + (cs[i].1 ++ cs[i].2).length) ∧ f + (cs[i].1 ++ cs[i].2).length ≤ s.length ∧ segL s f (f + (cs[i].1 ++ cs[i].2).length) = cs[i].1 ++ cs[i].2 ∧ segL s f (f + cs[i].1.length) = cs[i].1 ∧ segL s (f + cs[i].1.length) (f + (cs[i].1 ++ cs[i].2).length) = cs[i].2
  | [], p, A, hs, hA, i, hi => by simp at hi
  | x :: r, p, A, hs, hA, i, hi => by
    have e1 : catQ mk e (x :: r) ++ Z = mk ++ (e ++ ((x.1 ++ (x.2 ++ e)) ++ (catQ mk e r ++ Z))) := by
      rw [catQ]; simp only [List.append_assoc]
    have hA2 : (A ++ (mk ++ e)).length = p + mk.length + e.length := by simp only [List.length_append]; omega
    cases i with
    | zero =>
      refine ⟨p + mk.length + e.length, rfl, ?_, ?_, ?_, ?_⟩
      · have := congrArg List.length hs
        rw [e1] at this
        simp only [List.length_append] at this
        simp only [List.getElem_cons_zero, List.length_append]
        omega
      · exact seg_at (A := A ++ (mk ++ e)) (Z := e ++ (catQ mk e r ++ Z)) (by rw [hs, e1]; simp only [List.append_assoc, List.getElem_cons_zero]) hA2 rfl
      · exact seg_at (A := A ++ (mk ++ e)) (Z := x.2 ++ (e ++ (catQ mk e r ++ Z))) (by rw [hs, e1]; simp only [List.append_assoc, List.getElem_cons_zero]) hA2 rfl
      · refine seg_at (A := A ++ (mk ++ (e ++ x.1))) (Z := e ++ (catQ mk e r ++ Z)) (by rw [hs, e1]; simp only [List.append_assoc, List.getElem_cons_zero]) (by simp only [List.length_append, List.getElem_cons_zero]; omega) ?_
        simp only [List.length_append, List.getElem_cons_zero]
        omega
    | succ i =>
      have hi' : i < r.length := by simp at hi; omega
      obtain ⟨f, h1, h2, h3, h4⟩ := kidsQ_seg (e := e) (mk := mk) s Z r (p + mk.length + e.length + (x.1 ++ (x.2 ++ e)).length) ((A ++ (mk ++ e)) ++ (x.1 ++ (x.2 ++ e))) (by rw [hs, e1]; simp only [List.append_assoc]) (by rw [List.length_append, hA2]) i hi'
      exact ⟨f, h1, h2, h3, h4⟩

/-! ### What the law puts together -/
def ptE : List UInt8 := [13, 10]
def ptH : List UInt8 := ctypeT ++ [58, 32, 109, 117, 108, 116, 105, 112, 97, 114, 116, 47, 109, 105, 120, 101, 100, 59, 32, 98, 111, 117, 110, 100, 97, 114, 121, 61, 98]
def ptM : List UInt8 := [45, 45, 98]
def ptZ : List UInt8 := [45, 45, 98, 45, 45]
def ptN (i : Nat) : List UInt8 := [88, 45, 78, 58, 32] ++ Lib.decDigits i
def ptMix : List UInt8 := [109, 117, 108, 116, 105, 112, 97, 114, 116, 47, 109, 105, 120, 101, 100]
def ptP (i : Nat) : List UInt8 := ptN i ++ (ptE ++ ptE)
def ptS (cs : List (List UInt8 × List UInt8)) : List UInt8 := (ptH ++ (ptE ++ ptE)) ++ (catQ ptM ptE cs ++ (ptZ ++ (ptE ++ [])))
theorem ptE_end : IsEnd ptE := Or.inr rfl
theorem pt_type : typeL (oneL ptH) = (ptMix, [(boundT, [98])]) := by decide +kernel
theorem pt_mark : markL ptMix [(boundT, [98])] = some [98] := by decide +kernel
theorem ptN_all : ∀ i, i < 21 → (ptN i).all (fun c => c != 10) = true ∧ (ptN i).getLast? ≠ some 13 ∧ ptN i ≠ [] ∧ goesL (ptN i) = false ∧ isMark [98] (ptN i) = false ∧ isLast [98] (ptN i) = false ∧ typeL (oneL (ptN i)) = (plainT, []) := by decide +kernel
theorem ptN_10 {i : Nat} (hi : i < 21) : ∀ c ∈ ptN i, c ≠ 10 := fun c hc => by
  have := List.all_eq_true.1 (ptN_all i hi).1 c hc
  simpa using this
theorem pt_calm {i : Nat} (hi : i < 21) : Calm [98] (ptP i) ∧ (ptP i).getLast? = some 10 := by
  obtain ⟨_, h2, h3, h4, h5, h6, h7⟩ := ptN_all i hi
  have c1 : Calm [98] (ptN i ++ ptE) := calm_line ptE_end (ptN_10 hi) h2 h5 h6
  have c2 : Calm [98] ([] ++ ptE) := calm_line ptE_end (by simp) (by simp) (by decide +kernel) (by decide +kernel)
  have c3 := calm_append c1 c2
  rw [List.nil_append, List.append_assoc] at c3
  refine ⟨c3, ?_⟩
  unfold ptP
  rw [List.getLast?_append]
  rfl
theorem pt_head {s c : List UInt8} {f t i : Nat} (hi : i < 21) (h : segL s f t = ptP i ++ c) : headL s f t = (oneL (ptN i), f + (ptP i).length) := by
  obtain ⟨_, h2, h3, h4, h5, h6, h7⟩ := ptN_all i hi
  unfold headL
  rw [h, show ptP i ++ c = ptN i ++ (ptE ++ (ptE ++ c)) by unfold ptP; simp only [List.append_assoc], head_one ptE_end (ptN i) c f t (ptN_10 hi) h2 h3 h4]
  unfold ptP
  simp only [List.length_append]
  congr 1
theorem pts_tree {cs : List (List UInt8 × List UInt8)} (hp : ∀ x ∈ cs, ∃ i, i < 21 ∧ x.1 = ptP i) (hc : ∀ x ∈ cs, Pure x.2) (hn : cs.length ≤ 29) (s : List UInt8) (hs : ptS cs = s) (T : P) (hT : treeL s = T) :
    T.kids.length = cs.length ∧
      ∀ (i : Nat) (hi : i < cs.length) (hk : i < T.kids.length), T.kids[i].kids = [] ∧ segL s T.kids[i].hd T.kids[i].fm = cs[i].1 ∧ segL s T.kids[i].fm T.kids[i].to = cs[i].2 := by
  have he := ptE_end
  have hS : s = (ptH ++ (ptE ++ ptE)) ++ (catQ ptM ptE cs ++ (ptZ ++ (ptE ++ []))) := by rw [← hs]; rfl
  have h0 : segL s 0 s.length = s := by unfold segL; rw [List.take_length, List.drop_zero]
  have e1 : s = ptH ++ (ptE ++ (ptE ++ (catQ ptM ptE cs ++ (ptZ ++ (ptE ++ []))))) := by
    rw [hS]; simp only [List.append_assoc]
  have hh : headL s 0 s.length = (oneL ptH, ptH.length + ptE.length + ptE.length) := by
    unfold headL
    rw [h0]
    generalize s.length = L
    rw [e1, head_one he ptH _ 0 L (by decide +kernel) (by decide +kernel) (by decide +kernel) (by decide +kernel), Nat.zero_add]
  have hbd : hasL s 0 s.length = some [98] := by unfold hasL; rw [hh, pt_type]; exact pt_mark
  have hseg : segL s (ptH.length + ptE.length + ptE.length) s.length = catQ ptM ptE cs ++ (ptZ ++ (ptE ++ [])) := by
    refine seg_at (A := ptH ++ (ptE ++ ptE)) (Z := []) (by rw [List.append_nil]; exact hS) (by simp only [List.length_append]; omega) ?_
    have := congrArg List.length e1
    simp only [List.length_append] at this ⊢
    omega
  have hpre : ∀ x ∈ cs, Calm [98] x.1 ∧ x.1.getLast? = some 10 := fun x hx => by
    obtain ⟨i, hi, h⟩ := hp x hx
    rw [h]
    exact pt_calm hi
  have hkids : kidsL [98] s (ptH.length + ptE.length + ptE.length) s.length = kidsQ ptM ptE (ptH ++ (ptE ++ ptE)).length cs := by
    unfold kidsL
    rw [hseg]
    have h9 := kids_piecesQ (bd := [98]) (mk := ptM) (lst := ptZ) he (by decide +kernel) (by decide +kernel) (by decide +kernel) (by decide +kernel) (by decide +kernel) (by decide +kernel) (by decide +kernel) s [] s.length cs hpre hc none (ptH ++ (ptE ++ ptE)).length (ptH ++ (ptE ++ ptE)) hS rfl
    rw [close_none, List.nil_append] at h9
    rw [← h9]
    have h8 : ptH.length + ptE.length + ptE.length = (ptH ++ (ptE ++ ptE)).length := by simp only [List.length_append]; omega
    rw [h8]
  have hall := kidsQ_seg (mk := ptM) (e := ptE) s (ptZ ++ (ptE ++ [])) cs (ptH ++ (ptE ++ ptE)).length (ptH ++ (ptE ++ ptE)) hS rfl
  have hleaf : ∀ x ∈ kidsQ ptM ptE (ptH ++ (ptE ++ ptE)).length cs, hasL s x.1 x.2 = none := fun x hx => by
    obtain ⟨i, hi, rfl⟩ := List.getElem_of_mem hx
    have hi' : i < cs.length := by rw [← kidsQ_length ptM ptE (ptH ++ (ptE ++ ptE)).length cs]; exact hi
    obtain ⟨f, q1, q2, q3, q4⟩ := hall i hi'
    obtain ⟨j, hj, hjx⟩ := hp cs[i] (List.getElem_mem _)
    rw [q1]
    rw [hjx] at q3 ⊢
    exact has_none (pt_head hj q3) (by rw [(ptN_all j hj).2.2.2.2.2.2]; decide)
  have htree : treeL s = partL s 0 s.length ((kidsQ ptM ptE (ptH ++ (ptE ++ ptE)).length cs).map fun x => partL s x.1 x.2 []) := by
    unfold treeL
    rw [read_kids hbd, hh, hkids, foldK_leaves _ 1 hleaf (by rw [kidsQ_length]; omega)]
  obtain ⟨t1, t2, _⟩ := part_parts s 0 s.length ((kidsQ ptM ptE (ptH ++ (ptE ++ ptE)).length cs).map fun x => partL s x.1 x.2 [])
  rw [hT] at htree
  subst htree
  refine ⟨by rw [t1, List.length_map, kidsQ_length], fun i hi hk => ?_⟩
  obtain ⟨f, q1, q2, q3, q4, q5⟩ := hall i hi
  obtain ⟨j, hj, hjx⟩ := hp cs[i] (List.getElem_mem _)
  have hki : (partL s 0 s.length ((kidsQ ptM ptE (ptH ++ (ptE ++ ptE)).length cs).map fun x => partL s x.1 x.2 [])).kids[i] = partL s f (f + (cs[i].1 ++ cs[i].2).length) [] := by
    simp only [t1, List.getElem_map, q1]
  obtain ⟨u1, u2, u3, u4, u5, u6⟩ := part_parts s f (f + (cs[i].1 ++ cs[i].2).length) []
  have hhd := pt_head (s := s) (c := cs[i].2) (f := f) (t := f + (cs[i].1 ++ cs[i].2).length) hj (by rw [← hjx]; exact q3)
  rw [← hjx] at hhd
  rw [hki, u1, u4, u5, u6, hhd]
  exact ⟨rfl, q4, q5⟩
end Go.Proofs.YtnnbbjdidbggmaaGreatDoor.Pt
