/-
  Plain facts on parts: the tree of the parts that the law PartMade puts together. No program in this text. Conditions: none.
-/
import Derived.Test.YtkmopneeafbeaaaDoorPtMadeL
namespace Go.Proofs.YtkmopneeafbeaaaDoor.Pt
open Go F0

def madeH : List UInt8 := ctypeT ++ [58, 32, 109, 117, 108, 116, 105, 112, 97, 114, 116, 47, 77, 105, 120, 101, 100, 59, 32, 98, 111, 117, 110, 100, 97, 114, 121, 61, 34, 122, 122, 43, 122, 122, 34]
def madeM : List UInt8 := [45, 45, 122, 122, 43, 122, 122, 32]
def madeZ : List UInt8 := [45, 45, 122, 122, 43, 122, 122, 45, 45]
def madeX : List UInt8 := [88, 58, 32, 121]
def madeB : List UInt8 := [122, 122, 43, 122, 122]
def mixedT : List UInt8 := [109, 117, 108, 116, 105, 112, 97, 114, 116, 47, 109, 105, 120, 101, 100]
/-- What the law puts together, ahead of the closing mark. -/
def madeA (e ahead : List UInt8) : List UInt8 := madeH ++ (e ++ (e ++ (ahead ++ e)))
def madeS (e ahead behind : List UInt8) (cs : List (List UInt8)) : List UInt8 := madeA e ahead ++ (catP madeM e (madeX ++ (e ++ e)) cs ++ (madeZ ++ (e ++ behind)))
theorem catP_snoc (mk e pre : List UInt8) : ∀ (l : List (List UInt8)) (c : List UInt8), catP mk e pre (l ++ [c]) = catP mk e pre l ++ (mk ++ (e ++ (pre ++ (c ++ e))))
  | [], c => by rw [List.nil_append, catP, catP, catP]; simp only [List.append_nil, List.nil_append]
  | d :: l, c => by rw [List.cons_append, catP, catP, catP_snoc mk e pre l c]; simp only [List.append_assoc]
theorem made_type : typeL (oneL madeH) = (mixedT, [(boundT, madeB)]) := by decide +kernel
theorem made_mark : markL mixedT [(boundT, madeB)] = some madeB := by decide +kernel
theorem madeX_type : typeL (oneL madeX) = (plainT, []) := type_none (by decide +kernel)
theorem calm_x {e : List UInt8} (he : IsEnd e) : Calm madeB (madeX ++ (e ++ e)) := by
  have h1 : Calm madeB (madeX ++ e) := calm_line he (by decide +kernel) (by decide +kernel) (by decide +kernel) (by decide +kernel)
  have h2 : Calm madeB ([] ++ e) := calm_line he (by simp) (by simp) (by decide +kernel) (by decide +kernel)
  have h3 := calm_append h1 h2
  rw [List.nil_append, List.append_assoc] at h3
  exact h3
theorem pre_last {e : List UInt8} (he : IsEnd e) : (madeX ++ (e ++ e)).getLast? = some 10 := by
  rcases he with rfl | rfl <;> decide
theorem leaf_head {e s c : List UInt8} (he : IsEnd e) {f t : Nat} (h : segL s f t = (madeX ++ (e ++ e)) ++ c) : headL s f t = (oneL madeX, f + (madeX ++ (e ++ e)).length) := by
  unfold headL
  rw [h, show (madeX ++ (e ++ e)) ++ c = madeX ++ (e ++ (e ++ c)) by simp only [List.append_assoc], head_one he madeX c f t (by decide +kernel) (by decide +kernel) (by decide +kernel) (by decide +kernel)]
  simp only [List.length_append]
  congr 1
  omega
theorem made_tree {e ahead behind : List UInt8} {cs : List (List UInt8)} (he : IsEnd e) (ha : Pure ahead) (hc : ∀ c ∈ cs, Pure c) (hn : cs.length ≤ 29) (s : List UInt8) (hs : madeS e ahead behind cs = s) (T : P) (hT : treeL s = T) :
    T.ty = mixedT ∧ T.kids.length = cs.length ∧
      ∀ (i : Nat) (hi : i < cs.length) (hk : i < T.kids.length), T.kids[i].ty = plainT ∧ T.kids[i].kids = [] ∧ T.kids[i].fm ≤ T.kids[i].to ∧ T.kids[i].to ≤ s.length ∧ segL s T.kids[i].fm T.kids[i].to = cs[i] := by
  have hS : s = madeA e ahead ++ (catP madeM e (madeX ++ (e ++ e)) cs ++ (madeZ ++ (e ++ behind))) := by rw [← hs]; rfl
  have h0 : segL s 0 s.length = s := by unfold segL; rw [List.take_length, List.drop_zero]
  have e1 : s = madeH ++ (e ++ (e ++ ((ahead ++ e) ++ (catP madeM e (madeX ++ (e ++ e)) cs ++ (madeZ ++ (e ++ behind)))))) := by
    rw [hS]; unfold madeA; simp only [List.append_assoc]
  have hh : headL s 0 s.length = (oneL madeH, madeH.length + e.length + e.length) := by
    unfold headL
    rw [h0]
    generalize s.length = L
    rw [e1, head_one he madeH _ 0 L (by decide +kernel) (by decide +kernel) (by decide +kernel) (by decide +kernel), Nat.zero_add]
  have hbd : hasL s 0 s.length = some madeB := by unfold hasL; rw [hh, made_type]; exact made_mark
  have hseg : segL s (madeH.length + e.length + e.length) s.length = (ahead ++ e) ++ (catP madeM e (madeX ++ (e ++ e)) cs ++ (madeZ ++ (e ++ behind))) := by
    refine seg_at (A := madeH ++ (e ++ e)) (Z := []) (by rw [List.append_nil]; rw [e1]; simp only [List.append_assoc]) (by simp only [List.length_append]; omega) ?_
    have := congrArg List.length e1
    simp only [List.length_append] at this ⊢
    omega
  have hkids : kidsL madeB s (madeH.length + e.length + e.length) s.length = kidsOf madeM e (madeX ++ (e ++ e)) (madeA e ahead).length cs := by
    unfold kidsL
    rw [hseg, calm_pure he ha]
    have h9 := kids_pieces (bd := madeB) (mk := madeM) (lst := madeZ) he (by decide +kernel) (by decide +kernel) (by decide +kernel) (by decide +kernel) (by decide +kernel) (by decide +kernel) (by decide +kernel) (calm_x he) (pre_last he) s behind s.length cs hc none (madeA e ahead).length (madeA e ahead) hS rfl
    rw [close_none, List.nil_append] at h9
    rw [← h9]
    have h8 : madeH.length + e.length + e.length + (ahead ++ e).length = (madeA e ahead).length := by unfold madeA; simp only [List.length_append]; omega
    rw [h8]
  have hall := kidsOf_seg (mk := madeM) (e := e) (pre := madeX ++ (e ++ e)) s (madeZ ++ (e ++ behind)) cs (madeA e ahead).length (madeA e ahead) hS rfl
  have hleaf : ∀ x ∈ kidsOf madeM e (madeX ++ (e ++ e)) (madeA e ahead).length cs, hasL s x.1 x.2 = none := fun x hx => by
    obtain ⟨i, hi, rfl⟩ := List.getElem_of_mem hx
    obtain ⟨f, q1, q2, q3, q4⟩ := hall i (by rw [← kidsOf_length madeM e (madeX ++ (e ++ e)) (madeA e ahead).length cs]; exact hi)
    rw [q1]
    exact has_none (leaf_head he q3) (by rw [madeX_type]; decide)
  have htree : treeL s = partL s 0 s.length ((kidsOf madeM e (madeX ++ (e ++ e)) (madeA e ahead).length cs).map fun x => partL s x.1 x.2 []) := by
    unfold treeL
    rw [read_kids hbd, hh, hkids, foldK_leaves _ 1 hleaf (by rw [kidsOf_length]; omega)]
  obtain ⟨t1, t2, _⟩ := part_parts s 0 s.length ((kidsOf madeM e (madeX ++ (e ++ e)) (madeA e ahead).length cs).map fun x => partL s x.1 x.2 [])
  rw [hT] at htree
  subst htree
  refine ⟨by rw [t2, hh, made_type], by rw [t1, List.length_map, kidsOf_length], fun i hi hk => ?_⟩
  obtain ⟨f, q1, q2, q3, q4⟩ := hall i hi
  have hki : (partL s 0 s.length ((kidsOf madeM e (madeX ++ (e ++ e)) (madeA e ahead).length cs).map fun x => partL s x.1 x.2 [])).kids[i] = partL s f (f + ((madeX ++ (e ++ e)) ++ cs[i]).length) [] := by
    simp only [t1, List.getElem_map, q1]
  obtain ⟨u1, u2, u3, u4, u5, u6⟩ := part_parts s f (f + ((madeX ++ (e ++ e)) ++ cs[i]).length) []
  rw [hki, u1, u2, u4, u5, leaf_head he q3, madeX_type]
  refine ⟨rfl, rfl, ?_, q2, q4⟩
  simp only [List.length_append]
  omega
end Go.Proofs.YtkmopneeafbeaaaDoor.Pt
