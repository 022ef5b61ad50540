/-
  The law PartNested returns true: the tree of the parts that it puts together, variables of type Part, the walk. Condition: the bound of the library's search is some number.
-/
import Derived.Test.YtkmopneeafbeaaaDoorPtMadeL
import Derived.Test.YtkmopneeafbeaaaDoorPtBx
import Derived.Test.YtkmopneeafbeaaaDoorPtPut8
import Derived.Test.YtkmopneeafbeaaaDoorPtTop
import Derived.Test.YtkmopneeafbeaaaDoorPtClean
import Derived.Test.YtkmopneeafbeaaaDoorPtCont
import Derived.Test.YtkmopneeafbeaaaDoorPtTree
import Derived.Sort.CutIn
import Derived.Deep.RegionHeld3
namespace Go.Proofs.YtkmopneeafbeaaaDoor.Pt
open Go F0

def cr : List UInt8 := [13, 10]
def outH : List UInt8 := ctypeT ++ [58, 32, 109, 117, 108, 116, 105, 112, 97, 114, 116, 47, 109, 105, 120, 101, 100, 59, 32, 98, 111, 117, 110, 100, 97, 114, 121, 61, 111, 117, 116]
def inH : List UInt8 := ctypeT ++ [58, 32, 109, 117, 108, 116, 105, 112, 97, 114, 116, 47, 97, 108, 116, 101, 114, 110, 97, 116, 105, 118, 101, 59, 32, 98, 111, 117, 110, 100, 97, 114, 121, 61, 105, 110]
def htmlH : List UInt8 := ctypeT ++ [58, 32, 116, 101, 120, 116, 47, 104, 116, 109, 108]
def mo : List UInt8 := [45, 45, 111, 117, 116]
def lo : List UInt8 := [45, 45, 111, 117, 116, 45, 45]
def mi : List UInt8 := [45, 45, 105, 110]
def li : List UInt8 := [45, 45, 105, 110, 45, 45]
def outB : List UInt8 := [111, 117, 116]
def inB : List UInt8 := [105, 110]
def mixT : List UInt8 := [109, 117, 108, 116, 105, 112, 97, 114, 116, 47, 109, 105, 120, 101, 100]
def altT : List UInt8 := [109, 117, 108, 116, 105, 112, 97, 114, 116, 47, 97, 108, 116, 101, 114, 110, 97, 116, 105, 118, 101]
def htmlT : List UInt8 := [116, 101, 120, 116, 47, 104, 116, 109, 108]
theorem cr_end : IsEnd cr := Or.inr rfl
theorem cr_13 {c : List UInt8} : cr = [10] → c.getLast? ≠ some 13 := fun h => by simp [cr] at h
/-- Lines, each with its end. -/
def lns (ls : List (List UInt8)) : List UInt8 := ls.flatMap (· ++ cr)
def Okl (bd t : List UInt8) : Prop := (∀ c ∈ t, c ≠ 10) ∧ t.getLast? ≠ some 13 ∧ isMark bd t = false ∧ isLast bd t = false
theorem calm_lns {bd : List UInt8} : ∀ {ls : List (List UInt8)} (_ : ∀ t ∈ ls, Okl bd t), Calm bd (lns ls)
  | [], _ => calm_nil bd
  | t :: r, h => by
    have h1 := h t (by simp)
    have : lns (t :: r) = (t ++ cr) ++ lns r := by simp [lns]
    rw [this]
    exact calm_append (calm_line cr_end h1.1 h1.2.1 h1.2.2.1 h1.2.2.2) (calm_lns (fun t ht => h t (by simp [ht])))
theorem okl_pure {c : List UInt8} (h : Pure c) (bd : List UInt8) : Okl bd c := ⟨pure_10 h, pure_13 h, (pure_mark h bd).1, (pure_mark h bd).2⟩
theorem lns_length_cons (t : List UInt8) (ls : List (List UInt8)) : (lns (t :: ls)).length = t.length + 2 + (lns ls).length := by
  simp [lns, cr]; omega
theorem lns_nil : (lns []).length = 0 := rfl
/-- A part that has just these octets, told as they stand. -/
def Leaf (s c : List UInt8) (p : P) : Prop := p.kids = [] ∧ p.enc = bit7 ∧ p.fm ≤ p.to ∧ p.to ≤ s.length ∧ segL s p.fm p.to = c
/-- Octets behind an empty line. -/
theorem leaf_empty {s A c Z : List UInt8} {f t : Nat} (hs : s = A ++ ((cr ++ c) ++ Z)) (hf : A.length = f) (ht : f + (cr ++ c).length = t) : hasL s f t = none ∧ Leaf s c (partL s f t []) := by
  have h1 : segL s f t = cr ++ c := seg_at hs hf ht
  have h2 : headL s f t = ([], f + 2) := by
    unfold headL
    rw [h1, head_empty cr_end c f t]
    rfl
  obtain ⟨u1, u2, u3, u4, u5, u6⟩ := part_parts s f t []
  have hl := congrArg List.length hs
  simp only [List.length_append] at hl ht
  have hc : cr.length = 2 := rfl
  refine ⟨has_none h2 (by show Lib.hasPrefix (typeL []).1 multiT = false; decide +kernel), u1, ?_, ?_, ?_, ?_⟩
  · rw [u3, h2]; show encL [] = bit7; decide +kernel
  · rw [u4, u5, h2]; simp only; omega
  · rw [u5]; omega
  · rw [u4, u5, h2]
    exact seg_at (A := A ++ cr) (Z := Z) (by rw [hs]; simp only [List.append_assoc]) (by rw [List.length_append]; omega) (by simp only; omega)
/-- Octets behind one header that says no kids. -/
theorem leaf_one {H s A c Z : List UInt8} {f t : Nat} (h10 : ∀ x ∈ H, x ≠ 10) (h13 : H.getLast? ≠ some 13) (h0 : H ≠ []) (hg : goesL H = false) (hty : Lib.hasPrefix (typeL (oneL H)).1 multiT = false) (he : encL (oneL H) = bit7)
    (hs : s = A ++ ((H ++ (cr ++ (cr ++ c))) ++ Z)) (hf : A.length = f) (ht : f + (H ++ (cr ++ (cr ++ c))).length = t) : hasL s f t = none ∧ Leaf s c (partL s f t []) ∧ (partL s f t []).ty = (typeL (oneL H)).1 := by
  have h1 : segL s f t = H ++ (cr ++ (cr ++ c)) := seg_at hs hf ht
  have hc : cr.length = 2 := rfl
  have h2 : headL s f t = (oneL H, f + H.length + cr.length + cr.length) := by
    unfold headL
    rw [h1, head_one cr_end H c f t h10 h13 h0 hg]
  obtain ⟨u1, u2, u3, u4, u5, u6⟩ := part_parts s f t []
  have hl := congrArg List.length hs
  simp only [List.length_append] at hl ht
  refine ⟨has_none h2 hty, ⟨u1, ?_, ?_, ?_, ?_⟩, ?_⟩
  · rw [u3, h2]; exact he
  · rw [u4, u5, h2]; simp only; omega
  · rw [u5]; omega
  · rw [u4, u5, h2]
    exact seg_at (A := A ++ (H ++ (cr ++ cr))) (Z := Z) (by rw [hs]; simp only [List.append_assoc]) (by simp only [List.length_append]; omega) (by simp only; omega)
  · rw [u2, h2]
/-- What stands behind the inner head. -/
def inBody (a b z : List UInt8) : List UInt8 := mi ++ (cr ++ (lns [[], a] ++ (mi ++ (cr ++ (lns [htmlH, []] ++ (b ++ z))))))
def inAll (a b z : List UInt8) : List UInt8 := inH ++ (cr ++ (cr ++ inBody a b z))
def nestS (a b c z : List UInt8) : List UInt8 := outH ++ (cr ++ (cr ++ (mo ++ (cr ++ ((inAll a b z ++ cr) ++ (mo ++ (cr ++ (lns [[], c] ++ (lo ++ (cr ++ []))))))))))
/-- The end of the inner parts: none, or their closing mark. -/
def IsZ (z : List UInt8) : Prop := z = [] ∨ z = cr ++ li
theorem out_type : typeL (oneL outH) = (mixT, [(boundT, outB)]) := by decide +kernel
theorem out_mark : markL mixT [(boundT, outB)] = some outB := by decide +kernel
theorem in_type : typeL (oneL inH) = (altT, [(boundT, inB)]) := by decide +kernel
theorem in_mark : markL altT [(boundT, inB)] = some inB := by decide +kernel
theorem html_type : (typeL (oneL htmlH)).1 = htmlT := by decide +kernel
theorem in_out {a b : List UInt8} (ha : Pure a) (hb : Pure b) {z : List UInt8} (hz : IsZ z) : Calm outB (inAll a b z ++ cr) := by
  rcases hz with rfl | rfl
  · have h : inAll a b [] ++ cr = lns [inH, [], mi, [], a, mi, htmlH, [], b] := by simp [inAll, inBody, lns]
    rw [h]
    refine calm_lns (fun t ht => ?_)
    simp only [List.mem_cons, List.not_mem_nil, or_false] at ht
    rcases ht with rfl | rfl | rfl | rfl | rfl | rfl | rfl | rfl | rfl
    all_goals first | exact okl_pure ha _ | exact okl_pure hb _ | exact ⟨by decide +kernel, by decide +kernel, by decide +kernel, by decide +kernel⟩
  · have h : inAll a b (cr ++ li) ++ cr = lns [inH, [], mi, [], a, mi, htmlH, [], b, li] := by simp [inAll, inBody, lns]
    rw [h]
    refine calm_lns (fun t ht => ?_)
    simp only [List.mem_cons, List.not_mem_nil, or_false] at ht
    rcases ht with rfl | rfl | rfl | rfl | rfl | rfl | rfl | rfl | rfl | rfl
    all_goals first | exact okl_pure ha _ | exact okl_pure hb _ | exact ⟨by decide +kernel, by decide +kernel, by decide +kernel, by decide +kernel⟩
theorem calm_two {bd c : List UInt8} (hc : Pure c) : Calm bd (lns [[], c]) := by
  refine calm_lns (fun t ht => ?_)
  simp only [List.mem_cons, List.not_mem_nil, or_false] at ht
  rcases ht with rfl | rfl
  · exact okl_pure (fun x hx => by cases hx) _
  · exact okl_pure hc _
theorem calm_html : Calm inB (lns [htmlH, []]) := by
  refine calm_lns (fun t ht => ?_)
  simp only [List.mem_cons, List.not_mem_nil, or_false] at ht
  rcases ht with rfl | rfl
  all_goals exact ⟨by decide +kernel, by decide +kernel, by decide +kernel, by decide +kernel⟩
theorem lns_two (c : List UInt8) : lns [[], c] = (cr ++ c) ++ cr := by simp [lns]
theorem lns_html (b : List UInt8) : lns [htmlH, []] ++ b = htmlH ++ (cr ++ (cr ++ b)) := by simp [lns]
/-- The inner kids. -/
theorem in_kids {a b z s A Z : List UInt8} (ha : Pure a) (hb : Pure b) (hz : IsZ z) {p e : Nat} (hs : s = A ++ (inBody a b z ++ Z)) (hp : A.length = p) (he : p + (inBody a b z).length = e) :
    kidsL inB s p e = [(p + 6, p + 6 + (cr ++ a).length), (p + 6 + (lns [[], a]).length + 6, p + 6 + (lns [[], a]).length + 6 + (lns [htmlH, []] ++ b).length)] := by
  have h1 : segL s p e = inBody a b z := seg_at hs hp he
  have hc : cr.length = 2 := rfl
  have hm : mi.length = 4 := rfl
  have k1 : segL s (p + 6) (p + 6 + (lns [[], a]).length) = (cr ++ a) ++ cr := by
    rw [← lns_two]
    exact seg_at (A := A ++ (mi ++ cr)) (Z := mi ++ (cr ++ (lns [htmlH, []] ++ (b ++ z))) ++ Z) (by rw [hs]; unfold inBody; simp only [List.append_assoc]) (by simp only [List.length_append]; omega) rfl
  unfold kidsL
  rw [h1]
  have e1 : inBody a b z = mi ++ (cr ++ (lns [[], a] ++ (mi ++ (cr ++ (lns [htmlH, []] ++ (b ++ z)))))) := rfl
  rw [e1, kids_mark cr_end (by decide) (by decide) (by decide +kernel), close_none, List.nil_append, show p + mi.length + cr.length = p + 6 by omega, calm_two ha, kids_mark cr_end (by decide) (by decide) (by decide +kernel),
    close_some cr_end k1 cr_13, show p + 6 + (lns [[], a]).length + mi.length + cr.length = p + 6 + (lns [[], a]).length + 6 by omega, calm_html]
  have hlen : (inBody a b z).length = 6 + (lns [[], a]).length + 6 + (lns [htmlH, []]).length + b.length + z.length := by
    rw [e1]; simp only [List.length_append]; omega
  rcases hz with rfl | rfl
  · rw [List.append_nil, kids_open (pure_10 hb) (pure_mark hb _).1 (pure_mark hb _).2]
    simp only [List.length_nil] at hlen
    rw [show e = p + 6 + (lns [[], a]).length + 6 + (lns [htmlH, []] ++ b).length by rw [List.length_append]; omega]
    rfl
  · have e2 : b ++ (cr ++ li) = lns [b] ++ li := by simp [lns]
    have hcb : Calm inB (lns [b]) := calm_lns (fun t ht => by rw [List.mem_singleton] at ht; rw [ht]; exact okl_pure hb _)
    have hlb : (lns [b]).length = b.length + 2 := by rw [lns_length_cons, lns_nil]
    have k2 : segL s (p + 6 + (lns [[], a]).length + 6) (p + 6 + (lns [[], a]).length + 6 + (lns [htmlH, []]).length + (lns [b]).length) = (lns [htmlH, []] ++ b) ++ cr := by
      refine seg_at (A := A ++ (mi ++ (cr ++ (lns [[], a] ++ (mi ++ cr))))) (Z := li ++ Z) ?_ ?_ ?_
      · rw [hs, e1]; simp only [List.append_assoc]
      · simp only [List.length_append]; omega
      · simp only [List.length_append]; omega
    rw [e2, hcb, kids_lastopen (by decide) (by decide) (by decide +kernel) (by decide +kernel), close_some cr_end k2 cr_13]
    rfl
theorem nest_tree {a b c z : List UInt8} (ha : Pure a) (hb : Pure b) (hc : Pure c) (hz : IsZ z) (s : List UInt8) (hS : nestS a b c z = s) (T : P) (hT : treeL s = T) :
    ∃ K X Y V, T.kids = [K, V] ∧ K.kids = [X, Y] ∧ K.ty = altT ∧ Y.ty = htmlT ∧ Leaf s a X ∧ Leaf s b Y ∧ Leaf s c V := by
  have e0 : s = outH ++ (cr ++ (cr ++ (mo ++ (cr ++ ((inAll a b z ++ cr) ++ (mo ++ (cr ++ (lns [[], c] ++ (lo ++ (cr ++ [])))))))))) := by rw [← hS]; rfl
  have hcl : cr.length = 2 := rfl
  have hml : mi.length = 4 := rfl
  have hol : mo.length = 5 := rfl
  have hll : lo.length = 7 := rfl
  have h0 : segL s 0 s.length = s := by unfold segL; rw [List.take_length, List.drop_zero]
  have hh : headL s 0 s.length = (oneL outH, outH.length + 4) := by
    unfold headL
    rw [h0]
    generalize s.length = L
    rw [e0, head_one cr_end outH _ 0 L (by decide +kernel) (by decide +kernel) (by decide +kernel) (by decide +kernel), Nat.zero_add, hcl]
  have hbd : hasL s 0 s.length = some outB := by unfold hasL; rw [hh, out_type]; exact out_mark
  have hlen : s.length = outH.length + 4 + 7 + ((inAll a b z).length + 2) + 7 + (lns [[], c]).length + 9 := by
    rw [e0]; simp only [List.length_append, List.length_nil]; omega
  obtain ⟨p0, hp0⟩ : ∃ p0, outH.length + 4 = p0 := ⟨_, rfl⟩
  obtain ⟨IA, hIA⟩ : ∃ IA, inAll a b z = IA := ⟨_, rfl⟩
  have hcm : Calm outB (IA ++ cr) := by rw [← hIA]; exact in_out ha hb hz
  rw [hIA] at e0 hlen
  have hseg : segL s p0 s.length = mo ++ (cr ++ ((IA ++ cr) ++ (mo ++ (cr ++ (lns [[], c] ++ (lo ++ (cr ++ []))))))) := by
    refine seg_at (A := outH ++ (cr ++ cr)) (Z := []) (by rw [List.append_nil]; rw [e0]; simp only [List.append_assoc]) (by simp only [List.length_append]; omega) ?_
    simp only [List.length_append, List.length_nil]; omega
  have k1 : segL s (p0 + 7) (p0 + 7 + (IA ++ cr).length) = IA ++ cr :=
    seg_at (A := outH ++ (cr ++ (cr ++ (mo ++ cr)))) (Z := mo ++ (cr ++ (lns [[], c] ++ (lo ++ (cr ++ []))))) (by rw [e0]; simp only [List.append_assoc]) (by simp only [List.length_append]; omega) rfl
  have k2 : segL s (p0 + 7 + (IA ++ cr).length + 7) (p0 + 7 + (IA ++ cr).length + 7 + (lns [[], c]).length) = (cr ++ c) ++ cr := by
    rw [← lns_two]
    exact seg_at (A := outH ++ (cr ++ (cr ++ (mo ++ (cr ++ ((IA ++ cr) ++ (mo ++ cr))))))) (Z := lo ++ (cr ++ [])) (by rw [e0]; simp only [List.append_assoc]) (by simp only [List.length_append]; omega) rfl
  have hkids : kidsL outB s p0 s.length = [(p0 + 7, p0 + 7 + IA.length), (p0 + 7 + (IA ++ cr).length + 7, p0 + 7 + (IA ++ cr).length + 7 + (cr ++ c).length)] := by
    unfold kidsL
    rw [hseg, kids_mark cr_end (by decide) (by decide) (by decide +kernel), close_none, List.nil_append, show p0 + mo.length + cr.length = p0 + 7 by omega, hcm, kids_mark cr_end (by decide) (by decide) (by decide +kernel),
      close_some cr_end k1 cr_13, show p0 + 7 + (IA ++ cr).length + mo.length + cr.length = p0 + 7 + (IA ++ cr).length + 7 by omega, calm_two hc, kids_last cr_end (by decide) (by decide) (by decide +kernel) (by decide +kernel), close_some cr_end k2 cr_13]
    rfl
  have hIE : IA = inH ++ (cr ++ (cr ++ inBody a b z)) := by rw [← hIA]; rfl
  -- the inner part
  have hsI : segL s (p0 + 7) (p0 + 7 + IA.length) = inH ++ (cr ++ (cr ++ inBody a b z)) := by
    rw [← hIE]
    exact seg_at (A := outH ++ (cr ++ (cr ++ (mo ++ cr)))) (Z := cr ++ (mo ++ (cr ++ (lns [[], c] ++ (lo ++ (cr ++ [])))))) (by rw [e0]; simp only [List.append_assoc]) (by simp only [List.length_append]; omega) rfl
  have hhI : headL s (p0 + 7) (p0 + 7 + IA.length) = (oneL inH, p0 + 7 + inH.length + cr.length + cr.length) := by
    unfold headL
    rw [hsI]
    generalize p0 + 7 + IA.length = L
    rw [head_one cr_end inH _ (p0 + 7) L (by decide +kernel) (by decide +kernel) (by decide +kernel) (by decide +kernel)]
  have hbI : hasL s (p0 + 7) (p0 + 7 + IA.length) = some inB := by unfold hasL; rw [hhI, in_type]; exact in_mark
  obtain ⟨q0, hq0⟩ : ∃ q0, p0 + 7 + inH.length + cr.length + cr.length = q0 := ⟨_, rfl⟩
  rw [hq0] at hhI
  have hIL : IA.length = inH.length + 4 + (inBody a b z).length := by rw [hIE]; simp only [List.length_append]; omega
  have eI : s = (outH ++ (cr ++ (cr ++ (mo ++ (cr ++ (inH ++ (cr ++ cr))))))) ++ (inBody a b z ++ (cr ++ (mo ++ (cr ++ (lns [[], c] ++ (lo ++ (cr ++ []))))))) := by
    rw [e0, hIE]; simp only [List.append_assoc]
  have hAI : (outH ++ (cr ++ (cr ++ (mo ++ (cr ++ (inH ++ (cr ++ cr))))))).length = q0 := by simp only [List.length_append]; omega
  have hkI := in_kids ha hb hz eI hAI (e := p0 + 7 + IA.length) (by omega)
  -- the leaves
  have hX := leaf_empty (s := s) (A := outH ++ (cr ++ (cr ++ (mo ++ (cr ++ (inH ++ (cr ++ (cr ++ (mi ++ cr))))))))) (c := a) (Z := cr ++ (mi ++ (cr ++ (lns [htmlH, []] ++ (b ++ z)))) ++ (cr ++ (mo ++ (cr ++ (lns [[], c] ++ (lo ++ (cr ++ []))))))) (f := q0 + 6) (t := q0 + 6 + (cr ++ a).length)
    (by rw [eI]; unfold inBody; rw [lns_two]; simp only [List.append_assoc]) (by simp only [List.length_append] at hAI ⊢; omega) rfl
  have hY := leaf_one (H := htmlH) (s := s) (A := outH ++ (cr ++ (cr ++ (mo ++ (cr ++ (inH ++ (cr ++ (cr ++ (mi ++ (cr ++ (lns [[], a] ++ (mi ++ cr)))))))))))) (c := b) (Z := z ++ (cr ++ (mo ++ (cr ++ (lns [[], c] ++ (lo ++ (cr ++ [])))))))
    (f := q0 + 6 + (lns [[], a]).length + 6) (t := q0 + 6 + (lns [[], a]).length + 6 + (lns [htmlH, []] ++ b).length) (by decide +kernel) (by decide +kernel) (by decide +kernel) (by decide +kernel) (by decide +kernel) (by decide +kernel)
    (by rw [eI]; unfold inBody; rw [← lns_html]; simp only [List.append_assoc]) (by simp only [List.length_append] at hAI ⊢; omega) (by rw [lns_html])
  have hV := leaf_empty (s := s) (A := outH ++ (cr ++ (cr ++ (mo ++ (cr ++ ((IA ++ cr) ++ (mo ++ cr))))))) (c := c) (Z := cr ++ (lo ++ (cr ++ []))) (f := p0 + 7 + (IA ++ cr).length + 7) (t := p0 + 7 + (IA ++ cr).length + 7 + (cr ++ c).length)
    (by rw [e0, lns_two]; simp only [List.append_assoc]) (by simp only [List.length_append]; omega) rfl
  have rI : ∀ n, n < 27 → readL s 5 (p0 + 7) (p0 + 7 + IA.length) n = (partL s (p0 + 7) (p0 + 7 + IA.length) [partL s (q0 + 6) (q0 + 6 + (cr ++ a).length) [], partL s (q0 + 6 + (lns [[], a]).length + 6) (q0 + 6 + (lns [[], a]).length + 6 + (lns [htmlH, []] ++ b).length) []], n + 2) := fun n hn => by
    rw [read_kids hbI, hhI]
    simp only
    rw [hkI, foldK_leaves _ n (fun x hx => by
      simp only [List.mem_cons, List.not_mem_nil, or_false] at hx
      rcases hx with rfl | rfl
      · exact hX.1
      · exact hY.1) (by simp only [List.length_cons, List.length_nil]; omega)]
    rfl
  have htree : T = partL s 0 s.length [partL s (p0 + 7) (p0 + 7 + IA.length) [partL s (q0 + 6) (q0 + 6 + (cr ++ a).length) [], partL s (q0 + 6 + (lns [[], a]).length + 6) (q0 + 6 + (lns [[], a]).length + 6 + (lns [htmlH, []] ++ b).length) []], partL s (p0 + 7 + (IA ++ cr).length + 7) (p0 + 7 + (IA ++ cr).length + 7 + (cr ++ c).length) []] := by
    rw [← hT]
    unfold treeL
    rw [read_kids hbd, hh]
    simp only
    rw [hp0, hkids, foldK, if_pos (by decide), rI 2 (by decide)]
    simp only [foldK]
    rw [if_pos (by decide), read_leaf hV.1]
  refine ⟨_, _, _, _, by rw [htree]; rfl, rfl, ?_, ?_, hX.2, hY.2.1, hV.2⟩
  · rw [(part_parts s _ _ _).2.1, hhI, in_type]
  · rw [hY.2.2, html_type]
end Go.Proofs.YtkmopneeafbeaaaDoor.Pt
namespace Go.Proofs.YtkmopneeafbeaaaDoor.Pt
open Go Go.RowKit Go.Joins Kit F0

def newP (w : World) : World := w.alloc (.cells zeroC.toArray 31)
theorem newP_size (w : World) : (newP w).heap.size = w.heap.size + 1 := by simp [newP]
set_option maxHeartbeats 4000000 in
set_option maxRecDepth 100000 in
/-- A new variable of type Part, as a step of a region that draws. -/
theorem step_new8 {ops : Array Oper} {o : Oper} {a : Act} {K : Act → World → Prop} {R : Exit → Act → World → Prop} {E : Prop} (hgd : o.guard = none) (ho : o.op = .alloc 31) (hty : o.type = 0) (W : World) (n : Nat) (hn : W.heap.size = n)
    (k : K (a.put o.dst (.pointer (some ⟨n, 0, none⟩))) (newP W)) :
    if Region.wanted o (yielded ops a.tmps) = true then Oper.wp Tryd.prog o a W K R else E := by
  have hw : Region.wanted o (yielded ops a.tmps) = true := by unfold Region.wanted; rw [hgd]
  rw [if_pos hw]
  clear hw
  subst hn
  obtain ⟨dst, op, type, pos, after, guard⟩ := o
  subst ho hgd hty
  unfold newP zeroC at k
  go_simp
  exact k
/-- A block that holds a part that is nothing yet. -/
def Zx (g : Nat) (w : World) : Prop := Bx g (.string ⟨#[]⟩) (.slice none 0 0) (.string ⟨#[]⟩) (.bool false) (.int .i64 0) (.int .i64 0) (.int .i64 0) (.slice none 0 0) w
theorem Zx.cells {g : Nat} {w : World} (h : Zx g w) : ∀ j, j < 8 → w.cell? ⟨g, 0 + j, none⟩ = zeroC[j]? ∧ w.frozen? ⟨g, 0 + j, none⟩ = false := fun j hj => by
  refine ⟨?_, Bx.free h _⟩
  have : j = 0 ∨ j = 1 ∨ j = 2 ∨ j = 3 ∨ j = 4 ∨ j = 5 ∨ j = 6 ∨ j = 7 := by omega
  rcases this with rfl | rfl | rfl | rfl | rfl | rfl | rfl | rfl
  · exact Bx.p0 h
  · exact Bx.p1 h
  · exact Bx.p2 h
  · exact Bx.p3 h
  · exact Bx.p4 h
  · exact Bx.p5 h
  · exact Bx.p6 h
  · exact Bx.p7 h
theorem put8_far {W : World} {g k : Nat} (d0 d1 d2 d3 d4 d5 d6 d7 : Value) (h : k ≠ g) : (put8 W g 0 d0 d1 d2 d3 d4 d5 d6 d7).heap[k]? = W.heap[k]? := by
  unfold put8
  rw [Below.heap_setCell _ _ _ _ h, Below.heap_setCell _ _ _ _ h, Below.heap_setCell _ _ _ _ h, Below.heap_setCell _ _ _ _ h, Below.heap_setCell _ _ _ _ h, Below.heap_setCell _ _ _ _ h, Below.heap_setCell _ _ _ _ h, Below.heap_setCell _ _ _ _ h]
theorem put8_bx {W : World} {g : Nat} {c0 c1 c2 c3 c4 c5 c6 c7 : Value} (h : Bx g c0 c1 c2 c3 c4 c5 c6 c7 W) (d0 d1 d2 d3 d4 d5 d6 d7 : Value) : Bx g d0 d1 d2 d3 d4 d5 d6 d7 (put8 W g 0 d0 d1 d2 d3 d4 d5 d6 d7) := h.setAll d0 d1 d2 d3 d4 d5 d6 d7
theorem put8_below {n : Nat} {w W : World} {g : Nat} (h : Below n w W) (hg : n ≤ g) (d0 d1 d2 d3 d4 d5 d6 d7 : Value) : Below n w (put8 W g 0 d0 d1 d2 d3 d4 d5 d6 d7) :=
  (((((((h.setCell (p := ⟨g, 0, none⟩) hg d0).setCell (p := ⟨g, 1, none⟩) hg d1).setCell (p := ⟨g, 2, none⟩) hg d2).setCell (p := ⟨g, 3, none⟩) hg d3).setCell (p := ⟨g, 4, none⟩) hg d4).setCell (p := ⟨g, 5, none⟩) hg d5).setCell (p := ⟨g, 6, none⟩) hg d6).setCell (p := ⟨g, 7, none⟩) hg d7
/-- Three such blocks. -/
structure Z3 (W5 W : World) (x y z : Nat) : Prop where
  xy : x ≠ y
  xz : x ≠ z
  yz : y ≠ z
  bx : Zx x W
  by_ : Zx y W
  bz : Zx z W
  lx : W5.heap.size ≤ x
  ly : W5.heap.size ≤ y
  lz : W5.heap.size ≤ z
  below : Below W5.heap.size W5 W
theorem newP_zx (w : World) : Zx w.heap.size (newP w) := Bx.made w _ _ _ _ _ _ _ _
theorem newP_same {w : World} {g : Nat} (h : Zx g w) : Zx g (newP w) := h.same (Below.heap_alloc _ _ _ h.lt)
theorem z3_made (W5 : World) : Z3 W5 (newP (newP (newP W5.drew))) W5.heap.size (W5.heap.size + 1) (W5.heap.size + 2) := by
  have h1 : Zx W5.heap.size (newP W5.drew) := newP_zx W5.drew
  have h2 : Zx (W5.heap.size + 1) (newP (newP W5.drew)) := by
    have := newP_zx (newP W5.drew)
    rw [newP_size] at this
    exact this
  have h3 : Zx (W5.heap.size + 2) (newP (newP (newP W5.drew))) := by
    have := newP_zx (newP (newP W5.drew))
    rw [newP_size, newP_size] at this
    exact this
  have b : Below W5.heap.size W5 (newP (newP (newP W5.drew))) := by
    have b1 : Below W5.heap.size W5 (newP W5.drew) := ((Below.refl _ W5).drew).alloc (Nat.le_refl _) _
    have b2 : Below W5.heap.size W5 (newP (newP W5.drew)) := b1.alloc b1.size _
    exact b2.alloc b2.size _
  exact ⟨by omega, by omega, by omega, newP_same (newP_same h1), newP_same h2, h3, Nat.le_refl _, by omega, by omega, b⟩
theorem Z3.swap1 {W5 W : World} {x y z : Nat} (h : Z3 W5 W x y z) : Z3 W5 W y x z := ⟨h.xy.symm, h.yz, h.xz, h.by_, h.bx, h.bz, h.ly, h.lx, h.lz, h.below⟩
theorem Z3.swap2 {W5 W : World} {x y z : Nat} (h : Z3 W5 W x y z) : Z3 W5 W x z y := ⟨h.xz, h.xy, h.yz.symm, h.bx, h.bz, h.by_, h.lx, h.lz, h.ly, h.below⟩
/-- Three blocks that are filled, one behind the other. -/
theorem Z3.fill {W5 W : World} {x y z : Nat} (h : Z3 W5 W x y z) (a0 a1 a2 a3 a4 a5 a6 a7 b0 b1 b2 b3 b4 b5 b6 b7 c0 c1 c2 c3 c4 c5 c6 c7 : Value) :
    Zx y (put8 W x 0 a0 a1 a2 a3 a4 a5 a6 a7) ∧ Zx z (put8 (put8 W x 0 a0 a1 a2 a3 a4 a5 a6 a7) y 0 b0 b1 b2 b3 b4 b5 b6 b7) ∧ Below W5.heap.size W5 (put8 W x 0 a0 a1 a2 a3 a4 a5 a6 a7) ∧ Below W5.heap.size W5 (put8 (put8 W x 0 a0 a1 a2 a3 a4 a5 a6 a7) y 0 b0 b1 b2 b3 b4 b5 b6 b7) ∧
    Below W5.heap.size W5 (put8 (put8 (put8 W x 0 a0 a1 a2 a3 a4 a5 a6 a7) y 0 b0 b1 b2 b3 b4 b5 b6 b7) z 0 c0 c1 c2 c3 c4 c5 c6 c7) ∧
    Bx x a0 a1 a2 a3 a4 a5 a6 a7 (put8 (put8 (put8 W x 0 a0 a1 a2 a3 a4 a5 a6 a7) y 0 b0 b1 b2 b3 b4 b5 b6 b7) z 0 c0 c1 c2 c3 c4 c5 c6 c7) ∧
    Bx y b0 b1 b2 b3 b4 b5 b6 b7 (put8 (put8 (put8 W x 0 a0 a1 a2 a3 a4 a5 a6 a7) y 0 b0 b1 b2 b3 b4 b5 b6 b7) z 0 c0 c1 c2 c3 c4 c5 c6 c7) ∧
    Bx z c0 c1 c2 c3 c4 c5 c6 c7 (put8 (put8 (put8 W x 0 a0 a1 a2 a3 a4 a5 a6 a7) y 0 b0 b1 b2 b3 b4 b5 b6 b7) z 0 c0 c1 c2 c3 c4 c5 c6 c7) := by
  have hy : Zx y (put8 W x 0 a0 a1 a2 a3 a4 a5 a6 a7) := h.by_.same (put8_far _ _ _ _ _ _ _ _ h.xy.symm)
  have hz1 : Zx z (put8 W x 0 a0 a1 a2 a3 a4 a5 a6 a7) := h.bz.same (put8_far _ _ _ _ _ _ _ _ h.xz.symm)
  have hz : Zx z (put8 (put8 W x 0 a0 a1 a2 a3 a4 a5 a6 a7) y 0 b0 b1 b2 b3 b4 b5 b6 b7) := hz1.same (put8_far _ _ _ _ _ _ _ _ h.yz.symm)
  have l1 := put8_below h.below h.lx a0 a1 a2 a3 a4 a5 a6 a7
  have l2 := put8_below l1 h.ly b0 b1 b2 b3 b4 b5 b6 b7
  have l3 := put8_below l2 h.lz c0 c1 c2 c3 c4 c5 c6 c7
  have x1 := put8_bx h.bx a0 a1 a2 a3 a4 a5 a6 a7
  have x2 : Bx x a0 a1 a2 a3 a4 a5 a6 a7 (put8 (put8 W x 0 a0 a1 a2 a3 a4 a5 a6 a7) y 0 b0 b1 b2 b3 b4 b5 b6 b7) := x1.same (put8_far _ _ _ _ _ _ _ _ h.xy)
  have y1 := put8_bx hy b0 b1 b2 b3 b4 b5 b6 b7
  exact ⟨hy, hz, l1, l2, l3, x2.same (put8_far _ _ _ _ _ _ _ _ h.xz), y1.same (put8_far _ _ _ _ _ _ _ _ h.yz), put8_bx hz c0 c1 c2 c3 c4 c5 c6 c7⟩
/-- Three variables that are made with what they hold, one behind the other. -/
theorem bx3_0 (W5 : World) (o2 o3 : Obj) (a0 a1 a2 a3 a4 a5 a6 a7 : Value) : Bx W5.heap.size a0 a1 a2 a3 a4 a5 a6 a7 (((W5.alloc (.cells #[a0, a1, a2, a3, a4, a5, a6, a7] 31)).alloc o2).alloc o3).drew :=
  (((Bx.made W5 a0 a1 a2 a3 a4 a5 a6 a7).below ((Below.refl _ _).alloc (Nat.le_refl _) o2)).below ((Below.refl _ _).alloc (Nat.le_refl _) o3)).drew
theorem bx3_1 (W5 : World) (o1 o3 : Obj) (a0 a1 a2 a3 a4 a5 a6 a7 : Value) : Bx (W5.heap.size + 1) a0 a1 a2 a3 a4 a5 a6 a7 (((W5.alloc o1).alloc (.cells #[a0, a1, a2, a3, a4, a5, a6, a7] 31)).alloc o3).drew :=
  ((Bx.madeAt (w := W5.alloc o1) (by simp) a0 a1 a2 a3 a4 a5 a6 a7).below ((Below.refl _ _).alloc (Nat.le_refl _) o3)).drew
theorem bx3_2 (W5 : World) (o1 o2 : Obj) (a0 a1 a2 a3 a4 a5 a6 a7 : Value) : Bx (W5.heap.size + 1 + 1) a0 a1 a2 a3 a4 a5 a6 a7 (((W5.alloc o1).alloc o2).alloc (.cells #[a0, a1, a2, a3, a4, a5, a6, a7] 31)).drew :=
  (Bx.madeAt (w := (W5.alloc o1).alloc o2) (by simp) a0 a1 a2 a3 a4 a5 a6 a7).drew
theorem below3 (W5 : World) (o1 o2 o3 : Obj) : Below W5.heap.size W5 (((W5.alloc o1).alloc o2).alloc o3).drew :=
  ((((Below.refl _ W5).alloc (Nat.le_refl _) o1).alloc (by simp) o2).alloc (by simp; omega) o3).drew
end Go.Proofs.YtkmopneeafbeaaaDoor.Pt
namespace Go.Proofs.YtkmopneeafbeaaaDoor.Pt
open Go Go.RowKit Go.Joins Kit F0

set_option maxHeartbeats 8000000 in
set_option maxRecDepth 100000 in
theorem partNested_of (hT : TreeOk) (a b c : ByteArray) (opn : Bool) (w : World) (hE : Srch.Env w) :
    Calls Tryd.prog 8 #[.string a, .string b, .string c, .bool opn] w fun e w' => e = .returned (.bool true) ∧ Below w.heap.size w w' := by
  have HE := Lib.hid hE
  have HT := Lib.hid hT
  clear hE hT
  by_cases g : 200 < a.size ∨ 200 < b.size ∨ 200 < c.size
  · have g' : (200 : Int) < (a.size : Int) ∨ ¬ (200 : Int) < (a.size : Int) ∧ ((200 : Int) < (b.size : Int) ∨ ¬ (200 : Int) < (b.size : Int) ∧ (200 : Int) < (c.size : Int)) := by omega
    clear g
    rcases g' with g1 | ⟨g1, g2 | ⟨g2, g3⟩⟩
    all_goals
      go_enter Tryd.func8, Tryd.ntmps8
      go_wp2_with fail
      refine (awake_any HT.out w HE.out).mono ?_
      rintro e w1 ⟨rfl, hb1⟩
      go_wp2
      go_ret
      exact ⟨rfl, hb1⟩
  · have g1 : ¬ (200 : Int) < (a.size : Int) := by omega
    have g2 : ¬ (200 : Int) < (b.size : Int) := by omega
    have g3 : ¬ (200 : Int) < (c.size : Int) := by omega
    have ga : a.size ≤ 200 := by omega
    have gb : b.size ≤ 200 := by omega
    have gc : c.size ≤ 200 := by omega
    clear g
    cases opn
    · go_enter Tryd.func8, Tryd.ntmps8
      go_wp2_with fail
      refine (clean_any a w (by omega)).mono ?_
      rintro e w1 ⟨rfl, hb1⟩
      obtain ⟨CA, hCA⟩ : ∃ CA : ByteArray, CA = ⟨(cleanL a.data.toList).toArray⟩ := ⟨_, rfl⟩
      have HCA := Lib.hid (show CA.data.toList = cleanL a.data.toList by rw [hCA])
      have hcas : CA.size ≤ 200 := by rw [Lib.size_eq, HCA.out, clean_length, ← Lib.size_eq]; omega
      rw [← hCA]
      clear hCA
      have HB1 := Lib.hid hb1
      clear hb1
      go_wp2_with fail
      refine (clean_any b w1 (by omega)).mono ?_
      rintro e w2 ⟨rfl, hb2⟩
      obtain ⟨CB, hCB⟩ : ∃ CB : ByteArray, CB = ⟨(cleanL b.data.toList).toArray⟩ := ⟨_, rfl⟩
      have HCB := Lib.hid (show CB.data.toList = cleanL b.data.toList by rw [hCB])
      have hcbs : CB.size ≤ 200 := by rw [Lib.size_eq, HCB.out, clean_length, ← Lib.size_eq]; omega
      rw [← hCB]
      clear hCB
      have HB2 := Lib.hid (HB1.out.trans (hb2.mono HB1.out.size))
      clear hb2
      go_wp2_with fail
      refine (clean_any c w2 (by omega)).mono ?_
      rintro e w3 ⟨rfl, hb3⟩
      obtain ⟨CC, hCC⟩ : ∃ CC : ByteArray, CC = ⟨(cleanL c.data.toList).toArray⟩ := ⟨_, rfl⟩
      have HCC := Lib.hid (show CC.data.toList = cleanL c.data.toList by rw [hCC])
      have hccs : CC.size ≤ 200 := by rw [Lib.size_eq, HCC.out, clean_length, ← Lib.size_eq]; omega
      rw [← hCC]
      clear hCC
      have HB3 := Lib.hid (HB2.out.trans (hb3.mono HB2.out.size))
      clear hb3
      go_wp2_with fail
      obtain ⟨IN, hI⟩ : ∃ IN : ByteArray, (⟨#[67, 111, 110, 116, 101, 110, 116, 45, 84, 121, 112, 101, 58, 32, 109, 117, 108, 116, 105, 112, 97, 114, 116, 47, 97, 108, 116, 101, 114, 110, 97, 116, 105, 118, 101, 59, 32, 98, 111, 117, 110, 100, 97, 114, 121, 61, 105, 110, 13, 10, 13, 10, 45, 45, 105, 110, 13, 10, 13, 10]⟩ : ByteArray) ++ CA ++ ⟨#[13, 10, 45, 45, 105, 110, 13, 10, 67, 111, 110, 116, 101, 110, 116, 45, 84, 121, 112, 101, 58, 32, 116, 101, 120, 116, 47, 104, 116, 109, 108, 13, 10, 13, 10]⟩ ++ CB ++ ⟨#[13, 10]⟩ ++ ⟨#[45, 45, 105, 110, 45, 45, 13, 10]⟩ = IN := ⟨_, rfl⟩
      obtain ⟨S, hS⟩ : ∃ S : ByteArray, (⟨#[67, 111, 110, 116, 101, 110, 116, 45, 84, 121, 112, 101, 58, 32, 109, 117, 108, 116, 105, 112, 97, 114, 116, 47, 109, 105, 120, 101, 100, 59, 32, 98, 111, 117, 110, 100, 97, 114, 121, 61, 111, 117, 116, 13, 10, 13, 10, 45, 45, 111, 117, 116, 13, 10]⟩ : ByteArray) ++ IN ++ ⟨#[45, 45, 111, 117, 116, 13, 10, 13, 10]⟩ ++ CC ++ ⟨#[13, 10, 45, 45, 111, 117, 116, 45, 45, 13, 10]⟩ = S := ⟨_, rfl⟩
      have HS := Lib.hid (show S.data.toList = nestS (cleanL a.data.toList) (cleanL b.data.toList) (cleanL c.data.toList) (cr ++ li) by
        rw [← hS, ← hI, ← HCA.out, ← HCB.out, ← HCC.out]
        simp [nestS, inAll, inBody, lns, outH, inH, htmlH, ctypeT, mo, lo, mi, li, cr])
      have hss : S.size ≤ 2000 := by
        rw [← hS, ← hI]
        simp only [ByteArray.size_append]
        show 54 + (60 + CA.size + 35 + CB.size + 2 + 8) + 9 + CC.size + 11 ≤ 2000
        omega
      rw [hI, hS]
      clear hS hI
      refine (HT.out S w3 (by omega) (HE.out.next HB3.out)).mono ?_
      rintro e w4 ⟨c0, c1, c2, c3, c4, c5, c6, c7, rfl, hp, hb4⟩
      obtain ⟨T, hT'⟩ : ∃ T, treeL S.data.toList = T := ⟨_, rfl⟩
      rw [hT'] at hp
      obtain ⟨K, X, Y, V, t1, t2, t3, t4, lX, lY, lV⟩ := nest_tree (clean_pure a.data.toList) (clean_pure b.data.toList) (clean_pure c.data.toList) (Or.inr rfl) S.data.toList HS.out.symm T hT'
      have HLX := Lib.hid lX
      have HLY := Lib.hid lY
      have HLV := Lib.hid lV
      have HB4 := Lib.hid (HB3.out.trans (hb4.mono HB3.out.size))
      clear lX lY lV hb4 hT'
      obtain ⟨ap, mp, ak, mk, e, hps, cs, hk1, hk2⟩ := part_cells hp
      clear hp hps
      rw [t1] at hk1 hk2 e
      rw [show ([K, V] : List P).length = 2 from rfl] at e
      injection e with e
      injection e with e
      injection e with e0 e
      injection e with e1 e
      injection e with e2 e
      injection e with e3 e
      injection e with e4 e
      injection e with e5 e
      injection e with e6 e
      injection e with e7 e
      subst e0 e1 e2 e3 e4 e5 e6 e7
      obtain ⟨gk, ok, x0, x1, x2, x3, x4, x5, x6, x7, rfl, hgk, r0, -, -, -, -, -, -, r7, hK⟩ := kid_cells hk1 hk2 0 (by simp)
      obtain ⟨gv, ov, v0, v1, v2, v3, v4, v5, v6, v7, ev, hgv, z0, z1, z2, z3, z4, z5, z6, z7, hV⟩ := kid_cells hk1 hk2 1 (by simp)
      injection ev with ev
      injection ev with ev1 ev2
      subst ev1 ev2
      clear hk1 hk2
      rw [show ([K, V] : List P)[0] = K from rfl] at hK
      rw [show ([K, V] : List P)[1] = V from rfl] at hV
      obtain ⟨ap2, mp2, ak2, mk2, e, -, cs2, hk1, hk2⟩ := part_cells hK
      rw [t2, t3] at e
      rw [show ([X, Y] : List P).length = 2 from rfl] at e
      rw [t2] at hk1 hk2
      clear hK
      injection e with e
      injection e with e
      injection e with e0 e
      injection e with e1 e
      injection e with e2 e
      injection e with e3 e
      injection e with e4 e
      injection e with e5 e
      injection e with e6 e
      injection e with e7 e
      subst e0 e1 e2 e3 e4 e5 e6 e7
      obtain ⟨gx, ox, a0, a1, a2, a3, a4, a5, a6, a7, rfl, hgx, s0, s1, s2, s3, s4, s5, s6, s7, hX⟩ := kid_cells hk1 hk2 0 (by simp)
      obtain ⟨gy, oy, b0, b1, b2, b3, b4, b5, b6, b7, ey, hgy, y0, y1, y2, y3, y4, y5, y6, y7, hY⟩ := kid_cells hk1 hk2 1 (by simp)
      injection ey with ey
      injection ey with ey1 ey2
      subst ey1 ey2
      clear hk1 hk2
      rw [show ([X, Y] : List P)[0] = X from rfl] at hX
      rw [show ([X, Y] : List P)[1] = Y from rfl] at hY
      obtain ⟨Xap, Xmp, Xak, Xmk, e, -, -, -, -⟩ := part_cells hX
      clear hX
      injection e with e
      injection e with e
      injection e with Xq0 e
      injection e with Xq1 e
      injection e with Xq2 e
      injection e with Xq3 e
      injection e with Xq4 e
      injection e with Xq5 e
      injection e with Xq6 e
      injection e with Xq7 e
      subst Xq0 Xq1 Xq2 Xq3 Xq4 Xq5 Xq6 Xq7
      obtain ⟨Yap, Ymp, Yak, Ymk, e, -, -, -, -⟩ := part_cells hY
      clear hY
      injection e with e
      injection e with e
      injection e with Yq0 e
      injection e with Yq1 e
      injection e with Yq2 e
      injection e with Yq3 e
      injection e with Yq4 e
      injection e with Yq5 e
      injection e with Yq6 e
      injection e with Yq7 e
      subst Yq0 Yq1 Yq2 Yq3 Yq4 Yq5 Yq6 Yq7
      obtain ⟨Vap, Vmp, Vak, Vmk, e, -, -, -, -⟩ := part_cells hV
      clear hV
      injection e with e
      injection e with e
      injection e with Vq0 e
      injection e with Vq1 e
      injection e with Vq2 e
      injection e with Vq3 e
      injection e with Vq4 e
      injection e with Vq5 e
      injection e with Vq6 e
      injection e with Vq7 e
      subst Vq0 Vq1 Vq2 Vq3 Vq4 Vq5 Vq6 Vq7
      rw [t4] at y0
      have HX2 : Hid (X.enc = bit7 ∧ X.fm ≤ X.to ∧ X.to ≤ S.size ∧ contL S.data.toList bit7 X.fm X.to = CA.data.toList) := Lib.hid ⟨HLX.out.2.1, HLX.out.2.2.1, by have := HLX.out.2.2.2.1; rwa [← Lib.size_eq] at this, by rw [HCA.out, ← HLX.out.2.2.2.2]; unfold contL; rw [if_neg (by decide), if_neg (by decide)]⟩
      have HY2 : Hid (Y.enc = bit7 ∧ Y.fm ≤ Y.to ∧ Y.to ≤ S.size ∧ contL S.data.toList bit7 Y.fm Y.to = CB.data.toList) := Lib.hid ⟨HLY.out.2.1, HLY.out.2.2.1, by have := HLY.out.2.2.2.1; rwa [← Lib.size_eq] at this, by rw [HCB.out, ← HLY.out.2.2.2.2]; unfold contL; rw [if_neg (by decide), if_neg (by decide)]⟩
      have HV2 : Hid (V.enc = bit7 ∧ V.fm ≤ V.to ∧ V.to ≤ S.size ∧ contL S.data.toList bit7 V.fm V.to = CC.data.toList) := Lib.hid ⟨HLV.out.2.1, HLV.out.2.2.1, by have := HLV.out.2.2.2.1; rwa [← Lib.size_eq] at this, by rw [HCC.out, ← HLV.out.2.2.2.2]; unfold contL; rw [if_neg (by decide), if_neg (by decide)]⟩
      rw [HX2.out.1] at s2
      rw [HY2.out.1] at y2
      rw [HV2.out.1] at z2
      obtain ⟨Xf, hXf⟩ : ∃ x, X.fm = x := ⟨_, rfl⟩
      obtain ⟨Xt, hXt⟩ : ∃ x, X.to = x := ⟨_, rfl⟩
      obtain ⟨Yf, hYf⟩ : ∃ x, Y.fm = x := ⟨_, rfl⟩
      obtain ⟨Yt, hYt⟩ : ∃ x, Y.to = x := ⟨_, rfl⟩
      obtain ⟨Vf, hVf⟩ : ∃ x, V.fm = x := ⟨_, rfl⟩
      obtain ⟨Vt, hVt⟩ : ∃ x, V.to = x := ⟨_, rfl⟩
      rw [hXf, hXt] at HX2
      rw [hYf, hYt] at HY2
      rw [hVf, hVt] at HV2
      rw [hXf] at s5
      rw [hXt] at s6
      rw [hYf] at y5
      rw [hYt] at y6
      rw [hVf] at z5
      rw [hVt] at z6
      clear hXf hXt hYf hYt hVf hVt HLX HLY HLV t1 t2 t3 t4
      unfold sV at r0 s0 s2 y0 y2 z0 z2 ⊢
      unfold altT at r0
      unfold htmlT at y0
      unfold bit7 at s2 y2 z2
      simp only [Nat.zero_mul, Nat.add_zero, Nat.one_mul] at r0 r7 s0 s1 s2 s3 s4 s5 s6 s7 y0 y1 y2 y3 y4 y5 y6 y7 z0 z1 z2 z3 z4 z5 z6 z7
      obtain ⟨W5, hW5⟩ : ∃ W5, w4.alloc (.cells #[.string ⟨T.ty.toArray⟩, .slice ap T.ps.length mp, .string ⟨T.enc.toArray⟩, .bool T.att, .int .i64 (T.hd : Int), .int .i64 (T.fm : Int), .int .i64 (T.to : Int), .slice (some ⟨gk, ok, none⟩) 2 mk] 31) = W5 := ⟨_, rfl⟩
      have hA := Bx.made w4 (.string ⟨T.ty.toArray⟩) (.slice ap T.ps.length mp) (.string ⟨T.enc.toArray⟩) (.bool T.att) (.int .i64 (T.hd : Int)) (.int .i64 (T.fm : Int)) (.int .i64 (T.to : Int)) (.slice (some ⟨gk, ok, none⟩) 2 mk)
      have hb5 : Below w4.heap.size w4 W5 := by rw [← hW5]; exact (Below.refl _ w4).alloc (Nat.le_refl _) _
      rw [hW5] at hA
      have r0 := (hb5.cell (p := ⟨gk, ok, none⟩) hgk).trans r0
      have r7 := (hb5.cell (p := ⟨gk, ok + 7, none⟩) hgk).trans r7
      have s0 := (hb5.cell (p := ⟨gx, ox, none⟩) hgx).trans s0
      have s1 := (hb5.cell (p := ⟨gx, ox + 1, none⟩) hgx).trans s1
      have s2 := (hb5.cell (p := ⟨gx, ox + 2, none⟩) hgx).trans s2
      have s3 := (hb5.cell (p := ⟨gx, ox + 3, none⟩) hgx).trans s3
      have s4 := (hb5.cell (p := ⟨gx, ox + 4, none⟩) hgx).trans s4
      have s5 := (hb5.cell (p := ⟨gx, ox + 5, none⟩) hgx).trans s5
      have s6 := (hb5.cell (p := ⟨gx, ox + 6, none⟩) hgx).trans s6
      have s7 := (hb5.cell (p := ⟨gx, ox + 7, none⟩) hgx).trans s7
      have y0 := (hb5.cell (p := ⟨gx, ox + 8, none⟩) hgx).trans y0
      have y1 := (hb5.cell (p := ⟨gx, ox + 8 + 1, none⟩) hgx).trans y1
      have y2 := (hb5.cell (p := ⟨gx, ox + 8 + 2, none⟩) hgx).trans y2
      have y3 := (hb5.cell (p := ⟨gx, ox + 8 + 3, none⟩) hgx).trans y3
      have y4 := (hb5.cell (p := ⟨gx, ox + 8 + 4, none⟩) hgx).trans y4
      have y5 := (hb5.cell (p := ⟨gx, ox + 8 + 5, none⟩) hgx).trans y5
      have y6 := (hb5.cell (p := ⟨gx, ox + 8 + 6, none⟩) hgx).trans y6
      have y7 := (hb5.cell (p := ⟨gx, ox + 8 + 7, none⟩) hgx).trans y7
      have z0 := (hb5.cell (p := ⟨gk, ok + 8, none⟩) hgk).trans z0
      have z1 := (hb5.cell (p := ⟨gk, ok + 8 + 1, none⟩) hgk).trans z1
      have z2 := (hb5.cell (p := ⟨gk, ok + 8 + 2, none⟩) hgk).trans z2
      have z3 := (hb5.cell (p := ⟨gk, ok + 8 + 3, none⟩) hgk).trans z3
      have z4 := (hb5.cell (p := ⟨gk, ok + 8 + 4, none⟩) hgk).trans z4
      have z5 := (hb5.cell (p := ⟨gk, ok + 8 + 5, none⟩) hgk).trans z5
      have z6 := (hb5.cell (p := ⟨gk, ok + 8 + 6, none⟩) hgk).trans z6
      have z7 := (hb5.cell (p := ⟨gk, ok + 8 + 7, none⟩) hgk).trans z7
      have HB5 := Lib.hid (HB4.out.trans (hb5.mono HB4.out.size))
      have HW5 := Lib.hid hW5
      obtain ⟨G, hG⟩ : ∃ G, w4.heap.size = G := ⟨_, rfl⟩
      rw [hG] at hA
      have p7 := hA.p7
      have HA := Lib.hid hA
      have hsz5 := hb5.size
      clear hW5 hA hb5
      go_upto_region 12 with fail
      rw [HW5.out]
      (try rw [hG])
      clear hG
      go_upto_region 14 with fail
      have hlG : Hid (G < W5.heap.size) := Lib.hid HA.out.lt
      have hlgk : Hid (gk < W5.heap.size) := Lib.hid (Nat.lt_of_lt_of_le hgk hsz5)
      have hlgx : Hid (gx < W5.heap.size) := Lib.hid (Nat.lt_of_lt_of_le hgx hsz5)
      have Hr7 := Lib.hid r7
      have Hs0 := Lib.hid s0
      have Hs1 := Lib.hid s1
      have Hs2 := Lib.hid s2
      have Hs3 := Lib.hid s3
      have Hs4 := Lib.hid s4
      have Hs5 := Lib.hid s5
      have Hs6 := Lib.hid s6
      have Hs7 := Lib.hid s7
      have Hy0 := Lib.hid y0
      have Hy1 := Lib.hid y1
      have Hy2 := Lib.hid y2
      have Hy3 := Lib.hid y3
      have Hy4 := Lib.hid y4
      have Hy5 := Lib.hid y5
      have Hy6 := Lib.hid y6
      have Hy7 := Lib.hid y7
      have Hz0 := Lib.hid z0
      have Hz1 := Lib.hid z1
      have Hz2 := Lib.hid z2
      have Hz3 := Lib.hid z3
      have Hz4 := Lib.hid z4
      have Hz5 := Lib.hid z5
      have Hz6 := Lib.hid z6
      have Hz7 := Lib.hid z7
      clear r0 r7 p7 s0 s1 s2 s3 s4 s5 s6 s7 y0 y1 y2 y3 y4 y5 y6 y7 z0 z1 z2 z3 z4 z5 z6 z7
      have HSOF : Hid (∀ w' : World, Below W5.heap.size W5 w' → (Below W5.heap.size W5 w' ∧ w'.cell? ⟨G, 7, none⟩ = some (.slice (some ⟨gk, ok, none⟩) 2 mk) ∧ w'.cell? ⟨gk, ok + 7, none⟩ = some (.slice (some ⟨gx, ox, none⟩) 2 mk2) ∧ w'.cell? ⟨gx, ox, none⟩ = some (.string ⟨X.ty.toArray⟩) ∧ w'.cell? ⟨gx, ox + 1, none⟩ = some (.slice Xap X.ps.length Xmp) ∧ w'.cell? ⟨gx, ox + 2, none⟩ = some (.string ⟨#[55, 98, 105, 116]⟩) ∧ w'.cell? ⟨gx, ox + 3, none⟩ = some (.bool X.att) ∧ w'.cell? ⟨gx, ox + 4, none⟩ = some (.int .i64 (X.hd : Int)) ∧ w'.cell? ⟨gx, ox + 5, none⟩ = some (.int .i64 (Xf : Int)) ∧ w'.cell? ⟨gx, ox + 6, none⟩ = some (.int .i64 (Xt : Int)) ∧ w'.cell? ⟨gx, ox + 7, none⟩ = some (.slice Xak X.kids.length Xmk) ∧ w'.cell? ⟨gx, ox + 8, none⟩ = some (.string ⟨#[116, 101, 120, 116, 47, 104, 116, 109, 108]⟩) ∧ w'.cell? ⟨gx, ox + 8 + 1, none⟩ = some (.slice Yap Y.ps.length Ymp) ∧ w'.cell? ⟨gx, ox + 8 + 2, none⟩ = some (.string ⟨#[55, 98, 105, 116]⟩) ∧ w'.cell? ⟨gx, ox + 8 + 3, none⟩ = some (.bool Y.att) ∧ w'.cell? ⟨gx, ox + 8 + 4, none⟩ = some (.int .i64 (Y.hd : Int)) ∧ w'.cell? ⟨gx, ox + 8 + 5, none⟩ = some (.int .i64 (Yf : Int)) ∧ w'.cell? ⟨gx, ox + 8 + 6, none⟩ = some (.int .i64 (Yt : Int)) ∧ w'.cell? ⟨gx, ox + 8 + 7, none⟩ = some (.slice Yak Y.kids.length Ymk) ∧ w'.cell? ⟨gk, ok + 8, none⟩ = some (.string ⟨V.ty.toArray⟩) ∧ w'.cell? ⟨gk, ok + 8 + 1, none⟩ = some (.slice Vap V.ps.length Vmp) ∧ w'.cell? ⟨gk, ok + 8 + 2, none⟩ = some (.string ⟨#[55, 98, 105, 116]⟩) ∧ w'.cell? ⟨gk, ok + 8 + 3, none⟩ = some (.bool V.att) ∧ w'.cell? ⟨gk, ok + 8 + 4, none⟩ = some (.int .i64 (V.hd : Int)) ∧ w'.cell? ⟨gk, ok + 8 + 5, none⟩ = some (.int .i64 (Vf : Int)) ∧ w'.cell? ⟨gk, ok + 8 + 6, none⟩ = some (.int .i64 (Vt : Int)) ∧ w'.cell? ⟨gk, ok + 8 + 7, none⟩ = some (.slice Vak V.kids.length Vmk))) := Lib.hid (fun w' h => ⟨h, (h.cell (p := ⟨G, 7, none⟩) hlG.out).trans HA.out.p7, (h.cell (p := ⟨gk, ok + 7, none⟩) hlgk.out).trans Hr7.out, (h.cell (p := ⟨gx, ox, none⟩) hlgx.out).trans Hs0.out, (h.cell (p := ⟨gx, ox + 1, none⟩) hlgx.out).trans Hs1.out, (h.cell (p := ⟨gx, ox + 2, none⟩) hlgx.out).trans Hs2.out, (h.cell (p := ⟨gx, ox + 3, none⟩) hlgx.out).trans Hs3.out, (h.cell (p := ⟨gx, ox + 4, none⟩) hlgx.out).trans Hs4.out, (h.cell (p := ⟨gx, ox + 5, none⟩) hlgx.out).trans Hs5.out, (h.cell (p := ⟨gx, ox + 6, none⟩) hlgx.out).trans Hs6.out, (h.cell (p := ⟨gx, ox + 7, none⟩) hlgx.out).trans Hs7.out, (h.cell (p := ⟨gx, ox + 8, none⟩) hlgx.out).trans Hy0.out, (h.cell (p := ⟨gx, ox + 8 + 1, none⟩) hlgx.out).trans Hy1.out, (h.cell (p := ⟨gx, ox + 8 + 2, none⟩) hlgx.out).trans Hy2.out, (h.cell (p := ⟨gx, ox + 8 + 3, none⟩) hlgx.out).trans Hy3.out, (h.cell (p := ⟨gx, ox + 8 + 4, none⟩) hlgx.out).trans Hy4.out, (h.cell (p := ⟨gx, ox + 8 + 5, none⟩) hlgx.out).trans Hy5.out, (h.cell (p := ⟨gx, ox + 8 + 6, none⟩) hlgx.out).trans Hy6.out, (h.cell (p := ⟨gx, ox + 8 + 7, none⟩) hlgx.out).trans Hy7.out, (h.cell (p := ⟨gk, ok + 8, none⟩) hlgk.out).trans Hz0.out, (h.cell (p := ⟨gk, ok + 8 + 1, none⟩) hlgk.out).trans Hz1.out, (h.cell (p := ⟨gk, ok + 8 + 2, none⟩) hlgk.out).trans Hz2.out, (h.cell (p := ⟨gk, ok + 8 + 3, none⟩) hlgk.out).trans Hz3.out, (h.cell (p := ⟨gk, ok + 8 + 4, none⟩) hlgk.out).trans Hz4.out, (h.cell (p := ⟨gk, ok + 8 + 5, none⟩) hlgk.out).trans Hz5.out, (h.cell (p := ⟨gk, ok + 8 + 6, none⟩) hlgk.out).trans Hz6.out, (h.cell (p := ⟨gk, ok + 8 + 7, none⟩) hlgk.out).trans Hz7.out⟩)
      have HSD : Hid (Below W5.heap.size W5 W5.drew ∧ W5.drew.cell? ⟨G, 7, none⟩ = some (.slice (some ⟨gk, ok, none⟩) 2 mk) ∧ W5.drew.cell? ⟨gk, ok + 7, none⟩ = some (.slice (some ⟨gx, ox, none⟩) 2 mk2) ∧ W5.drew.cell? ⟨gx, ox, none⟩ = some (.string ⟨X.ty.toArray⟩) ∧ W5.drew.cell? ⟨gx, ox + 1, none⟩ = some (.slice Xap X.ps.length Xmp) ∧ W5.drew.cell? ⟨gx, ox + 2, none⟩ = some (.string ⟨#[55, 98, 105, 116]⟩) ∧ W5.drew.cell? ⟨gx, ox + 3, none⟩ = some (.bool X.att) ∧ W5.drew.cell? ⟨gx, ox + 4, none⟩ = some (.int .i64 (X.hd : Int)) ∧ W5.drew.cell? ⟨gx, ox + 5, none⟩ = some (.int .i64 (Xf : Int)) ∧ W5.drew.cell? ⟨gx, ox + 6, none⟩ = some (.int .i64 (Xt : Int)) ∧ W5.drew.cell? ⟨gx, ox + 7, none⟩ = some (.slice Xak X.kids.length Xmk) ∧ W5.drew.cell? ⟨gx, ox + 8, none⟩ = some (.string ⟨#[116, 101, 120, 116, 47, 104, 116, 109, 108]⟩) ∧ W5.drew.cell? ⟨gx, ox + 8 + 1, none⟩ = some (.slice Yap Y.ps.length Ymp) ∧ W5.drew.cell? ⟨gx, ox + 8 + 2, none⟩ = some (.string ⟨#[55, 98, 105, 116]⟩) ∧ W5.drew.cell? ⟨gx, ox + 8 + 3, none⟩ = some (.bool Y.att) ∧ W5.drew.cell? ⟨gx, ox + 8 + 4, none⟩ = some (.int .i64 (Y.hd : Int)) ∧ W5.drew.cell? ⟨gx, ox + 8 + 5, none⟩ = some (.int .i64 (Yf : Int)) ∧ W5.drew.cell? ⟨gx, ox + 8 + 6, none⟩ = some (.int .i64 (Yt : Int)) ∧ W5.drew.cell? ⟨gx, ox + 8 + 7, none⟩ = some (.slice Yak Y.kids.length Ymk) ∧ W5.drew.cell? ⟨gk, ok + 8, none⟩ = some (.string ⟨V.ty.toArray⟩) ∧ W5.drew.cell? ⟨gk, ok + 8 + 1, none⟩ = some (.slice Vap V.ps.length Vmp) ∧ W5.drew.cell? ⟨gk, ok + 8 + 2, none⟩ = some (.string ⟨#[55, 98, 105, 116]⟩) ∧ W5.drew.cell? ⟨gk, ok + 8 + 3, none⟩ = some (.bool V.att) ∧ W5.drew.cell? ⟨gk, ok + 8 + 4, none⟩ = some (.int .i64 (V.hd : Int)) ∧ W5.drew.cell? ⟨gk, ok + 8 + 5, none⟩ = some (.int .i64 (Vf : Int)) ∧ W5.drew.cell? ⟨gk, ok + 8 + 6, none⟩ = some (.int .i64 (Vt : Int)) ∧ W5.drew.cell? ⟨gk, ok + 8 + 7, none⟩ = some (.slice Vak V.kids.length Vmk)) := Lib.hid (HSOF.out _ ((Below.refl _ W5).drew))
      have HS1 : Hid (∀ (w2 : World) (o : Obj), (Below W5.heap.size W5 w2 ∧ w2.cell? ⟨G, 7, none⟩ = some (.slice (some ⟨gk, ok, none⟩) 2 mk) ∧ w2.cell? ⟨gk, ok + 7, none⟩ = some (.slice (some ⟨gx, ox, none⟩) 2 mk2) ∧ w2.cell? ⟨gx, ox, none⟩ = some (.string ⟨X.ty.toArray⟩) ∧ w2.cell? ⟨gx, ox + 1, none⟩ = some (.slice Xap X.ps.length Xmp) ∧ w2.cell? ⟨gx, ox + 2, none⟩ = some (.string ⟨#[55, 98, 105, 116]⟩) ∧ w2.cell? ⟨gx, ox + 3, none⟩ = some (.bool X.att) ∧ w2.cell? ⟨gx, ox + 4, none⟩ = some (.int .i64 (X.hd : Int)) ∧ w2.cell? ⟨gx, ox + 5, none⟩ = some (.int .i64 (Xf : Int)) ∧ w2.cell? ⟨gx, ox + 6, none⟩ = some (.int .i64 (Xt : Int)) ∧ w2.cell? ⟨gx, ox + 7, none⟩ = some (.slice Xak X.kids.length Xmk) ∧ w2.cell? ⟨gx, ox + 8, none⟩ = some (.string ⟨#[116, 101, 120, 116, 47, 104, 116, 109, 108]⟩) ∧ w2.cell? ⟨gx, ox + 8 + 1, none⟩ = some (.slice Yap Y.ps.length Ymp) ∧ w2.cell? ⟨gx, ox + 8 + 2, none⟩ = some (.string ⟨#[55, 98, 105, 116]⟩) ∧ w2.cell? ⟨gx, ox + 8 + 3, none⟩ = some (.bool Y.att) ∧ w2.cell? ⟨gx, ox + 8 + 4, none⟩ = some (.int .i64 (Y.hd : Int)) ∧ w2.cell? ⟨gx, ox + 8 + 5, none⟩ = some (.int .i64 (Yf : Int)) ∧ w2.cell? ⟨gx, ox + 8 + 6, none⟩ = some (.int .i64 (Yt : Int)) ∧ w2.cell? ⟨gx, ox + 8 + 7, none⟩ = some (.slice Yak Y.kids.length Ymk) ∧ w2.cell? ⟨gk, ok + 8, none⟩ = some (.string ⟨V.ty.toArray⟩) ∧ w2.cell? ⟨gk, ok + 8 + 1, none⟩ = some (.slice Vap V.ps.length Vmp) ∧ w2.cell? ⟨gk, ok + 8 + 2, none⟩ = some (.string ⟨#[55, 98, 105, 116]⟩) ∧ w2.cell? ⟨gk, ok + 8 + 3, none⟩ = some (.bool V.att) ∧ w2.cell? ⟨gk, ok + 8 + 4, none⟩ = some (.int .i64 (V.hd : Int)) ∧ w2.cell? ⟨gk, ok + 8 + 5, none⟩ = some (.int .i64 (Vf : Int)) ∧ w2.cell? ⟨gk, ok + 8 + 6, none⟩ = some (.int .i64 (Vt : Int)) ∧ w2.cell? ⟨gk, ok + 8 + 7, none⟩ = some (.slice Vak V.kids.length Vmk)) → (Below W5.heap.size W5 (World.alloc w2 o) ∧ (World.alloc w2 o).cell? ⟨G, 7, none⟩ = some (.slice (some ⟨gk, ok, none⟩) 2 mk) ∧ (World.alloc w2 o).cell? ⟨gk, ok + 7, none⟩ = some (.slice (some ⟨gx, ox, none⟩) 2 mk2) ∧ (World.alloc w2 o).cell? ⟨gx, ox, none⟩ = some (.string ⟨X.ty.toArray⟩) ∧ (World.alloc w2 o).cell? ⟨gx, ox + 1, none⟩ = some (.slice Xap X.ps.length Xmp) ∧ (World.alloc w2 o).cell? ⟨gx, ox + 2, none⟩ = some (.string ⟨#[55, 98, 105, 116]⟩) ∧ (World.alloc w2 o).cell? ⟨gx, ox + 3, none⟩ = some (.bool X.att) ∧ (World.alloc w2 o).cell? ⟨gx, ox + 4, none⟩ = some (.int .i64 (X.hd : Int)) ∧ (World.alloc w2 o).cell? ⟨gx, ox + 5, none⟩ = some (.int .i64 (Xf : Int)) ∧ (World.alloc w2 o).cell? ⟨gx, ox + 6, none⟩ = some (.int .i64 (Xt : Int)) ∧ (World.alloc w2 o).cell? ⟨gx, ox + 7, none⟩ = some (.slice Xak X.kids.length Xmk) ∧ (World.alloc w2 o).cell? ⟨gx, ox + 8, none⟩ = some (.string ⟨#[116, 101, 120, 116, 47, 104, 116, 109, 108]⟩) ∧ (World.alloc w2 o).cell? ⟨gx, ox + 8 + 1, none⟩ = some (.slice Yap Y.ps.length Ymp) ∧ (World.alloc w2 o).cell? ⟨gx, ox + 8 + 2, none⟩ = some (.string ⟨#[55, 98, 105, 116]⟩) ∧ (World.alloc w2 o).cell? ⟨gx, ox + 8 + 3, none⟩ = some (.bool Y.att) ∧ (World.alloc w2 o).cell? ⟨gx, ox + 8 + 4, none⟩ = some (.int .i64 (Y.hd : Int)) ∧ (World.alloc w2 o).cell? ⟨gx, ox + 8 + 5, none⟩ = some (.int .i64 (Yf : Int)) ∧ (World.alloc w2 o).cell? ⟨gx, ox + 8 + 6, none⟩ = some (.int .i64 (Yt : Int)) ∧ (World.alloc w2 o).cell? ⟨gx, ox + 8 + 7, none⟩ = some (.slice Yak Y.kids.length Ymk) ∧ (World.alloc w2 o).cell? ⟨gk, ok + 8, none⟩ = some (.string ⟨V.ty.toArray⟩) ∧ (World.alloc w2 o).cell? ⟨gk, ok + 8 + 1, none⟩ = some (.slice Vap V.ps.length Vmp) ∧ (World.alloc w2 o).cell? ⟨gk, ok + 8 + 2, none⟩ = some (.string ⟨#[55, 98, 105, 116]⟩) ∧ (World.alloc w2 o).cell? ⟨gk, ok + 8 + 3, none⟩ = some (.bool V.att) ∧ (World.alloc w2 o).cell? ⟨gk, ok + 8 + 4, none⟩ = some (.int .i64 (V.hd : Int)) ∧ (World.alloc w2 o).cell? ⟨gk, ok + 8 + 5, none⟩ = some (.int .i64 (Vf : Int)) ∧ (World.alloc w2 o).cell? ⟨gk, ok + 8 + 6, none⟩ = some (.int .i64 (Vt : Int)) ∧ (World.alloc w2 o).cell? ⟨gk, ok + 8 + 7, none⟩ = some (.slice Vak V.kids.length Vmk))) := Lib.hid (fun w2 o h => HSOF.out _ (h.1.alloc h.1.size _))
      have HS4 : Hid (∀ (o : Obj), (Below W5.heap.size W5 (World.drew (World.alloc W5 o)) ∧ (World.drew (World.alloc W5 o)).cell? ⟨G, 7, none⟩ = some (.slice (some ⟨gk, ok, none⟩) 2 mk) ∧ (World.drew (World.alloc W5 o)).cell? ⟨gk, ok + 7, none⟩ = some (.slice (some ⟨gx, ox, none⟩) 2 mk2) ∧ (World.drew (World.alloc W5 o)).cell? ⟨gx, ox, none⟩ = some (.string ⟨X.ty.toArray⟩) ∧ (World.drew (World.alloc W5 o)).cell? ⟨gx, ox + 1, none⟩ = some (.slice Xap X.ps.length Xmp) ∧ (World.drew (World.alloc W5 o)).cell? ⟨gx, ox + 2, none⟩ = some (.string ⟨#[55, 98, 105, 116]⟩) ∧ (World.drew (World.alloc W5 o)).cell? ⟨gx, ox + 3, none⟩ = some (.bool X.att) ∧ (World.drew (World.alloc W5 o)).cell? ⟨gx, ox + 4, none⟩ = some (.int .i64 (X.hd : Int)) ∧ (World.drew (World.alloc W5 o)).cell? ⟨gx, ox + 5, none⟩ = some (.int .i64 (Xf : Int)) ∧ (World.drew (World.alloc W5 o)).cell? ⟨gx, ox + 6, none⟩ = some (.int .i64 (Xt : Int)) ∧ (World.drew (World.alloc W5 o)).cell? ⟨gx, ox + 7, none⟩ = some (.slice Xak X.kids.length Xmk) ∧ (World.drew (World.alloc W5 o)).cell? ⟨gx, ox + 8, none⟩ = some (.string ⟨#[116, 101, 120, 116, 47, 104, 116, 109, 108]⟩) ∧ (World.drew (World.alloc W5 o)).cell? ⟨gx, ox + 8 + 1, none⟩ = some (.slice Yap Y.ps.length Ymp) ∧ (World.drew (World.alloc W5 o)).cell? ⟨gx, ox + 8 + 2, none⟩ = some (.string ⟨#[55, 98, 105, 116]⟩) ∧ (World.drew (World.alloc W5 o)).cell? ⟨gx, ox + 8 + 3, none⟩ = some (.bool Y.att) ∧ (World.drew (World.alloc W5 o)).cell? ⟨gx, ox + 8 + 4, none⟩ = some (.int .i64 (Y.hd : Int)) ∧ (World.drew (World.alloc W5 o)).cell? ⟨gx, ox + 8 + 5, none⟩ = some (.int .i64 (Yf : Int)) ∧ (World.drew (World.alloc W5 o)).cell? ⟨gx, ox + 8 + 6, none⟩ = some (.int .i64 (Yt : Int)) ∧ (World.drew (World.alloc W5 o)).cell? ⟨gx, ox + 8 + 7, none⟩ = some (.slice Yak Y.kids.length Ymk) ∧ (World.drew (World.alloc W5 o)).cell? ⟨gk, ok + 8, none⟩ = some (.string ⟨V.ty.toArray⟩) ∧ (World.drew (World.alloc W5 o)).cell? ⟨gk, ok + 8 + 1, none⟩ = some (.slice Vap V.ps.length Vmp) ∧ (World.drew (World.alloc W5 o)).cell? ⟨gk, ok + 8 + 2, none⟩ = some (.string ⟨#[55, 98, 105, 116]⟩) ∧ (World.drew (World.alloc W5 o)).cell? ⟨gk, ok + 8 + 3, none⟩ = some (.bool V.att) ∧ (World.drew (World.alloc W5 o)).cell? ⟨gk, ok + 8 + 4, none⟩ = some (.int .i64 (V.hd : Int)) ∧ (World.drew (World.alloc W5 o)).cell? ⟨gk, ok + 8 + 5, none⟩ = some (.int .i64 (Vf : Int)) ∧ (World.drew (World.alloc W5 o)).cell? ⟨gk, ok + 8 + 6, none⟩ = some (.int .i64 (Vt : Int)) ∧ (World.drew (World.alloc W5 o)).cell? ⟨gk, ok + 8 + 7, none⟩ = some (.slice Vak V.kids.length Vmk))) := Lib.hid (fun o => HSOF.out _ (((Below.refl _ W5).alloc (Nat.le_refl _) _).drew))
      have HS5 : Hid (∀ (o o2 : Obj), (Below W5.heap.size W5 (World.drew (World.alloc (World.alloc W5 o) o2)) ∧ (World.drew (World.alloc (World.alloc W5 o) o2)).cell? ⟨G, 7, none⟩ = some (.slice (some ⟨gk, ok, none⟩) 2 mk) ∧ (World.drew (World.alloc (World.alloc W5 o) o2)).cell? ⟨gk, ok + 7, none⟩ = some (.slice (some ⟨gx, ox, none⟩) 2 mk2) ∧ (World.drew (World.alloc (World.alloc W5 o) o2)).cell? ⟨gx, ox, none⟩ = some (.string ⟨X.ty.toArray⟩) ∧ (World.drew (World.alloc (World.alloc W5 o) o2)).cell? ⟨gx, ox + 1, none⟩ = some (.slice Xap X.ps.length Xmp) ∧ (World.drew (World.alloc (World.alloc W5 o) o2)).cell? ⟨gx, ox + 2, none⟩ = some (.string ⟨#[55, 98, 105, 116]⟩) ∧ (World.drew (World.alloc (World.alloc W5 o) o2)).cell? ⟨gx, ox + 3, none⟩ = some (.bool X.att) ∧ (World.drew (World.alloc (World.alloc W5 o) o2)).cell? ⟨gx, ox + 4, none⟩ = some (.int .i64 (X.hd : Int)) ∧ (World.drew (World.alloc (World.alloc W5 o) o2)).cell? ⟨gx, ox + 5, none⟩ = some (.int .i64 (Xf : Int)) ∧ (World.drew (World.alloc (World.alloc W5 o) o2)).cell? ⟨gx, ox + 6, none⟩ = some (.int .i64 (Xt : Int)) ∧ (World.drew (World.alloc (World.alloc W5 o) o2)).cell? ⟨gx, ox + 7, none⟩ = some (.slice Xak X.kids.length Xmk) ∧ (World.drew (World.alloc (World.alloc W5 o) o2)).cell? ⟨gx, ox + 8, none⟩ = some (.string ⟨#[116, 101, 120, 116, 47, 104, 116, 109, 108]⟩) ∧ (World.drew (World.alloc (World.alloc W5 o) o2)).cell? ⟨gx, ox + 8 + 1, none⟩ = some (.slice Yap Y.ps.length Ymp) ∧ (World.drew (World.alloc (World.alloc W5 o) o2)).cell? ⟨gx, ox + 8 + 2, none⟩ = some (.string ⟨#[55, 98, 105, 116]⟩) ∧ (World.drew (World.alloc (World.alloc W5 o) o2)).cell? ⟨gx, ox + 8 + 3, none⟩ = some (.bool Y.att) ∧ (World.drew (World.alloc (World.alloc W5 o) o2)).cell? ⟨gx, ox + 8 + 4, none⟩ = some (.int .i64 (Y.hd : Int)) ∧ (World.drew (World.alloc (World.alloc W5 o) o2)).cell? ⟨gx, ox + 8 + 5, none⟩ = some (.int .i64 (Yf : Int)) ∧ (World.drew (World.alloc (World.alloc W5 o) o2)).cell? ⟨gx, ox + 8 + 6, none⟩ = some (.int .i64 (Yt : Int)) ∧ (World.drew (World.alloc (World.alloc W5 o) o2)).cell? ⟨gx, ox + 8 + 7, none⟩ = some (.slice Yak Y.kids.length Ymk) ∧ (World.drew (World.alloc (World.alloc W5 o) o2)).cell? ⟨gk, ok + 8, none⟩ = some (.string ⟨V.ty.toArray⟩) ∧ (World.drew (World.alloc (World.alloc W5 o) o2)).cell? ⟨gk, ok + 8 + 1, none⟩ = some (.slice Vap V.ps.length Vmp) ∧ (World.drew (World.alloc (World.alloc W5 o) o2)).cell? ⟨gk, ok + 8 + 2, none⟩ = some (.string ⟨#[55, 98, 105, 116]⟩) ∧ (World.drew (World.alloc (World.alloc W5 o) o2)).cell? ⟨gk, ok + 8 + 3, none⟩ = some (.bool V.att) ∧ (World.drew (World.alloc (World.alloc W5 o) o2)).cell? ⟨gk, ok + 8 + 4, none⟩ = some (.int .i64 (V.hd : Int)) ∧ (World.drew (World.alloc (World.alloc W5 o) o2)).cell? ⟨gk, ok + 8 + 5, none⟩ = some (.int .i64 (Vf : Int)) ∧ (World.drew (World.alloc (World.alloc W5 o) o2)).cell? ⟨gk, ok + 8 + 6, none⟩ = some (.int .i64 (Vt : Int)) ∧ (World.drew (World.alloc (World.alloc W5 o) o2)).cell? ⟨gk, ok + 8 + 7, none⟩ = some (.slice Vak V.kids.length Vmk))) := Lib.hid (fun o o2 => HSOF.out _ ((((Below.refl _ W5).alloc (Nat.le_refl _) o).alloc (by simp) o2).drew))
      have HS6 : Hid (∀ (o o2 o3 : Obj), (Below W5.heap.size W5 (World.drew (World.alloc (World.alloc (World.alloc W5 o) o2) o3)) ∧ (World.drew (World.alloc (World.alloc (World.alloc W5 o) o2) o3)).cell? ⟨G, 7, none⟩ = some (.slice (some ⟨gk, ok, none⟩) 2 mk) ∧ (World.drew (World.alloc (World.alloc (World.alloc W5 o) o2) o3)).cell? ⟨gk, ok + 7, none⟩ = some (.slice (some ⟨gx, ox, none⟩) 2 mk2) ∧ (World.drew (World.alloc (World.alloc (World.alloc W5 o) o2) o3)).cell? ⟨gx, ox, none⟩ = some (.string ⟨X.ty.toArray⟩) ∧ (World.drew (World.alloc (World.alloc (World.alloc W5 o) o2) o3)).cell? ⟨gx, ox + 1, none⟩ = some (.slice Xap X.ps.length Xmp) ∧ (World.drew (World.alloc (World.alloc (World.alloc W5 o) o2) o3)).cell? ⟨gx, ox + 2, none⟩ = some (.string ⟨#[55, 98, 105, 116]⟩) ∧ (World.drew (World.alloc (World.alloc (World.alloc W5 o) o2) o3)).cell? ⟨gx, ox + 3, none⟩ = some (.bool X.att) ∧ (World.drew (World.alloc (World.alloc (World.alloc W5 o) o2) o3)).cell? ⟨gx, ox + 4, none⟩ = some (.int .i64 (X.hd : Int)) ∧ (World.drew (World.alloc (World.alloc (World.alloc W5 o) o2) o3)).cell? ⟨gx, ox + 5, none⟩ = some (.int .i64 (Xf : Int)) ∧ (World.drew (World.alloc (World.alloc (World.alloc W5 o) o2) o3)).cell? ⟨gx, ox + 6, none⟩ = some (.int .i64 (Xt : Int)) ∧ (World.drew (World.alloc (World.alloc (World.alloc W5 o) o2) o3)).cell? ⟨gx, ox + 7, none⟩ = some (.slice Xak X.kids.length Xmk) ∧ (World.drew (World.alloc (World.alloc (World.alloc W5 o) o2) o3)).cell? ⟨gx, ox + 8, none⟩ = some (.string ⟨#[116, 101, 120, 116, 47, 104, 116, 109, 108]⟩) ∧ (World.drew (World.alloc (World.alloc (World.alloc W5 o) o2) o3)).cell? ⟨gx, ox + 8 + 1, none⟩ = some (.slice Yap Y.ps.length Ymp) ∧ (World.drew (World.alloc (World.alloc (World.alloc W5 o) o2) o3)).cell? ⟨gx, ox + 8 + 2, none⟩ = some (.string ⟨#[55, 98, 105, 116]⟩) ∧ (World.drew (World.alloc (World.alloc (World.alloc W5 o) o2) o3)).cell? ⟨gx, ox + 8 + 3, none⟩ = some (.bool Y.att) ∧ (World.drew (World.alloc (World.alloc (World.alloc W5 o) o2) o3)).cell? ⟨gx, ox + 8 + 4, none⟩ = some (.int .i64 (Y.hd : Int)) ∧ (World.drew (World.alloc (World.alloc (World.alloc W5 o) o2) o3)).cell? ⟨gx, ox + 8 + 5, none⟩ = some (.int .i64 (Yf : Int)) ∧ (World.drew (World.alloc (World.alloc (World.alloc W5 o) o2) o3)).cell? ⟨gx, ox + 8 + 6, none⟩ = some (.int .i64 (Yt : Int)) ∧ (World.drew (World.alloc (World.alloc (World.alloc W5 o) o2) o3)).cell? ⟨gx, ox + 8 + 7, none⟩ = some (.slice Yak Y.kids.length Ymk) ∧ (World.drew (World.alloc (World.alloc (World.alloc W5 o) o2) o3)).cell? ⟨gk, ok + 8, none⟩ = some (.string ⟨V.ty.toArray⟩) ∧ (World.drew (World.alloc (World.alloc (World.alloc W5 o) o2) o3)).cell? ⟨gk, ok + 8 + 1, none⟩ = some (.slice Vap V.ps.length Vmp) ∧ (World.drew (World.alloc (World.alloc (World.alloc W5 o) o2) o3)).cell? ⟨gk, ok + 8 + 2, none⟩ = some (.string ⟨#[55, 98, 105, 116]⟩) ∧ (World.drew (World.alloc (World.alloc (World.alloc W5 o) o2) o3)).cell? ⟨gk, ok + 8 + 3, none⟩ = some (.bool V.att) ∧ (World.drew (World.alloc (World.alloc (World.alloc W5 o) o2) o3)).cell? ⟨gk, ok + 8 + 4, none⟩ = some (.int .i64 (V.hd : Int)) ∧ (World.drew (World.alloc (World.alloc (World.alloc W5 o) o2) o3)).cell? ⟨gk, ok + 8 + 5, none⟩ = some (.int .i64 (Vf : Int)) ∧ (World.drew (World.alloc (World.alloc (World.alloc W5 o) o2) o3)).cell? ⟨gk, ok + 8 + 6, none⟩ = some (.int .i64 (Vt : Int)) ∧ (World.drew (World.alloc (World.alloc (World.alloc W5 o) o2) o3)).cell? ⟨gk, ok + 8 + 7, none⟩ = some (.slice Vak V.kids.length Vmk))) := Lib.hid (fun o o2 o3 => HSOF.out _ (((((Below.refl _ W5).alloc (Nat.le_refl _) o).alloc (by simp) o2).alloc (by simp; omega) o3).drew))
      go_cut [13, 14, 15] from 74 to 91 (fun px py pz wx => ∃ x y z : Nat, px = .pointer (some ⟨x, 0, none⟩) ∧ py = .pointer (some ⟨y, 0, none⟩) ∧ pz = .pointer (some ⟨z, 0, none⟩) ∧ Bx x (.string ⟨X.ty.toArray⟩) (.slice Xap X.ps.length Xmp) (.string ⟨#[55, 98, 105, 116]⟩) (.bool X.att) (.int .i64 (X.hd : Int)) (.int .i64 (Xf : Int)) (.int .i64 (Xt : Int)) (.slice Xak X.kids.length Xmk) wx ∧ Bx y (.string ⟨#[116, 101, 120, 116, 47, 104, 116, 109, 108]⟩) (.slice Yap Y.ps.length Ymp) (.string ⟨#[55, 98, 105, 116]⟩) (.bool Y.att) (.int .i64 (Y.hd : Int)) (.int .i64 (Yf : Int)) (.int .i64 (Yt : Int)) (.slice Yak Y.kids.length Ymk) wx ∧ Bx z (.string ⟨V.ty.toArray⟩) (.slice Vap V.ps.length Vmp) (.string ⟨#[55, 98, 105, 116]⟩) (.bool V.att) (.int .i64 (V.hd : Int)) (.int .i64 (Vf : Int)) (.int .i64 (Vt : Int)) (.slice Vak V.kids.length Vmk) wx ∧ Hid (Below W5.heap.size W5 wx))
      case first =>
        go_region_held3 (fun w' => (Below W5.heap.size W5 w' ∧ w'.cell? ⟨G, 7, none⟩ = some (.slice (some ⟨gk, ok, none⟩) 2 mk) ∧ w'.cell? ⟨gk, ok + 7, none⟩ = some (.slice (some ⟨gx, ox, none⟩) 2 mk2) ∧ w'.cell? ⟨gx, ox, none⟩ = some (.string ⟨X.ty.toArray⟩) ∧ w'.cell? ⟨gx, ox + 1, none⟩ = some (.slice Xap X.ps.length Xmp) ∧ w'.cell? ⟨gx, ox + 2, none⟩ = some (.string ⟨#[55, 98, 105, 116]⟩) ∧ w'.cell? ⟨gx, ox + 3, none⟩ = some (.bool X.att) ∧ w'.cell? ⟨gx, ox + 4, none⟩ = some (.int .i64 (X.hd : Int)) ∧ w'.cell? ⟨gx, ox + 5, none⟩ = some (.int .i64 (Xf : Int)) ∧ w'.cell? ⟨gx, ox + 6, none⟩ = some (.int .i64 (Xt : Int)) ∧ w'.cell? ⟨gx, ox + 7, none⟩ = some (.slice Xak X.kids.length Xmk) ∧ w'.cell? ⟨gx, ox + 8, none⟩ = some (.string ⟨#[116, 101, 120, 116, 47, 104, 116, 109, 108]⟩) ∧ w'.cell? ⟨gx, ox + 8 + 1, none⟩ = some (.slice Yap Y.ps.length Ymp) ∧ w'.cell? ⟨gx, ox + 8 + 2, none⟩ = some (.string ⟨#[55, 98, 105, 116]⟩) ∧ w'.cell? ⟨gx, ox + 8 + 3, none⟩ = some (.bool Y.att) ∧ w'.cell? ⟨gx, ox + 8 + 4, none⟩ = some (.int .i64 (Y.hd : Int)) ∧ w'.cell? ⟨gx, ox + 8 + 5, none⟩ = some (.int .i64 (Yf : Int)) ∧ w'.cell? ⟨gx, ox + 8 + 6, none⟩ = some (.int .i64 (Yt : Int)) ∧ w'.cell? ⟨gx, ox + 8 + 7, none⟩ = some (.slice Yak Y.kids.length Ymk) ∧ w'.cell? ⟨gk, ok + 8, none⟩ = some (.string ⟨V.ty.toArray⟩) ∧ w'.cell? ⟨gk, ok + 8 + 1, none⟩ = some (.slice Vap V.ps.length Vmp) ∧ w'.cell? ⟨gk, ok + 8 + 2, none⟩ = some (.string ⟨#[55, 98, 105, 116]⟩) ∧ w'.cell? ⟨gk, ok + 8 + 3, none⟩ = some (.bool V.att) ∧ w'.cell? ⟨gk, ok + 8 + 4, none⟩ = some (.int .i64 (V.hd : Int)) ∧ w'.cell? ⟨gk, ok + 8 + 5, none⟩ = some (.int .i64 (Vf : Int)) ∧ w'.cell? ⟨gk, ok + 8 + 6, none⟩ = some (.int .i64 (Vt : Int)) ∧ w'.cell? ⟨gk, ok + 8 + 7, none⟩ = some (.slice Vak V.kids.length Vmk)))
          (first | with_reducible exact HSD.out | with_reducible exact HS4.out _ | with_reducible exact HS5.out _ _ | with_reducible exact HS6.out _ _ _ | with_reducible exact HS1.out _ _ (by assumption))
          (first | fail)
        all_goals
          go_wp2
          go_meet
          refine ⟨_, _, _, rfl, rfl, rfl, ?_, ?_, ?_, Lib.hid (below3 W5 _ _ _)⟩
          all_goals first | exact bx3_0 W5 _ _ _ _ _ _ _ _ _ _ | exact bx3_1 W5 _ _ _ _ _ _ _ _ _ _ | exact bx3_2 W5 _ _ _ _ _ _ _ _ _ _
      case rest =>
        obtain ⟨x, y, z, rfl, rfl, rfl, hx, hy, hz, HBW⟩ := hcut
        have HXB := Lib.hid hx
        have HYB := Lib.hid hy
        have HZB := Lib.hid hz
        clear hx hy hz
        have HCW : Hid (Below w.heap.size w wc) := Lib.hid (HB5.out.trans (HBW.out.mono HB5.out.size))
        have HXC : Hid ((ByteArray.mk (contL S.data.toList bit7 Xf Xt).toArray) = CA) := Lib.hid (by rw [HX2.out.2.2.2])
        have HYC : Hid ((ByteArray.mk (contL S.data.toList bit7 Yf Yt).toArray) = CB) := Lib.hid (by rw [HY2.out.2.2.2])
        have HVC : Hid ((ByteArray.mk (contL S.data.toList bit7 Vf Vt).toArray) = CC) := Lib.hid (by rw [HV2.out.2.2.2])
        have u0 := HXB.out.p0
        have u1 := HXB.out.p1
        have u2 := HXB.out.p2
        have u3 := HXB.out.p3
        have u4 := HXB.out.p4
        have u5 := HXB.out.p5
        have u6 := HXB.out.p6
        have u7 := HXB.out.p7
        go_wp2_with fail
        refine (content_any S bit7 Xf Xt _ _ _ _ _ wc (by omega) HX2.out.2.1 HX2.out.2.2.1 (HE.out.next HCW.out)).mono ?_
        rintro e w6 ⟨rfl, hb6⟩
        rw [HXC.out]
        have HB6 := Lib.hid hb6
        have HC6 := Lib.hid (HCW.out.trans (hb6.mono HCW.out.size))
        clear u0 u1 u2 u3 u4 u5 u6 u7 hb6
        have HY6 := Lib.hid (HYB.out.below HB6.out)
        have u0 := HY6.out.p0
        have u1 := HY6.out.p1
        have u2 := HY6.out.p2
        have u3 := HY6.out.p3
        have u4 := HY6.out.p4
        have u5 := HY6.out.p5
        have u6 := HY6.out.p6
        have u7 := HY6.out.p7
        go_wp2_with fail
        refine (content_any S bit7 Yf Yt _ _ _ _ _ w6 (by omega) HY2.out.2.1 HY2.out.2.2.1 (HE.out.next HC6.out)).mono ?_
        rintro e w7 ⟨rfl, hb7⟩
        rw [HYC.out]
        have HB7 := Lib.hid hb7
        have HC7 := Lib.hid (HC6.out.trans (hb7.mono HC6.out.size))
        have HY7 := Lib.hid (HY6.out.below HB7.out)
        have HV7 := Lib.hid ((HZB.out.below HB6.out).below HB7.out)
        clear u0 u1 u2 u3 u4 u5 u6 u7 hb7
        have u0 := HV7.out.p0
        have u1 := HV7.out.p1
        have u2 := HV7.out.p2
        have u3 := HV7.out.p3
        have u4 := HV7.out.p4
        have u5 := HV7.out.p5
        have u6 := HV7.out.p6
        have u7 := HV7.out.p7
        go_wp2_with fail
        refine (content_any S bit7 Vf Vt _ _ _ _ _ w7 (by omega) HV2.out.2.1 HV2.out.2.2.1 (HE.out.next HC7.out)).mono ?_
        rintro e w8 ⟨rfl, hb8⟩
        rw [HVC.out]
        have HB8 := Lib.hid hb8
        have HC8 := Lib.hid (HC7.out.trans (hb8.mono HC7.out.size))
        clear u0 u1 u2 u3 u4 u5 u6 u7 hb8
        have u0 := (HY7.out.below HB8.out).p0
        go_wp2_with fail
        refine (awake_any HT.out w8 (HE.out.next HC8.out)).mono ?_
        rintro e w9 ⟨rfl, hb9⟩
        go_wp2
        go_ret
        exact ⟨rfl, HC8.out.trans (hb9.mono HC8.out.size)⟩
    · go_enter Tryd.func8, Tryd.ntmps8
      go_wp2_with fail
      refine (clean_any a w (by omega)).mono ?_
      rintro e w1 ⟨rfl, hb1⟩
      obtain ⟨CA, hCA⟩ : ∃ CA : ByteArray, CA = ⟨(cleanL a.data.toList).toArray⟩ := ⟨_, rfl⟩
      have HCA := Lib.hid (show CA.data.toList = cleanL a.data.toList by rw [hCA])
      have hcas : CA.size ≤ 200 := by rw [Lib.size_eq, HCA.out, clean_length, ← Lib.size_eq]; omega
      rw [← hCA]
      clear hCA
      have HB1 := Lib.hid hb1
      clear hb1
      go_wp2_with fail
      refine (clean_any b w1 (by omega)).mono ?_
      rintro e w2 ⟨rfl, hb2⟩
      obtain ⟨CB, hCB⟩ : ∃ CB : ByteArray, CB = ⟨(cleanL b.data.toList).toArray⟩ := ⟨_, rfl⟩
      have HCB := Lib.hid (show CB.data.toList = cleanL b.data.toList by rw [hCB])
      have hcbs : CB.size ≤ 200 := by rw [Lib.size_eq, HCB.out, clean_length, ← Lib.size_eq]; omega
      rw [← hCB]
      clear hCB
      have HB2 := Lib.hid (HB1.out.trans (hb2.mono HB1.out.size))
      clear hb2
      go_wp2_with fail
      refine (clean_any c w2 (by omega)).mono ?_
      rintro e w3 ⟨rfl, hb3⟩
      obtain ⟨CC, hCC⟩ : ∃ CC : ByteArray, CC = ⟨(cleanL c.data.toList).toArray⟩ := ⟨_, rfl⟩
      have HCC := Lib.hid (show CC.data.toList = cleanL c.data.toList by rw [hCC])
      have hccs : CC.size ≤ 200 := by rw [Lib.size_eq, HCC.out, clean_length, ← Lib.size_eq]; omega
      rw [← hCC]
      clear hCC
      have HB3 := Lib.hid (HB2.out.trans (hb3.mono HB2.out.size))
      clear hb3
      go_wp2_with fail
      obtain ⟨IN, hI⟩ : ∃ IN : ByteArray, (⟨#[67, 111, 110, 116, 101, 110, 116, 45, 84, 121, 112, 101, 58, 32, 109, 117, 108, 116, 105, 112, 97, 114, 116, 47, 97, 108, 116, 101, 114, 110, 97, 116, 105, 118, 101, 59, 32, 98, 111, 117, 110, 100, 97, 114, 121, 61, 105, 110, 13, 10, 13, 10, 45, 45, 105, 110, 13, 10, 13, 10]⟩ : ByteArray) ++ CA ++ ⟨#[13, 10, 45, 45, 105, 110, 13, 10, 67, 111, 110, 116, 101, 110, 116, 45, 84, 121, 112, 101, 58, 32, 116, 101, 120, 116, 47, 104, 116, 109, 108, 13, 10, 13, 10]⟩ ++ CB ++ ⟨#[13, 10]⟩ ++ ⟨#[]⟩ = IN := ⟨_, rfl⟩
      obtain ⟨S, hS⟩ : ∃ S : ByteArray, (⟨#[67, 111, 110, 116, 101, 110, 116, 45, 84, 121, 112, 101, 58, 32, 109, 117, 108, 116, 105, 112, 97, 114, 116, 47, 109, 105, 120, 101, 100, 59, 32, 98, 111, 117, 110, 100, 97, 114, 121, 61, 111, 117, 116, 13, 10, 13, 10, 45, 45, 111, 117, 116, 13, 10]⟩ : ByteArray) ++ IN ++ ⟨#[45, 45, 111, 117, 116, 13, 10, 13, 10]⟩ ++ CC ++ ⟨#[13, 10, 45, 45, 111, 117, 116, 45, 45, 13, 10]⟩ = S := ⟨_, rfl⟩
      have HS := Lib.hid (show S.data.toList = nestS (cleanL a.data.toList) (cleanL b.data.toList) (cleanL c.data.toList) ([]) by
        rw [← hS, ← hI, ← HCA.out, ← HCB.out, ← HCC.out]
        simp [nestS, inAll, inBody, lns, outH, inH, htmlH, ctypeT, mo, lo, mi, cr])
      have hss : S.size ≤ 2000 := by
        rw [← hS, ← hI]
        simp only [ByteArray.size_append]
        show 54 + (60 + CA.size + 35 + CB.size + 2 + 0) + 9 + CC.size + 11 ≤ 2000
        omega
      rw [hI, hS]
      clear hS hI
      refine (HT.out S w3 (by omega) (HE.out.next HB3.out)).mono ?_
      rintro e w4 ⟨c0, c1, c2, c3, c4, c5, c6, c7, rfl, hp, hb4⟩
      obtain ⟨T, hT'⟩ : ∃ T, treeL S.data.toList = T := ⟨_, rfl⟩
      rw [hT'] at hp
      obtain ⟨K, X, Y, V, t1, t2, t3, t4, lX, lY, lV⟩ := nest_tree (clean_pure a.data.toList) (clean_pure b.data.toList) (clean_pure c.data.toList) (Or.inl rfl) S.data.toList HS.out.symm T hT'
      have HLX := Lib.hid lX
      have HLY := Lib.hid lY
      have HLV := Lib.hid lV
      have HB4 := Lib.hid (HB3.out.trans (hb4.mono HB3.out.size))
      clear lX lY lV hb4 hT'
      obtain ⟨ap, mp, ak, mk, e, hps, cs, hk1, hk2⟩ := part_cells hp
      clear hp hps
      rw [t1] at hk1 hk2 e
      rw [show ([K, V] : List P).length = 2 from rfl] at e
      injection e with e
      injection e with e
      injection e with e0 e
      injection e with e1 e
      injection e with e2 e
      injection e with e3 e
      injection e with e4 e
      injection e with e5 e
      injection e with e6 e
      injection e with e7 e
      subst e0 e1 e2 e3 e4 e5 e6 e7
      obtain ⟨gk, ok, x0, x1, x2, x3, x4, x5, x6, x7, rfl, hgk, r0, -, -, -, -, -, -, r7, hK⟩ := kid_cells hk1 hk2 0 (by simp)
      obtain ⟨gv, ov, v0, v1, v2, v3, v4, v5, v6, v7, ev, hgv, z0, z1, z2, z3, z4, z5, z6, z7, hV⟩ := kid_cells hk1 hk2 1 (by simp)
      injection ev with ev
      injection ev with ev1 ev2
      subst ev1 ev2
      clear hk1 hk2
      rw [show ([K, V] : List P)[0] = K from rfl] at hK
      rw [show ([K, V] : List P)[1] = V from rfl] at hV
      obtain ⟨ap2, mp2, ak2, mk2, e, -, cs2, hk1, hk2⟩ := part_cells hK
      rw [t2, t3] at e
      rw [show ([X, Y] : List P).length = 2 from rfl] at e
      rw [t2] at hk1 hk2
      clear hK
      injection e with e
      injection e with e
      injection e with e0 e
      injection e with e1 e
      injection e with e2 e
      injection e with e3 e
      injection e with e4 e
      injection e with e5 e
      injection e with e6 e
      injection e with e7 e
      subst e0 e1 e2 e3 e4 e5 e6 e7
      obtain ⟨gx, ox, a0, a1, a2, a3, a4, a5, a6, a7, rfl, hgx, s0, s1, s2, s3, s4, s5, s6, s7, hX⟩ := kid_cells hk1 hk2 0 (by simp)
      obtain ⟨gy, oy, b0, b1, b2, b3, b4, b5, b6, b7, ey, hgy, y0, y1, y2, y3, y4, y5, y6, y7, hY⟩ := kid_cells hk1 hk2 1 (by simp)
      injection ey with ey
      injection ey with ey1 ey2
      subst ey1 ey2
      clear hk1 hk2
      rw [show ([X, Y] : List P)[0] = X from rfl] at hX
      rw [show ([X, Y] : List P)[1] = Y from rfl] at hY
      obtain ⟨Xap, Xmp, Xak, Xmk, e, -, -, -, -⟩ := part_cells hX
      clear hX
      injection e with e
      injection e with e
      injection e with Xq0 e
      injection e with Xq1 e
      injection e with Xq2 e
      injection e with Xq3 e
      injection e with Xq4 e
      injection e with Xq5 e
      injection e with Xq6 e
      injection e with Xq7 e
      subst Xq0 Xq1 Xq2 Xq3 Xq4 Xq5 Xq6 Xq7
      obtain ⟨Yap, Ymp, Yak, Ymk, e, -, -, -, -⟩ := part_cells hY
      clear hY
      injection e with e
      injection e with e
      injection e with Yq0 e
      injection e with Yq1 e
      injection e with Yq2 e
      injection e with Yq3 e
      injection e with Yq4 e
      injection e with Yq5 e
      injection e with Yq6 e
      injection e with Yq7 e
      subst Yq0 Yq1 Yq2 Yq3 Yq4 Yq5 Yq6 Yq7
      obtain ⟨Vap, Vmp, Vak, Vmk, e, -, -, -, -⟩ := part_cells hV
      clear hV
      injection e with e
      injection e with e
      injection e with Vq0 e
      injection e with Vq1 e
      injection e with Vq2 e
      injection e with Vq3 e
      injection e with Vq4 e
      injection e with Vq5 e
      injection e with Vq6 e
      injection e with Vq7 e
      subst Vq0 Vq1 Vq2 Vq3 Vq4 Vq5 Vq6 Vq7
      rw [t4] at y0
      have HX2 : Hid (X.enc = bit7 ∧ X.fm ≤ X.to ∧ X.to ≤ S.size ∧ contL S.data.toList bit7 X.fm X.to = CA.data.toList) := Lib.hid ⟨HLX.out.2.1, HLX.out.2.2.1, by have := HLX.out.2.2.2.1; rwa [← Lib.size_eq] at this, by rw [HCA.out, ← HLX.out.2.2.2.2]; unfold contL; rw [if_neg (by decide), if_neg (by decide)]⟩
      have HY2 : Hid (Y.enc = bit7 ∧ Y.fm ≤ Y.to ∧ Y.to ≤ S.size ∧ contL S.data.toList bit7 Y.fm Y.to = CB.data.toList) := Lib.hid ⟨HLY.out.2.1, HLY.out.2.2.1, by have := HLY.out.2.2.2.1; rwa [← Lib.size_eq] at this, by rw [HCB.out, ← HLY.out.2.2.2.2]; unfold contL; rw [if_neg (by decide), if_neg (by decide)]⟩
      have HV2 : Hid (V.enc = bit7 ∧ V.fm ≤ V.to ∧ V.to ≤ S.size ∧ contL S.data.toList bit7 V.fm V.to = CC.data.toList) := Lib.hid ⟨HLV.out.2.1, HLV.out.2.2.1, by have := HLV.out.2.2.2.1; rwa [← Lib.size_eq] at this, by rw [HCC.out, ← HLV.out.2.2.2.2]; unfold contL; rw [if_neg (by decide), if_neg (by decide)]⟩
      rw [HX2.out.1] at s2
      rw [HY2.out.1] at y2
      rw [HV2.out.1] at z2
      obtain ⟨Xf, hXf⟩ : ∃ x, X.fm = x := ⟨_, rfl⟩
      obtain ⟨Xt, hXt⟩ : ∃ x, X.to = x := ⟨_, rfl⟩
      obtain ⟨Yf, hYf⟩ : ∃ x, Y.fm = x := ⟨_, rfl⟩
      obtain ⟨Yt, hYt⟩ : ∃ x, Y.to = x := ⟨_, rfl⟩
      obtain ⟨Vf, hVf⟩ : ∃ x, V.fm = x := ⟨_, rfl⟩
      obtain ⟨Vt, hVt⟩ : ∃ x, V.to = x := ⟨_, rfl⟩
      rw [hXf, hXt] at HX2
      rw [hYf, hYt] at HY2
      rw [hVf, hVt] at HV2
      rw [hXf] at s5
      rw [hXt] at s6
      rw [hYf] at y5
      rw [hYt] at y6
      rw [hVf] at z5
      rw [hVt] at z6
      clear hXf hXt hYf hYt hVf hVt HLX HLY HLV t1 t2 t3 t4
      unfold sV at r0 s0 s2 y0 y2 z0 z2 ⊢
      unfold altT at r0
      unfold htmlT at y0
      unfold bit7 at s2 y2 z2
      simp only [Nat.zero_mul, Nat.add_zero, Nat.one_mul] at r0 r7 s0 s1 s2 s3 s4 s5 s6 s7 y0 y1 y2 y3 y4 y5 y6 y7 z0 z1 z2 z3 z4 z5 z6 z7
      obtain ⟨W5, hW5⟩ : ∃ W5, w4.alloc (.cells #[.string ⟨T.ty.toArray⟩, .slice ap T.ps.length mp, .string ⟨T.enc.toArray⟩, .bool T.att, .int .i64 (T.hd : Int), .int .i64 (T.fm : Int), .int .i64 (T.to : Int), .slice (some ⟨gk, ok, none⟩) 2 mk] 31) = W5 := ⟨_, rfl⟩
      have hA := Bx.made w4 (.string ⟨T.ty.toArray⟩) (.slice ap T.ps.length mp) (.string ⟨T.enc.toArray⟩) (.bool T.att) (.int .i64 (T.hd : Int)) (.int .i64 (T.fm : Int)) (.int .i64 (T.to : Int)) (.slice (some ⟨gk, ok, none⟩) 2 mk)
      have hb5 : Below w4.heap.size w4 W5 := by rw [← hW5]; exact (Below.refl _ w4).alloc (Nat.le_refl _) _
      rw [hW5] at hA
      have r0 := (hb5.cell (p := ⟨gk, ok, none⟩) hgk).trans r0
      have r7 := (hb5.cell (p := ⟨gk, ok + 7, none⟩) hgk).trans r7
      have s0 := (hb5.cell (p := ⟨gx, ox, none⟩) hgx).trans s0
      have s1 := (hb5.cell (p := ⟨gx, ox + 1, none⟩) hgx).trans s1
      have s2 := (hb5.cell (p := ⟨gx, ox + 2, none⟩) hgx).trans s2
      have s3 := (hb5.cell (p := ⟨gx, ox + 3, none⟩) hgx).trans s3
      have s4 := (hb5.cell (p := ⟨gx, ox + 4, none⟩) hgx).trans s4
      have s5 := (hb5.cell (p := ⟨gx, ox + 5, none⟩) hgx).trans s5
      have s6 := (hb5.cell (p := ⟨gx, ox + 6, none⟩) hgx).trans s6
      have s7 := (hb5.cell (p := ⟨gx, ox + 7, none⟩) hgx).trans s7
      have y0 := (hb5.cell (p := ⟨gx, ox + 8, none⟩) hgx).trans y0
      have y1 := (hb5.cell (p := ⟨gx, ox + 8 + 1, none⟩) hgx).trans y1
      have y2 := (hb5.cell (p := ⟨gx, ox + 8 + 2, none⟩) hgx).trans y2
      have y3 := (hb5.cell (p := ⟨gx, ox + 8 + 3, none⟩) hgx).trans y3
      have y4 := (hb5.cell (p := ⟨gx, ox + 8 + 4, none⟩) hgx).trans y4
      have y5 := (hb5.cell (p := ⟨gx, ox + 8 + 5, none⟩) hgx).trans y5
      have y6 := (hb5.cell (p := ⟨gx, ox + 8 + 6, none⟩) hgx).trans y6
      have y7 := (hb5.cell (p := ⟨gx, ox + 8 + 7, none⟩) hgx).trans y7
      have z0 := (hb5.cell (p := ⟨gk, ok + 8, none⟩) hgk).trans z0
      have z1 := (hb5.cell (p := ⟨gk, ok + 8 + 1, none⟩) hgk).trans z1
      have z2 := (hb5.cell (p := ⟨gk, ok + 8 + 2, none⟩) hgk).trans z2
      have z3 := (hb5.cell (p := ⟨gk, ok + 8 + 3, none⟩) hgk).trans z3
      have z4 := (hb5.cell (p := ⟨gk, ok + 8 + 4, none⟩) hgk).trans z4
      have z5 := (hb5.cell (p := ⟨gk, ok + 8 + 5, none⟩) hgk).trans z5
      have z6 := (hb5.cell (p := ⟨gk, ok + 8 + 6, none⟩) hgk).trans z6
      have z7 := (hb5.cell (p := ⟨gk, ok + 8 + 7, none⟩) hgk).trans z7
      have HB5 := Lib.hid (HB4.out.trans (hb5.mono HB4.out.size))
      have HW5 := Lib.hid hW5
      obtain ⟨G, hG⟩ : ∃ G, w4.heap.size = G := ⟨_, rfl⟩
      rw [hG] at hA
      have p7 := hA.p7
      have HA := Lib.hid hA
      have hsz5 := hb5.size
      clear hW5 hA hb5
      go_upto_region 12 with fail
      rw [HW5.out]
      (try rw [hG])
      clear hG
      go_upto_region 14 with fail
      have hlG : Hid (G < W5.heap.size) := Lib.hid HA.out.lt
      have hlgk : Hid (gk < W5.heap.size) := Lib.hid (Nat.lt_of_lt_of_le hgk hsz5)
      have hlgx : Hid (gx < W5.heap.size) := Lib.hid (Nat.lt_of_lt_of_le hgx hsz5)
      have Hr7 := Lib.hid r7
      have Hs0 := Lib.hid s0
      have Hs1 := Lib.hid s1
      have Hs2 := Lib.hid s2
      have Hs3 := Lib.hid s3
      have Hs4 := Lib.hid s4
      have Hs5 := Lib.hid s5
      have Hs6 := Lib.hid s6
      have Hs7 := Lib.hid s7
      have Hy0 := Lib.hid y0
      have Hy1 := Lib.hid y1
      have Hy2 := Lib.hid y2
      have Hy3 := Lib.hid y3
      have Hy4 := Lib.hid y4
      have Hy5 := Lib.hid y5
      have Hy6 := Lib.hid y6
      have Hy7 := Lib.hid y7
      have Hz0 := Lib.hid z0
      have Hz1 := Lib.hid z1
      have Hz2 := Lib.hid z2
      have Hz3 := Lib.hid z3
      have Hz4 := Lib.hid z4
      have Hz5 := Lib.hid z5
      have Hz6 := Lib.hid z6
      have Hz7 := Lib.hid z7
      clear r0 r7 p7 s0 s1 s2 s3 s4 s5 s6 s7 y0 y1 y2 y3 y4 y5 y6 y7 z0 z1 z2 z3 z4 z5 z6 z7
      have HSOF : Hid (∀ w' : World, Below W5.heap.size W5 w' → (Below W5.heap.size W5 w' ∧ w'.cell? ⟨G, 7, none⟩ = some (.slice (some ⟨gk, ok, none⟩) 2 mk) ∧ w'.cell? ⟨gk, ok + 7, none⟩ = some (.slice (some ⟨gx, ox, none⟩) 2 mk2) ∧ w'.cell? ⟨gx, ox, none⟩ = some (.string ⟨X.ty.toArray⟩) ∧ w'.cell? ⟨gx, ox + 1, none⟩ = some (.slice Xap X.ps.length Xmp) ∧ w'.cell? ⟨gx, ox + 2, none⟩ = some (.string ⟨#[55, 98, 105, 116]⟩) ∧ w'.cell? ⟨gx, ox + 3, none⟩ = some (.bool X.att) ∧ w'.cell? ⟨gx, ox + 4, none⟩ = some (.int .i64 (X.hd : Int)) ∧ w'.cell? ⟨gx, ox + 5, none⟩ = some (.int .i64 (Xf : Int)) ∧ w'.cell? ⟨gx, ox + 6, none⟩ = some (.int .i64 (Xt : Int)) ∧ w'.cell? ⟨gx, ox + 7, none⟩ = some (.slice Xak X.kids.length Xmk) ∧ w'.cell? ⟨gx, ox + 8, none⟩ = some (.string ⟨#[116, 101, 120, 116, 47, 104, 116, 109, 108]⟩) ∧ w'.cell? ⟨gx, ox + 8 + 1, none⟩ = some (.slice Yap Y.ps.length Ymp) ∧ w'.cell? ⟨gx, ox + 8 + 2, none⟩ = some (.string ⟨#[55, 98, 105, 116]⟩) ∧ w'.cell? ⟨gx, ox + 8 + 3, none⟩ = some (.bool Y.att) ∧ w'.cell? ⟨gx, ox + 8 + 4, none⟩ = some (.int .i64 (Y.hd : Int)) ∧ w'.cell? ⟨gx, ox + 8 + 5, none⟩ = some (.int .i64 (Yf : Int)) ∧ w'.cell? ⟨gx, ox + 8 + 6, none⟩ = some (.int .i64 (Yt : Int)) ∧ w'.cell? ⟨gx, ox + 8 + 7, none⟩ = some (.slice Yak Y.kids.length Ymk) ∧ w'.cell? ⟨gk, ok + 8, none⟩ = some (.string ⟨V.ty.toArray⟩) ∧ w'.cell? ⟨gk, ok + 8 + 1, none⟩ = some (.slice Vap V.ps.length Vmp) ∧ w'.cell? ⟨gk, ok + 8 + 2, none⟩ = some (.string ⟨#[55, 98, 105, 116]⟩) ∧ w'.cell? ⟨gk, ok + 8 + 3, none⟩ = some (.bool V.att) ∧ w'.cell? ⟨gk, ok + 8 + 4, none⟩ = some (.int .i64 (V.hd : Int)) ∧ w'.cell? ⟨gk, ok + 8 + 5, none⟩ = some (.int .i64 (Vf : Int)) ∧ w'.cell? ⟨gk, ok + 8 + 6, none⟩ = some (.int .i64 (Vt : Int)) ∧ w'.cell? ⟨gk, ok + 8 + 7, none⟩ = some (.slice Vak V.kids.length Vmk))) := Lib.hid (fun w' h => ⟨h, (h.cell (p := ⟨G, 7, none⟩) hlG.out).trans HA.out.p7, (h.cell (p := ⟨gk, ok + 7, none⟩) hlgk.out).trans Hr7.out, (h.cell (p := ⟨gx, ox, none⟩) hlgx.out).trans Hs0.out, (h.cell (p := ⟨gx, ox + 1, none⟩) hlgx.out).trans Hs1.out, (h.cell (p := ⟨gx, ox + 2, none⟩) hlgx.out).trans Hs2.out, (h.cell (p := ⟨gx, ox + 3, none⟩) hlgx.out).trans Hs3.out, (h.cell (p := ⟨gx, ox + 4, none⟩) hlgx.out).trans Hs4.out, (h.cell (p := ⟨gx, ox + 5, none⟩) hlgx.out).trans Hs5.out, (h.cell (p := ⟨gx, ox + 6, none⟩) hlgx.out).trans Hs6.out, (h.cell (p := ⟨gx, ox + 7, none⟩) hlgx.out).trans Hs7.out, (h.cell (p := ⟨gx, ox + 8, none⟩) hlgx.out).trans Hy0.out, (h.cell (p := ⟨gx, ox + 8 + 1, none⟩) hlgx.out).trans Hy1.out, (h.cell (p := ⟨gx, ox + 8 + 2, none⟩) hlgx.out).trans Hy2.out, (h.cell (p := ⟨gx, ox + 8 + 3, none⟩) hlgx.out).trans Hy3.out, (h.cell (p := ⟨gx, ox + 8 + 4, none⟩) hlgx.out).trans Hy4.out, (h.cell (p := ⟨gx, ox + 8 + 5, none⟩) hlgx.out).trans Hy5.out, (h.cell (p := ⟨gx, ox + 8 + 6, none⟩) hlgx.out).trans Hy6.out, (h.cell (p := ⟨gx, ox + 8 + 7, none⟩) hlgx.out).trans Hy7.out, (h.cell (p := ⟨gk, ok + 8, none⟩) hlgk.out).trans Hz0.out, (h.cell (p := ⟨gk, ok + 8 + 1, none⟩) hlgk.out).trans Hz1.out, (h.cell (p := ⟨gk, ok + 8 + 2, none⟩) hlgk.out).trans Hz2.out, (h.cell (p := ⟨gk, ok + 8 + 3, none⟩) hlgk.out).trans Hz3.out, (h.cell (p := ⟨gk, ok + 8 + 4, none⟩) hlgk.out).trans Hz4.out, (h.cell (p := ⟨gk, ok + 8 + 5, none⟩) hlgk.out).trans Hz5.out, (h.cell (p := ⟨gk, ok + 8 + 6, none⟩) hlgk.out).trans Hz6.out, (h.cell (p := ⟨gk, ok + 8 + 7, none⟩) hlgk.out).trans Hz7.out⟩)
      have HSD : Hid (Below W5.heap.size W5 W5.drew ∧ W5.drew.cell? ⟨G, 7, none⟩ = some (.slice (some ⟨gk, ok, none⟩) 2 mk) ∧ W5.drew.cell? ⟨gk, ok + 7, none⟩ = some (.slice (some ⟨gx, ox, none⟩) 2 mk2) ∧ W5.drew.cell? ⟨gx, ox, none⟩ = some (.string ⟨X.ty.toArray⟩) ∧ W5.drew.cell? ⟨gx, ox + 1, none⟩ = some (.slice Xap X.ps.length Xmp) ∧ W5.drew.cell? ⟨gx, ox + 2, none⟩ = some (.string ⟨#[55, 98, 105, 116]⟩) ∧ W5.drew.cell? ⟨gx, ox + 3, none⟩ = some (.bool X.att) ∧ W5.drew.cell? ⟨gx, ox + 4, none⟩ = some (.int .i64 (X.hd : Int)) ∧ W5.drew.cell? ⟨gx, ox + 5, none⟩ = some (.int .i64 (Xf : Int)) ∧ W5.drew.cell? ⟨gx, ox + 6, none⟩ = some (.int .i64 (Xt : Int)) ∧ W5.drew.cell? ⟨gx, ox + 7, none⟩ = some (.slice Xak X.kids.length Xmk) ∧ W5.drew.cell? ⟨gx, ox + 8, none⟩ = some (.string ⟨#[116, 101, 120, 116, 47, 104, 116, 109, 108]⟩) ∧ W5.drew.cell? ⟨gx, ox + 8 + 1, none⟩ = some (.slice Yap Y.ps.length Ymp) ∧ W5.drew.cell? ⟨gx, ox + 8 + 2, none⟩ = some (.string ⟨#[55, 98, 105, 116]⟩) ∧ W5.drew.cell? ⟨gx, ox + 8 + 3, none⟩ = some (.bool Y.att) ∧ W5.drew.cell? ⟨gx, ox + 8 + 4, none⟩ = some (.int .i64 (Y.hd : Int)) ∧ W5.drew.cell? ⟨gx, ox + 8 + 5, none⟩ = some (.int .i64 (Yf : Int)) ∧ W5.drew.cell? ⟨gx, ox + 8 + 6, none⟩ = some (.int .i64 (Yt : Int)) ∧ W5.drew.cell? ⟨gx, ox + 8 + 7, none⟩ = some (.slice Yak Y.kids.length Ymk) ∧ W5.drew.cell? ⟨gk, ok + 8, none⟩ = some (.string ⟨V.ty.toArray⟩) ∧ W5.drew.cell? ⟨gk, ok + 8 + 1, none⟩ = some (.slice Vap V.ps.length Vmp) ∧ W5.drew.cell? ⟨gk, ok + 8 + 2, none⟩ = some (.string ⟨#[55, 98, 105, 116]⟩) ∧ W5.drew.cell? ⟨gk, ok + 8 + 3, none⟩ = some (.bool V.att) ∧ W5.drew.cell? ⟨gk, ok + 8 + 4, none⟩ = some (.int .i64 (V.hd : Int)) ∧ W5.drew.cell? ⟨gk, ok + 8 + 5, none⟩ = some (.int .i64 (Vf : Int)) ∧ W5.drew.cell? ⟨gk, ok + 8 + 6, none⟩ = some (.int .i64 (Vt : Int)) ∧ W5.drew.cell? ⟨gk, ok + 8 + 7, none⟩ = some (.slice Vak V.kids.length Vmk)) := Lib.hid (HSOF.out _ ((Below.refl _ W5).drew))
      have HS1 : Hid (∀ (w2 : World) (o : Obj), (Below W5.heap.size W5 w2 ∧ w2.cell? ⟨G, 7, none⟩ = some (.slice (some ⟨gk, ok, none⟩) 2 mk) ∧ w2.cell? ⟨gk, ok + 7, none⟩ = some (.slice (some ⟨gx, ox, none⟩) 2 mk2) ∧ w2.cell? ⟨gx, ox, none⟩ = some (.string ⟨X.ty.toArray⟩) ∧ w2.cell? ⟨gx, ox + 1, none⟩ = some (.slice Xap X.ps.length Xmp) ∧ w2.cell? ⟨gx, ox + 2, none⟩ = some (.string ⟨#[55, 98, 105, 116]⟩) ∧ w2.cell? ⟨gx, ox + 3, none⟩ = some (.bool X.att) ∧ w2.cell? ⟨gx, ox + 4, none⟩ = some (.int .i64 (X.hd : Int)) ∧ w2.cell? ⟨gx, ox + 5, none⟩ = some (.int .i64 (Xf : Int)) ∧ w2.cell? ⟨gx, ox + 6, none⟩ = some (.int .i64 (Xt : Int)) ∧ w2.cell? ⟨gx, ox + 7, none⟩ = some (.slice Xak X.kids.length Xmk) ∧ w2.cell? ⟨gx, ox + 8, none⟩ = some (.string ⟨#[116, 101, 120, 116, 47, 104, 116, 109, 108]⟩) ∧ w2.cell? ⟨gx, ox + 8 + 1, none⟩ = some (.slice Yap Y.ps.length Ymp) ∧ w2.cell? ⟨gx, ox + 8 + 2, none⟩ = some (.string ⟨#[55, 98, 105, 116]⟩) ∧ w2.cell? ⟨gx, ox + 8 + 3, none⟩ = some (.bool Y.att) ∧ w2.cell? ⟨gx, ox + 8 + 4, none⟩ = some (.int .i64 (Y.hd : Int)) ∧ w2.cell? ⟨gx, ox + 8 + 5, none⟩ = some (.int .i64 (Yf : Int)) ∧ w2.cell? ⟨gx, ox + 8 + 6, none⟩ = some (.int .i64 (Yt : Int)) ∧ w2.cell? ⟨gx, ox + 8 + 7, none⟩ = some (.slice Yak Y.kids.length Ymk) ∧ w2.cell? ⟨gk, ok + 8, none⟩ = some (.string ⟨V.ty.toArray⟩) ∧ w2.cell? ⟨gk, ok + 8 + 1, none⟩ = some (.slice Vap V.ps.length Vmp) ∧ w2.cell? ⟨gk, ok + 8 + 2, none⟩ = some (.string ⟨#[55, 98, 105, 116]⟩) ∧ w2.cell? ⟨gk, ok + 8 + 3, none⟩ = some (.bool V.att) ∧ w2.cell? ⟨gk, ok + 8 + 4, none⟩ = some (.int .i64 (V.hd : Int)) ∧ w2.cell? ⟨gk, ok + 8 + 5, none⟩ = some (.int .i64 (Vf : Int)) ∧ w2.cell? ⟨gk, ok + 8 + 6, none⟩ = some (.int .i64 (Vt : Int)) ∧ w2.cell? ⟨gk, ok + 8 + 7, none⟩ = some (.slice Vak V.kids.length Vmk)) → (Below W5.heap.size W5 (World.alloc w2 o) ∧ (World.alloc w2 o).cell? ⟨G, 7, none⟩ = some (.slice (some ⟨gk, ok, none⟩) 2 mk) ∧ (World.alloc w2 o).cell? ⟨gk, ok + 7, none⟩ = some (.slice (some ⟨gx, ox, none⟩) 2 mk2) ∧ (World.alloc w2 o).cell? ⟨gx, ox, none⟩ = some (.string ⟨X.ty.toArray⟩) ∧ (World.alloc w2 o).cell? ⟨gx, ox + 1, none⟩ = some (.slice Xap X.ps.length Xmp) ∧ (World.alloc w2 o).cell? ⟨gx, ox + 2, none⟩ = some (.string ⟨#[55, 98, 105, 116]⟩) ∧ (World.alloc w2 o).cell? ⟨gx, ox + 3, none⟩ = some (.bool X.att) ∧ (World.alloc w2 o).cell? ⟨gx, ox + 4, none⟩ = some (.int .i64 (X.hd : Int)) ∧ (World.alloc w2 o).cell? ⟨gx, ox + 5, none⟩ = some (.int .i64 (Xf : Int)) ∧ (World.alloc w2 o).cell? ⟨gx, ox + 6, none⟩ = some (.int .i64 (Xt : Int)) ∧ (World.alloc w2 o).cell? ⟨gx, ox + 7, none⟩ = some (.slice Xak X.kids.length Xmk) ∧ (World.alloc w2 o).cell? ⟨gx, ox + 8, none⟩ = some (.string ⟨#[116, 101, 120, 116, 47, 104, 116, 109, 108]⟩) ∧ (World.alloc w2 o).cell? ⟨gx, ox + 8 + 1, none⟩ = some (.slice Yap Y.ps.length Ymp) ∧ (World.alloc w2 o).cell? ⟨gx, ox + 8 + 2, none⟩ = some (.string ⟨#[55, 98, 105, 116]⟩) ∧ (World.alloc w2 o).cell? ⟨gx, ox + 8 + 3, none⟩ = some (.bool Y.att) ∧ (World.alloc w2 o).cell? ⟨gx, ox + 8 + 4, none⟩ = some (.int .i64 (Y.hd : Int)) ∧ (World.alloc w2 o).cell? ⟨gx, ox + 8 + 5, none⟩ = some (.int .i64 (Yf : Int)) ∧ (World.alloc w2 o).cell? ⟨gx, ox + 8 + 6, none⟩ = some (.int .i64 (Yt : Int)) ∧ (World.alloc w2 o).cell? ⟨gx, ox + 8 + 7, none⟩ = some (.slice Yak Y.kids.length Ymk) ∧ (World.alloc w2 o).cell? ⟨gk, ok + 8, none⟩ = some (.string ⟨V.ty.toArray⟩) ∧ (World.alloc w2 o).cell? ⟨gk, ok + 8 + 1, none⟩ = some (.slice Vap V.ps.length Vmp) ∧ (World.alloc w2 o).cell? ⟨gk, ok + 8 + 2, none⟩ = some (.string ⟨#[55, 98, 105, 116]⟩) ∧ (World.alloc w2 o).cell? ⟨gk, ok + 8 + 3, none⟩ = some (.bool V.att) ∧ (World.alloc w2 o).cell? ⟨gk, ok + 8 + 4, none⟩ = some (.int .i64 (V.hd : Int)) ∧ (World.alloc w2 o).cell? ⟨gk, ok + 8 + 5, none⟩ = some (.int .i64 (Vf : Int)) ∧ (World.alloc w2 o).cell? ⟨gk, ok + 8 + 6, none⟩ = some (.int .i64 (Vt : Int)) ∧ (World.alloc w2 o).cell? ⟨gk, ok + 8 + 7, none⟩ = some (.slice Vak V.kids.length Vmk))) := Lib.hid (fun w2 o h => HSOF.out _ (h.1.alloc h.1.size _))
      have HS4 : Hid (∀ (o : Obj), (Below W5.heap.size W5 (World.drew (World.alloc W5 o)) ∧ (World.drew (World.alloc W5 o)).cell? ⟨G, 7, none⟩ = some (.slice (some ⟨gk, ok, none⟩) 2 mk) ∧ (World.drew (World.alloc W5 o)).cell? ⟨gk, ok + 7, none⟩ = some (.slice (some ⟨gx, ox, none⟩) 2 mk2) ∧ (World.drew (World.alloc W5 o)).cell? ⟨gx, ox, none⟩ = some (.string ⟨X.ty.toArray⟩) ∧ (World.drew (World.alloc W5 o)).cell? ⟨gx, ox + 1, none⟩ = some (.slice Xap X.ps.length Xmp) ∧ (World.drew (World.alloc W5 o)).cell? ⟨gx, ox + 2, none⟩ = some (.string ⟨#[55, 98, 105, 116]⟩) ∧ (World.drew (World.alloc W5 o)).cell? ⟨gx, ox + 3, none⟩ = some (.bool X.att) ∧ (World.drew (World.alloc W5 o)).cell? ⟨gx, ox + 4, none⟩ = some (.int .i64 (X.hd : Int)) ∧ (World.drew (World.alloc W5 o)).cell? ⟨gx, ox + 5, none⟩ = some (.int .i64 (Xf : Int)) ∧ (World.drew (World.alloc W5 o)).cell? ⟨gx, ox + 6, none⟩ = some (.int .i64 (Xt : Int)) ∧ (World.drew (World.alloc W5 o)).cell? ⟨gx, ox + 7, none⟩ = some (.slice Xak X.kids.length Xmk) ∧ (World.drew (World.alloc W5 o)).cell? ⟨gx, ox + 8, none⟩ = some (.string ⟨#[116, 101, 120, 116, 47, 104, 116, 109, 108]⟩) ∧ (World.drew (World.alloc W5 o)).cell? ⟨gx, ox + 8 + 1, none⟩ = some (.slice Yap Y.ps.length Ymp) ∧ (World.drew (World.alloc W5 o)).cell? ⟨gx, ox + 8 + 2, none⟩ = some (.string ⟨#[55, 98, 105, 116]⟩) ∧ (World.drew (World.alloc W5 o)).cell? ⟨gx, ox + 8 + 3, none⟩ = some (.bool Y.att) ∧ (World.drew (World.alloc W5 o)).cell? ⟨gx, ox + 8 + 4, none⟩ = some (.int .i64 (Y.hd : Int)) ∧ (World.drew (World.alloc W5 o)).cell? ⟨gx, ox + 8 + 5, none⟩ = some (.int .i64 (Yf : Int)) ∧ (World.drew (World.alloc W5 o)).cell? ⟨gx, ox + 8 + 6, none⟩ = some (.int .i64 (Yt : Int)) ∧ (World.drew (World.alloc W5 o)).cell? ⟨gx, ox + 8 + 7, none⟩ = some (.slice Yak Y.kids.length Ymk) ∧ (World.drew (World.alloc W5 o)).cell? ⟨gk, ok + 8, none⟩ = some (.string ⟨V.ty.toArray⟩) ∧ (World.drew (World.alloc W5 o)).cell? ⟨gk, ok + 8 + 1, none⟩ = some (.slice Vap V.ps.length Vmp) ∧ (World.drew (World.alloc W5 o)).cell? ⟨gk, ok + 8 + 2, none⟩ = some (.string ⟨#[55, 98, 105, 116]⟩) ∧ (World.drew (World.alloc W5 o)).cell? ⟨gk, ok + 8 + 3, none⟩ = some (.bool V.att) ∧ (World.drew (World.alloc W5 o)).cell? ⟨gk, ok + 8 + 4, none⟩ = some (.int .i64 (V.hd : Int)) ∧ (World.drew (World.alloc W5 o)).cell? ⟨gk, ok + 8 + 5, none⟩ = some (.int .i64 (Vf : Int)) ∧ (World.drew (World.alloc W5 o)).cell? ⟨gk, ok + 8 + 6, none⟩ = some (.int .i64 (Vt : Int)) ∧ (World.drew (World.alloc W5 o)).cell? ⟨gk, ok + 8 + 7, none⟩ = some (.slice Vak V.kids.length Vmk))) := Lib.hid (fun o => HSOF.out _ (((Below.refl _ W5).alloc (Nat.le_refl _) _).drew))
      have HS5 : Hid (∀ (o o2 : Obj), (Below W5.heap.size W5 (World.drew (World.alloc (World.alloc W5 o) o2)) ∧ (World.drew (World.alloc (World.alloc W5 o) o2)).cell? ⟨G, 7, none⟩ = some (.slice (some ⟨gk, ok, none⟩) 2 mk) ∧ (World.drew (World.alloc (World.alloc W5 o) o2)).cell? ⟨gk, ok + 7, none⟩ = some (.slice (some ⟨gx, ox, none⟩) 2 mk2) ∧ (World.drew (World.alloc (World.alloc W5 o) o2)).cell? ⟨gx, ox, none⟩ = some (.string ⟨X.ty.toArray⟩) ∧ (World.drew (World.alloc (World.alloc W5 o) o2)).cell? ⟨gx, ox + 1, none⟩ = some (.slice Xap X.ps.length Xmp) ∧ (World.drew (World.alloc (World.alloc W5 o) o2)).cell? ⟨gx, ox + 2, none⟩ = some (.string ⟨#[55, 98, 105, 116]⟩) ∧ (World.drew (World.alloc (World.alloc W5 o) o2)).cell? ⟨gx, ox + 3, none⟩ = some (.bool X.att) ∧ (World.drew (World.alloc (World.alloc W5 o) o2)).cell? ⟨gx, ox + 4, none⟩ = some (.int .i64 (X.hd : Int)) ∧ (World.drew (World.alloc (World.alloc W5 o) o2)).cell? ⟨gx, ox + 5, none⟩ = some (.int .i64 (Xf : Int)) ∧ (World.drew (World.alloc (World.alloc W5 o) o2)).cell? ⟨gx, ox + 6, none⟩ = some (.int .i64 (Xt : Int)) ∧ (World.drew (World.alloc (World.alloc W5 o) o2)).cell? ⟨gx, ox + 7, none⟩ = some (.slice Xak X.kids.length Xmk) ∧ (World.drew (World.alloc (World.alloc W5 o) o2)).cell? ⟨gx, ox + 8, none⟩ = some (.string ⟨#[116, 101, 120, 116, 47, 104, 116, 109, 108]⟩) ∧ (World.drew (World.alloc (World.alloc W5 o) o2)).cell? ⟨gx, ox + 8 + 1, none⟩ = some (.slice Yap Y.ps.length Ymp) ∧ (World.drew (World.alloc (World.alloc W5 o) o2)).cell? ⟨gx, ox + 8 + 2, none⟩ = some (.string ⟨#[55, 98, 105, 116]⟩) ∧ (World.drew (World.alloc (World.alloc W5 o) o2)).cell? ⟨gx, ox + 8 + 3, none⟩ = some (.bool Y.att) ∧ (World.drew (World.alloc (World.alloc W5 o) o2)).cell? ⟨gx, ox + 8 + 4, none⟩ = some (.int .i64 (Y.hd : Int)) ∧ (World.drew (World.alloc (World.alloc W5 o) o2)).cell? ⟨gx, ox + 8 + 5, none⟩ = some (.int .i64 (Yf : Int)) ∧ (World.drew (World.alloc (World.alloc W5 o) o2)).cell? ⟨gx, ox + 8 + 6, none⟩ = some (.int .i64 (Yt : Int)) ∧ (World.drew (World.alloc (World.alloc W5 o) o2)).cell? ⟨gx, ox + 8 + 7, none⟩ = some (.slice Yak Y.kids.length Ymk) ∧ (World.drew (World.alloc (World.alloc W5 o) o2)).cell? ⟨gk, ok + 8, none⟩ = some (.string ⟨V.ty.toArray⟩) ∧ (World.drew (World.alloc (World.alloc W5 o) o2)).cell? ⟨gk, ok + 8 + 1, none⟩ = some (.slice Vap V.ps.length Vmp) ∧ (World.drew (World.alloc (World.alloc W5 o) o2)).cell? ⟨gk, ok + 8 + 2, none⟩ = some (.string ⟨#[55, 98, 105, 116]⟩) ∧ (World.drew (World.alloc (World.alloc W5 o) o2)).cell? ⟨gk, ok + 8 + 3, none⟩ = some (.bool V.att) ∧ (World.drew (World.alloc (World.alloc W5 o) o2)).cell? ⟨gk, ok + 8 + 4, none⟩ = some (.int .i64 (V.hd : Int)) ∧ (World.drew (World.alloc (World.alloc W5 o) o2)).cell? ⟨gk, ok + 8 + 5, none⟩ = some (.int .i64 (Vf : Int)) ∧ (World.drew (World.alloc (World.alloc W5 o) o2)).cell? ⟨gk, ok + 8 + 6, none⟩ = some (.int .i64 (Vt : Int)) ∧ (World.drew (World.alloc (World.alloc W5 o) o2)).cell? ⟨gk, ok + 8 + 7, none⟩ = some (.slice Vak V.kids.length Vmk))) := Lib.hid (fun o o2 => HSOF.out _ ((((Below.refl _ W5).alloc (Nat.le_refl _) o).alloc (by simp) o2).drew))
      have HS6 : Hid (∀ (o o2 o3 : Obj), (Below W5.heap.size W5 (World.drew (World.alloc (World.alloc (World.alloc W5 o) o2) o3)) ∧ (World.drew (World.alloc (World.alloc (World.alloc W5 o) o2) o3)).cell? ⟨G, 7, none⟩ = some (.slice (some ⟨gk, ok, none⟩) 2 mk) ∧ (World.drew (World.alloc (World.alloc (World.alloc W5 o) o2) o3)).cell? ⟨gk, ok + 7, none⟩ = some (.slice (some ⟨gx, ox, none⟩) 2 mk2) ∧ (World.drew (World.alloc (World.alloc (World.alloc W5 o) o2) o3)).cell? ⟨gx, ox, none⟩ = some (.string ⟨X.ty.toArray⟩) ∧ (World.drew (World.alloc (World.alloc (World.alloc W5 o) o2) o3)).cell? ⟨gx, ox + 1, none⟩ = some (.slice Xap X.ps.length Xmp) ∧ (World.drew (World.alloc (World.alloc (World.alloc W5 o) o2) o3)).cell? ⟨gx, ox + 2, none⟩ = some (.string ⟨#[55, 98, 105, 116]⟩) ∧ (World.drew (World.alloc (World.alloc (World.alloc W5 o) o2) o3)).cell? ⟨gx, ox + 3, none⟩ = some (.bool X.att) ∧ (World.drew (World.alloc (World.alloc (World.alloc W5 o) o2) o3)).cell? ⟨gx, ox + 4, none⟩ = some (.int .i64 (X.hd : Int)) ∧ (World.drew (World.alloc (World.alloc (World.alloc W5 o) o2) o3)).cell? ⟨gx, ox + 5, none⟩ = some (.int .i64 (Xf : Int)) ∧ (World.drew (World.alloc (World.alloc (World.alloc W5 o) o2) o3)).cell? ⟨gx, ox + 6, none⟩ = some (.int .i64 (Xt : Int)) ∧ (World.drew (World.alloc (World.alloc (World.alloc W5 o) o2) o3)).cell? ⟨gx, ox + 7, none⟩ = some (.slice Xak X.kids.length Xmk) ∧ (World.drew (World.alloc (World.alloc (World.alloc W5 o) o2) o3)).cell? ⟨gx, ox + 8, none⟩ = some (.string ⟨#[116, 101, 120, 116, 47, 104, 116, 109, 108]⟩) ∧ (World.drew (World.alloc (World.alloc (World.alloc W5 o) o2) o3)).cell? ⟨gx, ox + 8 + 1, none⟩ = some (.slice Yap Y.ps.length Ymp) ∧ (World.drew (World.alloc (World.alloc (World.alloc W5 o) o2) o3)).cell? ⟨gx, ox + 8 + 2, none⟩ = some (.string ⟨#[55, 98, 105, 116]⟩) ∧ (World.drew (World.alloc (World.alloc (World.alloc W5 o) o2) o3)).cell? ⟨gx, ox + 8 + 3, none⟩ = some (.bool Y.att) ∧ (World.drew (World.alloc (World.alloc (World.alloc W5 o) o2) o3)).cell? ⟨gx, ox + 8 + 4, none⟩ = some (.int .i64 (Y.hd : Int)) ∧ (World.drew (World.alloc (World.alloc (World.alloc W5 o) o2) o3)).cell? ⟨gx, ox + 8 + 5, none⟩ = some (.int .i64 (Yf : Int)) ∧ (World.drew (World.alloc (World.alloc (World.alloc W5 o) o2) o3)).cell? ⟨gx, ox + 8 + 6, none⟩ = some (.int .i64 (Yt : Int)) ∧ (World.drew (World.alloc (World.alloc (World.alloc W5 o) o2) o3)).cell? ⟨gx, ox + 8 + 7, none⟩ = some (.slice Yak Y.kids.length Ymk) ∧ (World.drew (World.alloc (World.alloc (World.alloc W5 o) o2) o3)).cell? ⟨gk, ok + 8, none⟩ = some (.string ⟨V.ty.toArray⟩) ∧ (World.drew (World.alloc (World.alloc (World.alloc W5 o) o2) o3)).cell? ⟨gk, ok + 8 + 1, none⟩ = some (.slice Vap V.ps.length Vmp) ∧ (World.drew (World.alloc (World.alloc (World.alloc W5 o) o2) o3)).cell? ⟨gk, ok + 8 + 2, none⟩ = some (.string ⟨#[55, 98, 105, 116]⟩) ∧ (World.drew (World.alloc (World.alloc (World.alloc W5 o) o2) o3)).cell? ⟨gk, ok + 8 + 3, none⟩ = some (.bool V.att) ∧ (World.drew (World.alloc (World.alloc (World.alloc W5 o) o2) o3)).cell? ⟨gk, ok + 8 + 4, none⟩ = some (.int .i64 (V.hd : Int)) ∧ (World.drew (World.alloc (World.alloc (World.alloc W5 o) o2) o3)).cell? ⟨gk, ok + 8 + 5, none⟩ = some (.int .i64 (Vf : Int)) ∧ (World.drew (World.alloc (World.alloc (World.alloc W5 o) o2) o3)).cell? ⟨gk, ok + 8 + 6, none⟩ = some (.int .i64 (Vt : Int)) ∧ (World.drew (World.alloc (World.alloc (World.alloc W5 o) o2) o3)).cell? ⟨gk, ok + 8 + 7, none⟩ = some (.slice Vak V.kids.length Vmk))) := Lib.hid (fun o o2 o3 => HSOF.out _ (((((Below.refl _ W5).alloc (Nat.le_refl _) o).alloc (by simp) o2).alloc (by simp; omega) o3).drew))
      go_cut [13, 14, 15] from 74 to 91 (fun px py pz wx => ∃ x y z : Nat, px = .pointer (some ⟨x, 0, none⟩) ∧ py = .pointer (some ⟨y, 0, none⟩) ∧ pz = .pointer (some ⟨z, 0, none⟩) ∧ Bx x (.string ⟨X.ty.toArray⟩) (.slice Xap X.ps.length Xmp) (.string ⟨#[55, 98, 105, 116]⟩) (.bool X.att) (.int .i64 (X.hd : Int)) (.int .i64 (Xf : Int)) (.int .i64 (Xt : Int)) (.slice Xak X.kids.length Xmk) wx ∧ Bx y (.string ⟨#[116, 101, 120, 116, 47, 104, 116, 109, 108]⟩) (.slice Yap Y.ps.length Ymp) (.string ⟨#[55, 98, 105, 116]⟩) (.bool Y.att) (.int .i64 (Y.hd : Int)) (.int .i64 (Yf : Int)) (.int .i64 (Yt : Int)) (.slice Yak Y.kids.length Ymk) wx ∧ Bx z (.string ⟨V.ty.toArray⟩) (.slice Vap V.ps.length Vmp) (.string ⟨#[55, 98, 105, 116]⟩) (.bool V.att) (.int .i64 (V.hd : Int)) (.int .i64 (Vf : Int)) (.int .i64 (Vt : Int)) (.slice Vak V.kids.length Vmk) wx ∧ Hid (Below W5.heap.size W5 wx))
      case first =>
        go_region_held3 (fun w' => (Below W5.heap.size W5 w' ∧ w'.cell? ⟨G, 7, none⟩ = some (.slice (some ⟨gk, ok, none⟩) 2 mk) ∧ w'.cell? ⟨gk, ok + 7, none⟩ = some (.slice (some ⟨gx, ox, none⟩) 2 mk2) ∧ w'.cell? ⟨gx, ox, none⟩ = some (.string ⟨X.ty.toArray⟩) ∧ w'.cell? ⟨gx, ox + 1, none⟩ = some (.slice Xap X.ps.length Xmp) ∧ w'.cell? ⟨gx, ox + 2, none⟩ = some (.string ⟨#[55, 98, 105, 116]⟩) ∧ w'.cell? ⟨gx, ox + 3, none⟩ = some (.bool X.att) ∧ w'.cell? ⟨gx, ox + 4, none⟩ = some (.int .i64 (X.hd : Int)) ∧ w'.cell? ⟨gx, ox + 5, none⟩ = some (.int .i64 (Xf : Int)) ∧ w'.cell? ⟨gx, ox + 6, none⟩ = some (.int .i64 (Xt : Int)) ∧ w'.cell? ⟨gx, ox + 7, none⟩ = some (.slice Xak X.kids.length Xmk) ∧ w'.cell? ⟨gx, ox + 8, none⟩ = some (.string ⟨#[116, 101, 120, 116, 47, 104, 116, 109, 108]⟩) ∧ w'.cell? ⟨gx, ox + 8 + 1, none⟩ = some (.slice Yap Y.ps.length Ymp) ∧ w'.cell? ⟨gx, ox + 8 + 2, none⟩ = some (.string ⟨#[55, 98, 105, 116]⟩) ∧ w'.cell? ⟨gx, ox + 8 + 3, none⟩ = some (.bool Y.att) ∧ w'.cell? ⟨gx, ox + 8 + 4, none⟩ = some (.int .i64 (Y.hd : Int)) ∧ w'.cell? ⟨gx, ox + 8 + 5, none⟩ = some (.int .i64 (Yf : Int)) ∧ w'.cell? ⟨gx, ox + 8 + 6, none⟩ = some (.int .i64 (Yt : Int)) ∧ w'.cell? ⟨gx, ox + 8 + 7, none⟩ = some (.slice Yak Y.kids.length Ymk) ∧ w'.cell? ⟨gk, ok + 8, none⟩ = some (.string ⟨V.ty.toArray⟩) ∧ w'.cell? ⟨gk, ok + 8 + 1, none⟩ = some (.slice Vap V.ps.length Vmp) ∧ w'.cell? ⟨gk, ok + 8 + 2, none⟩ = some (.string ⟨#[55, 98, 105, 116]⟩) ∧ w'.cell? ⟨gk, ok + 8 + 3, none⟩ = some (.bool V.att) ∧ w'.cell? ⟨gk, ok + 8 + 4, none⟩ = some (.int .i64 (V.hd : Int)) ∧ w'.cell? ⟨gk, ok + 8 + 5, none⟩ = some (.int .i64 (Vf : Int)) ∧ w'.cell? ⟨gk, ok + 8 + 6, none⟩ = some (.int .i64 (Vt : Int)) ∧ w'.cell? ⟨gk, ok + 8 + 7, none⟩ = some (.slice Vak V.kids.length Vmk)))
          (first | with_reducible exact HSD.out | with_reducible exact HS4.out _ | with_reducible exact HS5.out _ _ | with_reducible exact HS6.out _ _ _ | with_reducible exact HS1.out _ _ (by assumption))
          (first | fail)
        all_goals
          go_wp2
          go_meet
          refine ⟨_, _, _, rfl, rfl, rfl, ?_, ?_, ?_, Lib.hid (below3 W5 _ _ _)⟩
          all_goals first | exact bx3_0 W5 _ _ _ _ _ _ _ _ _ _ | exact bx3_1 W5 _ _ _ _ _ _ _ _ _ _ | exact bx3_2 W5 _ _ _ _ _ _ _ _ _ _
      case rest =>
        obtain ⟨x, y, z, rfl, rfl, rfl, hx, hy, hz, HBW⟩ := hcut
        have HXB := Lib.hid hx
        have HYB := Lib.hid hy
        have HZB := Lib.hid hz
        clear hx hy hz
        have HCW : Hid (Below w.heap.size w wc) := Lib.hid (HB5.out.trans (HBW.out.mono HB5.out.size))
        have HXC : Hid ((ByteArray.mk (contL S.data.toList bit7 Xf Xt).toArray) = CA) := Lib.hid (by rw [HX2.out.2.2.2])
        have HYC : Hid ((ByteArray.mk (contL S.data.toList bit7 Yf Yt).toArray) = CB) := Lib.hid (by rw [HY2.out.2.2.2])
        have HVC : Hid ((ByteArray.mk (contL S.data.toList bit7 Vf Vt).toArray) = CC) := Lib.hid (by rw [HV2.out.2.2.2])
        have u0 := HXB.out.p0
        have u1 := HXB.out.p1
        have u2 := HXB.out.p2
        have u3 := HXB.out.p3
        have u4 := HXB.out.p4
        have u5 := HXB.out.p5
        have u6 := HXB.out.p6
        have u7 := HXB.out.p7
        go_wp2_with fail
        refine (content_any S bit7 Xf Xt _ _ _ _ _ wc (by omega) HX2.out.2.1 HX2.out.2.2.1 (HE.out.next HCW.out)).mono ?_
        rintro e w6 ⟨rfl, hb6⟩
        rw [HXC.out]
        have HB6 := Lib.hid hb6
        have HC6 := Lib.hid (HCW.out.trans (hb6.mono HCW.out.size))
        clear u0 u1 u2 u3 u4 u5 u6 u7 hb6
        have HY6 := Lib.hid (HYB.out.below HB6.out)
        have u0 := HY6.out.p0
        have u1 := HY6.out.p1
        have u2 := HY6.out.p2
        have u3 := HY6.out.p3
        have u4 := HY6.out.p4
        have u5 := HY6.out.p5
        have u6 := HY6.out.p6
        have u7 := HY6.out.p7
        go_wp2_with fail
        refine (content_any S bit7 Yf Yt _ _ _ _ _ w6 (by omega) HY2.out.2.1 HY2.out.2.2.1 (HE.out.next HC6.out)).mono ?_
        rintro e w7 ⟨rfl, hb7⟩
        rw [HYC.out]
        have HB7 := Lib.hid hb7
        have HC7 := Lib.hid (HC6.out.trans (hb7.mono HC6.out.size))
        have HY7 := Lib.hid (HY6.out.below HB7.out)
        have HV7 := Lib.hid ((HZB.out.below HB6.out).below HB7.out)
        clear u0 u1 u2 u3 u4 u5 u6 u7 hb7
        have u0 := HV7.out.p0
        have u1 := HV7.out.p1
        have u2 := HV7.out.p2
        have u3 := HV7.out.p3
        have u4 := HV7.out.p4
        have u5 := HV7.out.p5
        have u6 := HV7.out.p6
        have u7 := HV7.out.p7
        go_wp2_with fail
        refine (content_any S bit7 Vf Vt _ _ _ _ _ w7 (by omega) HV2.out.2.1 HV2.out.2.2.1 (HE.out.next HC7.out)).mono ?_
        rintro e w8 ⟨rfl, hb8⟩
        rw [HVC.out]
        have HB8 := Lib.hid hb8
        have HC8 := Lib.hid (HC7.out.trans (hb8.mono HC7.out.size))
        clear u0 u1 u2 u3 u4 u5 u6 u7 hb8
        have u0 := (HY7.out.below HB8.out).p0
        go_wp2_with fail
        refine (awake_any HT.out w8 (HE.out.next HC8.out)).mono ?_
        rintro e w9 ⟨rfl, hb9⟩
        go_wp2
        go_ret
        exact ⟨rfl, HC8.out.trans (hb9.mono HC8.out.size)⟩
end Go.Proofs.YtkmopneeafbeaaaDoor.Pt
namespace Go.Proofs.YtkmopneeafbeaaaDoor.Pt
open Go Go.RowKit Go.Joins Kit F0

theorem partNested_walk (a b c : ByteArray) (opn : Bool) (w : World) (hE : Srch.Env w) :
    Calls Tryd.prog 8 #[.string a, .string b, .string c, .bool opn] w fun e w' => e = .returned (.bool true) ∧ Below w.heap.size w w' := partNested_of tree_ok a b c opn w hE
end Go.Proofs.YtkmopneeafbeaaaDoor.Pt
