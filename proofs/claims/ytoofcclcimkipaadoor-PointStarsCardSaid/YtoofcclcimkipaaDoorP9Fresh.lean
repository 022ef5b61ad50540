/-
  The program's fresh: a value in memory of its own, by way of Find. Condition: Tame.
-/
import Derived.Test.YtoofcclcimkipaaDoorJ8CFy
import Derived.Test.YtoofcclcimkipaaDoorEnv
namespace Go.Proofs.YtoofcclcimkipaaDoor.J9
open Go Go.RowKit Go.Joins Kit J7 Nds J8

/-- An object of one value, at the key of no bytes. -/
def wrapJ (n : J) : J := .mk 7 0 ⟨#[]⟩ [⟨#[]⟩] [n]
theorem tame_wrap {a : J} (h : Tame a) : Tame (wrapJ a) := Tame.mk 7 0 ⟨#[]⟩ [⟨#[]⟩] [a] (by simp) (by simp) (by decide) (fun q hq => by
  have h0 : q = 0 := by have : q < 1 := hq; omega
  subst h0
  show (⟨#[]⟩ : ByteArray).size ≤ 300000
  decide) (fun i hi => by
  have h0 : i = 0 := by have : i < 1 := hi; omega
  subst h0
  exact h)
theorem found_wrap (a : J) : J8.Found (wrapJ a) ⟨#[]⟩ 0 := ⟨rfl, by show 0 < 1; decide, by show 0 < 1; decide, rfl, fun j h => absurd h (Nat.not_lt_zero j)⟩
theorem in_wrap {w : World} {a : J} {c0 c1 c2 c3 c4 : Value} {S N : Nat} (h : NodeIn w a (.agg #[c0, c1, c2, c3, c4])) (hS : w.heap[S]? = some (.cells #[.string ⟨#[]⟩] 9 (0, 0))) (hN : w.heap[N]? = some (.cells #[c0, c1, c2, c3, c4] 25 (0, 0))) :
    NodeIn w (wrapJ a) (.agg #[.int .i64 7, .int .i64 0, .string ⟨#[]⟩, .slice (some ⟨S, 0, none⟩) 1 1, .slice (some ⟨N, 0, none⟩) 1 1]) := by
  refine NodeIn.mk 7 0 ⟨#[]⟩ [⟨#[]⟩] [a] _ (some ⟨N, 0, none⟩) 1 (fun _ m => [c0, c1, c2, c3, c4].getD m c0) ⟨some ⟨S, 0, none⟩, 1, rfl, fun j hj => ?_⟩ (fun i hi => ?_) (fun i hi => ?_)
  · have h0 : j = 0 := by have : j < 1 := hj; omega
    subst h0
    exact ⟨S, 0, rfl, by rw [Lib.cell_of_heap hS]; rfl⟩
  · have h0 : i = 0 := by have : i < 1 := hi; omega
    subst h0
    refine ⟨N, 0, rfl, fun m hm => ?_⟩
    rw [Lib.cell_of_heap hN]
    match m, hm with
    | 0, _ => rfl
    | 1, _ => rfl
    | 2, _ => rfl
    | 3, _ => rfl
    | 4, _ => rfl
  · have h0 : i = 0 := by have : i < 1 := hi; omega
    subst h0
    exact h

set_option maxHeartbeats 8000000 in
set_option maxRecDepth 100000 in
theorem fresh9 (a : J) (ht : Tame a) (w : World) (c0 c1 c2 c3 c4 : Value) (hc : NodeIn w a (.agg #[c0, c1, c2, c3, c4])) :
    Calls Tryd.prog 23 #[.agg #[c0, c1, c2, c3, c4]] w fun e w' => ∃ d0 d1 d2 d3 d4, e = .returned (.agg #[d0, d1, d2, d3, d4]) ∧ NodeAt (fun q => w.heap.size ≤ q) w' a (.agg #[d0, d1, d2, d3, d4]) ∧ Below w.heap.size w w' := by
  obtain ⟨xk, xn, xt, xa, xl, xc, xb, xm, xd, rfl, rfl, rfl, rfl, rfl⟩ := in_forms hc
  obtain ⟨W, hW⟩ : ∃ W, ((w.alloc (.cells #[.int .i64 xk, .int .i64 xn, .string xt, .slice xa xl xc, .slice xb xm xd] 25)).alloc (.cells #[.int .i64 0, .int .i64 0, .string ⟨#[]⟩, .slice none 0 0, .slice none 0 0] 25)) = W := ⟨_, rfl⟩
  have hb0 : Below w.heap.size w W := by rw [← hW]; exact ((Below.refl _ w).alloc (Nat.le_refl _) _).alloc (by simp) _
  have hA : Bx w.heap.size (.int .i64 xk) (.int .i64 xn) (.string xt) (.slice xa xl xc) (.slice xb xm xd) W := by rw [← hW]; exact (Bx.made w _ _ _ _ _).alloc _
  have hR : Bx (w.heap.size + 1) (.int .i64 0) (.int .i64 0) (.string ⟨#[]⟩) (.slice none 0 0) (.slice none 0 0) W := by
    rw [← hW]
    have h9 := Bx.made (w.alloc (.cells #[.int .i64 xk, .int .i64 xn, .string xt, .slice xa xl xc, .slice xb xm xd] 25)) (.int .i64 0) (.int .i64 0) (.string ⟨#[]⟩) (.slice none 0 0) (.slice none 0 0)
    simpa using h9
  obtain ⟨V, hV⟩ : ∃ V, W.alloc (.cells #[.string ⟨#[]⟩] 9) = V := ⟨_, rfl⟩
  have hbV : Below W.heap.size W V := by rw [← hV]; exact (Below.refl _ W).alloc (Nat.le_refl _) _
  obtain ⟨U, hU⟩ : ∃ U, V.alloc (.cells #[.int .i64 xk, .int .i64 xn, .string xt, .slice xa xl xc, .slice xb xm xd] 25) = U := ⟨_, rfl⟩
  have hbU : Below V.heap.size V U := by rw [← hU]; exact (Below.refl _ V).alloc (Nat.le_refl _) _
  have hSV : V.heap[W.heap.size]? = some (.cells #[.string ⟨#[]⟩] 9 (0, 0)) := by rw [← hV]; exact Kit.fresh_block W _ _
  have hzV : V.heap.size = W.heap.size + 1 := by rw [← hV]; simp
  have hSU : U.heap[W.heap.size]? = some (.cells #[.string ⟨#[]⟩] 9 (0, 0)) := by rw [hbU.block _ (by omega)]; exact hSV
  have hNU : U.heap[V.heap.size]? = some (.cells #[.int .i64 xk, .int .i64 xn, .string xt, .slice xa xl xc, .slice xb xm xd] 25 (0, 0)) := by rw [← hU]; exact Kit.fresh_block V _ _
  have hbWU : Below W.heap.size W U := hbV.trans (hbU.mono (by omega))
  have hin := in_wrap (node_below (hb0.trans (hbWU.mono hb0.size)) hc) hSU hNU
  have hfd := cfind_at (wrapJ a) (tame_wrap ht) ⟨#[]⟩ 0 (found_wrap a) U _ _ _ _ _ hin
  have hAV := hA.same (hbV.block _ hA.lt)
  have hRU := hR.same (hbWU.block _ hR.lt)
  have HRU := Lib.hid hRU
  have HB := Lib.hid (hb0.trans (hbWU.mono hb0.size))
  have HW := Lib.hid hW
  have HV := Lib.hid hV
  have HU := Lib.hid hU
  have HRL : Hid (w.heap.size + 1 < U.heap.size) := Lib.hid hRU.lt
  obtain ⟨G, hG⟩ : ∃ G, w.heap.size = G := ⟨_, rfl⟩
  rw [hG, ← hV] at hAV
  rw [hG] at HRL
  have HG := Lib.hid hG
  rw [hzV] at hfd
  have p0 := hAV.p0
  have p1 := hAV.p1
  have p2 := hAV.p2
  have p3 := hAV.p3
  have p4 := hAV.p4
  clear hW hV hU hb0 hbV hbU hSV hzV hSU hNU hbWU hin hA hR hAV hRU hG hc
  go_enter Tryd.func23, Tryd.ntmps23
  go_upto_region 1 with fail
  rw [HW.out]
  (try rw [HG.out])
  go_wp2_with fail
  rw [HV.out, HU.out]
  refine hfd.mono ?_
  rintro e w1 ⟨y0, y1, y2, y3, y4, rfl, hy', hb2⟩
  have hy : NodeAt (fun q => U.heap.size ≤ q) w1 a (.agg #[y0, y1, y2, y3, y4]) := hy'
  obtain ⟨yk, yn, yt, ya, yl, yc, yb, ym, yd, rfl, rfl, rfl, rfl, rfl⟩ := in_forms (in_of_at hy)
  have hR2 := (HRU.out.same (hb2.block _ HRU.out.lt)).alloc (.cells #[.int .i64 yk, .int .i64 yn, .string yt, .slice ya yl yc, .slice yb ym yd] 25)
  rw [HG.out] at hR2
  have u0 := hR2.p0
  have u1 := hR2.p1
  have u2 := hR2.p2
  have u3 := hR2.p3
  have u4 := hR2.p4
  have k0 := hR2.free 0
  have k1 := hR2.free 1
  have k2 := hR2.free 2
  have k3 := hR2.free 3
  have k4 := hR2.free 4
  have HX : Hid (Bx w1.heap.size (.int .i64 yk) (.int .i64 yn) (.string yt) (.slice ya yl yc) (.slice yb ym yd) (w1.alloc (.cells #[.int .i64 yk, .int .i64 yn, .string yt, .slice ya yl yc, .slice yb ym yd] 25))) := Lib.hid (Bx.made w1 _ _ _ _ _)
  have HY := Lib.hid hy
  have HR2 := Lib.hid hR2
  have HB2 : Hid (Below w.heap.size w (w1.alloc (.cells #[.int .i64 yk, .int .i64 yn, .string yt, .slice ya yl yc, .slice yb ym yd] 25))) := Lib.hid ((HB.out.trans (hb2.mono HB.out.size)).alloc (HB.out.trans (hb2.mono HB.out.size)).size _)
  have HLT : Hid (U.heap.size ≤ w1.heap.size) := Lib.hid hb2.size
  clear hb2 hfd hy' hy hR2 p0 p1 p2 p3 p4
  go_wp2_with fail
  refine bodyPost_ret (node_result rfl _ rfl (HR2.out.setAll _ _ _ _ _)) rfl ?_
  have hw : w.heap.size ≤ G + 1 := by rw [HG.out]; exact Nat.le_succ _
  have hat : NodeAt (fun q => U.heap.size ≤ q) (w1.alloc (.cells #[.int .i64 yk, .int .i64 yn, .string yt, .slice ya yl yc, .slice yb ym yd] 25)) a (.agg #[.int .i64 yk, .int .i64 yn, .string yt, .slice ya yl yc, .slice yb ym yd]) := HY.out.keep (fun q hq hl => ⟨hq, Below.heap_alloc w1 _ q hl⟩)
  refine ⟨_, _, _, _, _, rfl, hat.keep (P' := fun q => w.heap.size ≤ q) (fun q hq _ => ⟨Nat.le_trans HB.out.size hq, putN_block _ (G + 1) _ _ _ _ _ q (by have : U.heap.size ≤ q := hq; have := HRL.out; omega)⟩), putN_below HB2.out hw _ _ _ _ _⟩
end Go.Proofs.YtoofcclcimkipaaDoor.J9
