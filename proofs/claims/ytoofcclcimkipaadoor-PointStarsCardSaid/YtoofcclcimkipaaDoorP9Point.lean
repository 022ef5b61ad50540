/-
  The document's Point, as the statements have it: what a path leads to in a value, or why to nothing. Conditions: Tame, at most 2000 values.
-/
import Derived.Test.YtoofcclcimkipaaDoorJ9Ref
import Derived.Test.YtoofcclcimkipaaDoorJ8At
namespace Go.Proofs.YtoofcclcimkipaaDoor.J9
open Go Go.RowKit Go.Joins Kit J7 Nds J8

def nilJ : J := .mk 0 0 ⟨#[]⟩ [] []
theorem nil_in (w : World) : NodeIn w nilJ zeroAgg :=
  NodeIn.mk 0 0 ⟨#[]⟩ [] [] (.slice none 0 0) none 0 (fun _ _ => .int .i64 0) ⟨none, 0, rfl, fun j hj => absurd hj (Nat.not_lt_zero j)⟩ (fun i hi => absurd hi (Nat.not_lt_zero i)) (fun i hi => absurd hi (Nat.not_lt_zero i))
theorem point_result {fn : Func} {p q : Tmp} (h : fn.results = #[.cell p 25, .tmp q]) (tmps : Array Value) {w : World} {G : Nat} {c0 c1 c2 c3 c4 : Value} {b : Value}
    (hp : tmps.getD p undef = .pointer (some ⟨G, 0, none⟩)) (hq : tmps.getD q undef = b) (hb : Bx G c0 c1 c2 c3 c4 w) : (results fn tmps).run Tryd.prog w = .ok (.tuple #[.agg #[c0, c1, c2, c3, c4], b]) w := by
  have hp' : tmps[p]?.getD undef = .pointer (some ⟨G, 0, none⟩) := by simpa using hp
  have hq' : tmps[q]?.getD undef = b := by simpa using hq
  have hl := run_loadVar_row (P := Tryd.prog) w G 25 25 _ _ _ hb.blk Tryd.underlying25 rfl (by kernel_rfl)
  simp [results, h, hp', hq', asAddr, hl]
/-- What a path leads to, and the number of why to nothing. -/
noncomputable def pointP (n : J) (x : ByteArray) : J × Int :=
  if rightP 0 n = false then (nilJ, 1) else match partsP x with
    | none => (nilJ, 3)
    | some l => match followP num9 l n with
      | none => (nilJ, 7)
      | some y => (y, 0)
/-- What is left of both. -/
def PointLeft (n : J) (x : ByteArray) (w : World) (e : Ending) (w' : World) : Prop :=
  ∃ c0 c1 c2 c3 c4, e = .returned (.tuple #[.agg #[c0, c1, c2, c3, c4], .int .i64 (pointP n x).2]) ∧ NodeIn w' (pointP n x).1 (.agg #[c0, c1, c2, c3, c4]) ∧ Below w.heap.size w w'
theorem left_nil {n : J} {x : ByteArray} {c : Int} {w w' : World} (h : pointP n x = (nilJ, c)) (hb : Below w.heap.size w w') : PointLeft n x w (.returned (.tuple #[zeroAgg, .int .i64 c])) w' := by
  unfold PointLeft
  rw [h]
  exact ⟨_, _, _, _, _, rfl, nil_in w', hb⟩
theorem point_1 {n : J} {x : ByteArray} (h : rightP 0 n = false) : pointP n x = (nilJ, 1) := by unfold pointP; rw [if_pos h]
theorem point_3 {n : J} {x : ByteArray} (h : rightP 0 n = true) (hp : partsP x = none) : pointP n x = (nilJ, 3) := by unfold pointP; rw [if_neg (by rw [h]; decide), hp]
theorem point_7 {n : J} {x : ByteArray} {l : List ByteArray} (h : rightP 0 n = true) (hp : partsP x = some l) (hf : followP num9 l n = none) : pointP n x = (nilJ, 7) := by unfold pointP; rw [if_neg (by rw [h]; decide), hp]; simp only [hf]
theorem point_0 {n y : J} {x : ByteArray} {l : List ByteArray} (h : rightP 0 n = true) (hp : partsP x = some l) (hf : followP num9 l n = some y) : pointP n x = (y, 0) := by unfold pointP; rw [if_neg (by rw [h]; decide), hp]; simp only [hf]
theorem right_of {n : J} (h : rightP 0 n = true) : RightIn 0 n := by
  unfold rightP at h
  exact @of_decide_eq_true _ (Classical.propDecidable _) h
set_option maxHeartbeats 1000000 in
set_option maxRecDepth 100000 in
theorem rRight9 {a : J} (ht : Tame a) {w : World} {c0 c1 c2 c3 c4 : Value} (hN : NodeIn w a (.agg #[c0, c1, c2, c3, c4])) :
    Calls Tryd.prog 14 #[.agg #[c0, c1, c2, c3, c4]] w fun e w' => e = .returned (.bool (rightP 0 a)) ∧ Below w.heap.size w w' := by
  obtain ⟨k, n, t, a3, n3, m3, a4, n4, m4, rfl, rfl, rfl, rfl, rfl⟩ := in_forms hN
  have hb0 : Below w.heap.size w (w.alloc (.cells #[.int .i64 k, .int .i64 n, .string t, .slice a3 n3 m3, .slice a4 n4 m4] 25)) := (Below.refl _ w).alloc (Nat.le_refl _) _
  have h := right_in a ht 0 _ _ _ _ _ _ (by decide) (node_below hb0 hN)
  clear hN
  go_enter Tryd.func14, Tryd.ntmps14
  go_wp2_with fail
  refine h.mono ?_
  rintro e w1 ⟨rfl, hb1⟩
  go_wp2_with fail
  go_ret
  exact ⟨rfl, hb0.trans (hb1.mono hb0.size)⟩

set_option maxHeartbeats 8000000 in
set_option maxRecDepth 100000 in
theorem rpoint9 (n : J) (ht : Tame n) (hcn : cnt n ≤ 2000) (x : ByteArray) (w : World) (c0 c1 c2 c3 c4 : Value) (hN : NodeIn w n (.agg #[c0, c1, c2, c3, c4])) :
    Calls Tryd.prog 11 #[.agg #[c0, c1, c2, c3, c4], .string x] w (PointLeft n x w) := by
  obtain ⟨xk, xn, xt, xa, xl, xc, xb, xm, xd, rfl, rfl, rfl, rfl, rfl⟩ := in_forms hN
  obtain ⟨W, hW⟩ : ∃ W, ((w.alloc (.cells #[.int .i64 xk, .int .i64 xn, .string xt, .slice xa xl xc, .slice xb xm xd] 25)).alloc (.cells #[.int .i64 0, .int .i64 0, .string ⟨#[]⟩, .slice none 0 0, .slice none 0 0] 25)) = W := ⟨_, rfl⟩
  have hb0 : Below w.heap.size w W := by rw [← hW]; exact ((Below.refl _ w).alloc (Nat.le_refl _) _).alloc (by simp) _
  have hA : Bx w.heap.size (.int .i64 xk) (.int .i64 xn) (.string xt) (.slice xa xl xc) (.slice xb xm xd) W := by rw [← hW]; exact (Bx.made w _ _ _ _ _).alloc _
  have hR : Bx (w.heap.size + 1) (.int .i64 0) (.int .i64 0) (.string ⟨#[]⟩) (.slice none 0 0) (.slice none 0 0) W := by
    rw [← hW]
    have h9 := Bx.made (w.alloc (.cells #[.int .i64 xk, .int .i64 xn, .string xt, .slice xa xl xc, .slice xb xm xd] 25)) (.int .i64 0) (.int .i64 0) (.string ⟨#[]⟩) (.slice none 0 0) (.slice none 0 0)
    simpa using h9
  have hrt := rRight9 ht (node_below hb0 hN)
  have HB := Lib.hid hb0
  have HN := Lib.hid hN
  have HT := Lib.hid ht
  have HCN := Lib.hid hcn
  obtain ⟨G, hG⟩ : ∃ G, w.heap.size = G := ⟨_, rfl⟩
  rw [hG] at hA hR
  have HG := Lib.hid hG
  have HW := Lib.hid hW
  have HR := Lib.hid hR
  have HA := Lib.hid hA
  have p0 := hA.p0
  have p1 := hA.p1
  have p2 := hA.p2
  have p3 := hA.p3
  have p4 := hA.p4
  have hGl := hR.lt
  obtain ⟨b, hb⟩ : ∃ b, rightP 0 n = b := ⟨_, rfl⟩
  rw [hb] at hrt
  have HRT := Lib.hid hb
  clear hN hb0 hW hA hR ht hcn hb
  go_enter Tryd.func11, Tryd.ntmps11
  go_upto_region 1 with fail
  rw [HW.out]
  (try rw [hG])
  go_wp2_with fail
  refine hrt.mono ?_
  rintro e w1 ⟨rfl, hb1⟩
  have hR1 := HR.out.same (hb1.block _ hGl)
  have HR1 := Lib.hid hR1
  have HB1 := Lib.hid (HB.out.trans (hb1.mono HB.out.size))
  have HW1 : Hid (Below W.heap.size W w1) := Lib.hid hb1
  have hw : w.heap.size ≤ G + 1 := by rw [hG]; exact Nat.le_succ _
  cases b
  · have f0 := hR1.free 0
    have f1 := hR1.free 1
    have f2 := hR1.free 2
    have f3 := hR1.free 3
    have f4 := hR1.free 4
    have q0 := hR1.p0
    have q1 := hR1.p1
    have q2 := hR1.p2
    have q3 := hR1.p3
    have q4 := hR1.p4
    clear hb1 hR1 p0 p1 p2 p3 p4 hrt
    go_wp2_with fail
    refine bodyPost_ret (point_result rfl _ rfl rfl (HR1.out.setAll _ _ _ _ _)) rfl ?_
    exact left_nil (point_1 HRT.out) (putN_below HB1.out hw _ _ _ _ _)
  have hpt := parts_any x w1
  obtain ⟨o, ho⟩ : ∃ o, partsP x = o := ⟨_, rfl⟩
  rw [ho] at hpt
  have HP := Lib.hid ho
  clear ho hb1 hR1 p0 p1 p2 p3 p4 hrt
  go_wp2_with fail
  refine hpt.mono ?_
  rintro e w2 ⟨hb2, hl⟩
  have hR2 := HR1.out.same (hb2.block _ HR1.out.lt)
  have HR2 := Lib.hid hR2
  have HB2 := Lib.hid (HB1.out.trans (hb2.mono HB1.out.size))
  have HW2 : Hid (Below W.heap.size W w2) := Lib.hid (HW1.out.trans (hb2.mono HW1.out.size))
  cases o with
  | none =>
    have hl' : e = .returned (.tuple #[.slice none 0 0, .bool false]) := hl
    subst hl'
    have f0 := hR2.free 0
    have f1 := hR2.free 1
    have f2 := hR2.free 2
    have f3 := hR2.free 3
    have f4 := hR2.free 4
    have q0 := hR2.p0
    have q1 := hR2.p1
    have q2 := hR2.p2
    have q3 := hR2.p3
    have q4 := hR2.p4
    clear hb2 hR2 hpt hl
    go_wp2_with fail
    refine bodyPost_ret (point_result rfl _ rfl rfl (HR2.out.setAll _ _ _ _ _)) rfl ?_
    exact left_nil (point_3 HRT.out HP.out) (putN_below HB2.out hw _ _ _ _ _)
  | some l =>
    obtain ⟨al, cap, rfl, hpi⟩ := hl
    have hA2 := HA.out.same (HW2.out.block _ (by have := HA.out.lt; exact this))
    have v0 := hA2.p0
    have v1 := hA2.p1
    have v2 := hA2.p2
    have v3 := hA2.p3
    have v4 := hA2.p4
    have hfo := follow_any l (fun g => g < w.heap.size) n 0 (right_of HRT.out) HT.out HCN.out w2 _ _ _ _ _ al cap ((node_at HN.out).keep (fun g hg _ => ⟨hg, HB2.out.block g hg⟩)) hpi.keys hpi.few hpi.room hpi.top
    obtain ⟨L, hL⟩ : ∃ L, l.length = L := ⟨_, rfl⟩
    rw [hL] at hfo ⊢
    clear hb2 hR2 hpt hpi hA2
    go_wp2_with fail
    refine hfo.mono ?_
    rintro e w3 ⟨hb3, hl⟩
    have hR3 := HR2.out.same (hb3.block _ HR2.out.lt)
    have HB3 := Lib.hid (HB2.out.trans (hb3.mono HB2.out.size))
    cases hfx : followP num9 l n with
    | none =>
      rw [hfx] at hl
      have hl' : e = .returned (.tuple #[.agg #[.int .i64 0, .int .i64 0, .string ⟨#[]⟩, .slice none 0 0, .slice none 0 0], .bool false]) := hl
      subst hl'
      have hR4 := hR3.alloc (.cells #[.int .i64 0, .int .i64 0, .string ⟨#[]⟩, .slice none 0 0, .slice none 0 0] 25)
      have HB4 : Hid (Below w.heap.size w (w3.alloc (.cells #[.int .i64 0, .int .i64 0, .string ⟨#[]⟩, .slice none 0 0, .slice none 0 0] 25))) := Lib.hid (HB3.out.alloc HB3.out.size _)
      have HR4 := Lib.hid hR4
      have HPN := Lib.hid (point_7 HRT.out HP.out hfx)
      have f0 := hR4.free 0
      have f1 := hR4.free 1
      have f2 := hR4.free 2
      have f3 := hR4.free 3
      have f4 := hR4.free 4
      have q0 := hR4.p0
      have q1 := hR4.p1
      have q2 := hR4.p2
      have q3 := hR4.p3
      have q4 := hR4.p4
      clear hb3 hR3 hR4 hfo hl hfx
      go_wp2_with fail
      refine bodyPost_ret (point_result rfl _ rfl rfl (HR4.out.setAll _ _ _ _ _)) rfl ?_
      exact left_nil HPN.out (putN_below HB4.out hw _ _ _ _ _)
    | some y =>
      rw [hfx] at hl
      obtain ⟨yk, yn, yt, ya, yl, yc, yb, ym, yd, rfl, hat⟩ := hl
      have hR4 := hR3.alloc (.cells #[.int .i64 yk, .int .i64 yn, .string yt, .slice ya yl yc, .slice yb ym yd] 25)
      have HB4 : Hid (Below w.heap.size w (w3.alloc (.cells #[.int .i64 yk, .int .i64 yn, .string yt, .slice ya yl yc, .slice yb ym yd] 25))) := Lib.hid (HB3.out.alloc HB3.out.size _)
      have HR4 := Lib.hid hR4
      have HPN := Lib.hid (point_0 HRT.out HP.out hfx)
      have hat4 : NodeAt (fun g => g < w.heap.size ∨ w2.heap.size ≤ g) (w3.alloc (.cells #[.int .i64 yk, .int .i64 yn, .string yt, .slice ya yl yc, .slice yb ym yd] 25)) y (.agg #[.int .i64 yk, .int .i64 yn, .string yt, .slice ya yl yc, .slice yb ym yd]) := hat.keep (fun q hq hl => ⟨hq, Below.heap_alloc w3 _ q hl⟩)
      have HAT := Lib.hid hat4
      have HL2 : Hid (G + 1 < w2.heap.size) := Lib.hid HR2.out.lt
      have f0 := hR4.free 0
      have f1 := hR4.free 1
      have f2 := hR4.free 2
      have f3 := hR4.free 3
      have f4 := hR4.free 4
      have q0 := hR4.p0
      have q1 := hR4.p1
      have q2 := hR4.p2
      have q3 := hR4.p3
      have q4 := hR4.p4
      clear hb3 hR3 hR4 hfo hat hat4 hfx
      go_wp2_with fail
      refine bodyPost_ret (point_result rfl _ rfl rfl (HR4.out.setAll _ _ _ _ _)) rfl ?_
      unfold PointLeft
      rw [HPN.out]
      refine ⟨_, _, _, _, _, rfl, in_of_at (HAT.out.keep (P' := fun _ => True) (fun q hq _ => ⟨trivial, putN_block _ (G + 1) _ _ _ _ _ q (by
        rcases hq with hq | hq
        · rw [hG] at hq; omega
        · have := HL2.out; omega)⟩)), putN_below HB4.out hw _ _ _ _ _⟩
end Go.Proofs.YtoofcclcimkipaaDoor.J9
