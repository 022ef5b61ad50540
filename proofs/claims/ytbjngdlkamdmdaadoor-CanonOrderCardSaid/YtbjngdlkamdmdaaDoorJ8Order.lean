/-
  The law CanonOrder returns true, of any two values. Condition: the library's table of powers of ten reads as its text lays it.
-/
import Derived.Test.YtbjngdlkamdmdaaDoorJ8CFn
import Derived.Test.YtbjngdlkamdmdaaDoorJ8CFy
import Derived.Test.YtbjngdlkamdmdaaDoorJ8All
import Derived.Test.YtbjngdlkamdmdaaDoorJ8Within
namespace Go.Proofs.YtbjngdlkamdmdaaDoor.J8
open Go Go.RowKit Go.Joins Kit J7 Nds

/-- An object of two keys. -/
def pairJ (p q : ByteArray) (a b : J) : J := .mk 7 0 ⟨#[]⟩ [p, q] [a, b]
theorem in_pair {w : World} {p q : ByteArray} {a b : J} {c0 c1 c2 c3 c4 d0 d1 d2 d3 d4 : Value} {kb vb : Nat} {T : TypeId} (hk : w.heap[kb]? = some (.cells #[.string p, .string q] T (0, 0))) (hv : w.heap[vb]? = some (.cells #[c0, c1, c2, c3, c4, d0, d1, d2, d3, d4] 25 (0, 0)))
    (ha : NodeIn w a (.agg #[c0, c1, c2, c3, c4])) (hb : NodeIn w b (.agg #[d0, d1, d2, d3, d4])) :
    NodeIn w (pairJ p q a b) (.agg #[.int .i64 7, .int .i64 0, .string ⟨#[]⟩, .slice (some ⟨kb, 0, none⟩) 2 2, .slice (some ⟨vb, 0, none⟩) 2 2]) := by
  have two : ∀ i, i < 2 → i = 0 ∨ i = 1 := fun i h => by omega
  refine NodeIn.mk 7 0 ⟨#[]⟩ [p, q] [a, b] _ (some ⟨vb, 0, none⟩) 2 (fun i m => if i = 0 then [c0, c1, c2, c3, c4].getD m c0 else [d0, d1, d2, d3, d4].getD m c0) ⟨_, 2, rfl, fun j hj => ⟨kb, 0, rfl, ?_⟩⟩ (fun i hi => ⟨vb, 0, rfl, fun m hm => ?_⟩) (fun i hi => ?_)
  · rw [Lib.cell_of_heap hk]
    rcases two j hj with rfl | rfl <;> rfl
  · rw [Lib.cell_of_heap hv]
    rcases two i hi with rfl | rfl
    · match m, hm with
      | 0, _ => rfl
      | 1, _ => rfl
      | 2, _ => rfl
      | 3, _ => rfl
      | 4, _ => rfl
    · match m, hm with
      | 0, _ => rfl
      | 1, _ => rfl
      | 2, _ => rfl
      | 3, _ => rfl
      | 4, _ => rfl
  · rcases two i hi with rfl | rfl
    · exact ha
    · exact hb
theorem tame_pair {p q : ByteArray} {a b : J} (hp : p.size ≤ 300000) (hq : q.size ≤ 300000) (ha : Tame a) (hb : Tame b) : Tame (pairJ p q a b) :=
  Tame.mk 7 0 ⟨#[]⟩ [p, q] [a, b] (by simp) (by simp) (by decide) (fun i hi => by
    rcases (show i = 0 ∨ i = 1 by have : i < 2 := hi; omega) with rfl | rfl
    · exact hp
    · exact hq) (fun i hi => by
    rcases (show i = 0 ∨ i = 1 by have : i < 2 := hi; omega) with rfl | rfl
    · exact ha
    · exact hb)
def pB : ByteArray := ⟨#[112]⟩
def qB : ByteArray := ⟨#[113]⟩
def rB : ByteArray := ⟨#[114]⟩
theorem found_p (a b : J) : Found (pairJ pB qB a b) pB 0 := ⟨rfl, by show 0 < 2; decide, by show 0 < 2; decide, rfl, fun j h => absurd h (Nat.not_lt_zero j)⟩
theorem found_q (a b : J) : Found (pairJ qB pB b a) pB 1 := ⟨rfl, by show 1 < 2; decide, by show 1 < 2; decide, rfl, fun j h => by
  have h0 : j = 0 := by omega
  subst h0
  show qB ≠ pB
  decide⟩
theorem found_r (a b : J) : ∀ i, ¬ Found (pairJ pB qB a b) rB i := fun i h => by
  have hk : i < 2 := h.hk
  rcases (show i = 0 ∨ i = 1 by omega) with rfl | rfl
  · exact absurd h.eq (by show pB ≠ rB; decide)
  · exact absurd h.eq (by show qB ≠ rB; decide)
theorem found_a (a : J) (key : ByteArray) : ∀ i, ¬ Found (arrJ a) key i := fun i h => by
  have := h.kind
  exact absurd this (by show (6 : Int) ≠ 7; decide)
theorem pair_ne (a b : J) : pairJ pB qB a b ≠ pairJ qB pB b a := fun h => by
  have h1 := congrArg J.keys h
  have h2 : [pB, qB] = [qB, pB] := h1
  injection h2 with h2 _
  exact absurd h2 (by decide)
/-- Six new blocks: the keys, the kids, the variable, of each. -/
theorem three_new (w : World) (K V X : Array Value) (TK TV TX : TypeId) : ∃ W, (((w.alloc (.cells K TK)).alloc (.cells V TV)).alloc (.cells X TX)) = W ∧ Below w.heap.size w W ∧ W.heap.size = w.heap.size + 3 ∧ W.heap[w.heap.size]? = some (.cells K TK (0, 0)) ∧ W.heap[w.heap.size + 1]? = some (.cells V TV (0, 0)) ∧ W.heap[w.heap.size + 2]? = some (.cells X TX (0, 0)) := by
  refine ⟨_, rfl, (((Below.refl _ w).alloc (Nat.le_refl _) _).alloc (by simp) _).alloc (by simp; omega) _, by simp, ?_, ?_, ?_⟩
  · rw [Below.heap_alloc _ _ _ (by simp; omega), Below.heap_alloc _ _ _ (by simp)]
    exact Kit.fresh_block w _ _
  · rw [Below.heap_alloc _ _ _ (by simp)]
    have h := Kit.fresh_block (w.alloc (.cells K TK)) V TV
    simpa using h
  · have h := Kit.fresh_block ((w.alloc (.cells K TK)).alloc (.cells V TV)) X TX
    simpa using h

set_option maxHeartbeats 16000000 in
set_option maxRecDepth 100000 in
theorem canonOrder_walk (a b : J) (c0 c1 c2 c3 c4 d0 d1 d2 d3 d4 : Value) (w : World) (ha : NodeIn w a (.agg #[c0, c1, c2, c3, c4])) (hb : NodeIn w b (.agg #[d0, d1, d2, d3, d4])) (hE : EnvW w) :
    Calls Tryd.prog 7 #[.agg #[c0, c1, c2, c3, c4], .agg #[d0, d1, d2, d3, d4]] w fun e w' => e = .returned (.bool true) ∧ Below w.heap.size w w' := by
  obtain ⟨xk, xn, xt, xa, xl, xc, xb, xm, xd, rfl, rfl, rfl, rfl, rfl⟩ := in_forms ha
  obtain ⟨yk, yn, yt, ya, yl, yc, yb, ym, yd, rfl, rfl, rfl, rfl, rfl⟩ := in_forms hb
  obtain ⟨W, hW, hbW, hlt, hbx⟩ := bx_two w (.int .i64 xk) (.int .i64 xn) (.string xt) (.slice xa xl xc) (.slice xb xm xd) (.int .i64 yk) (.int .i64 yn) (.string yt) (.slice ya yl yc) (.slice yb ym yd)
  have HA : Hid (∀ w', Below W.heap.size W w' → NodeIn w' a (.agg #[.int .i64 xk, .int .i64 xn, .string xt, .slice xa xl xc, .slice xb xm xd])) := Lib.hid (fun w' h => node_below h (node_below hbW ha))
  have HB : Hid (∀ w', Below W.heap.size W w' → NodeIn w' b (.agg #[.int .i64 yk, .int .i64 yn, .string yt, .slice ya yl yc, .slice yb ym yd])) := Lib.hid (fun w' h => node_below h (node_below hbW hb))
  have HE : Hid (∀ w', Below W.heap.size W w' → EnvW w') := Lib.hid (fun w' h => (hE.next hbW).next h)
  have HW := Lib.hid hW
  have HBW : Hid (∀ w', Below W.heap.size W w' → Below w.heap.size w w') := Lib.hid (fun w' h => hbW.trans (h.mono hbW.size))
  obtain ⟨G, hG⟩ : ∃ G, w.heap.size = G := ⟨_, rfl⟩
  rw [hG] at hbx
  have HBX := Lib.hid hbx
  have hg1 := great_any (HA.out W (Below.refl _ _))
  have h0 := HBX.out W (Below.refl _ _)
  have p0 := h0.1.p0
  have p1 := h0.1.p1
  have p2 := h0.1.p2
  have p3 := h0.1.p3
  have p4 := h0.1.p4
  clear ha hb hE hW hbW hlt hbx h0
  go_enter Tryd.func7, Tryd.ntmps7
  go_upto_region 1 with fail
  rw [HW.out]
  (try rw [hG])
  go_wp2_with fail
  refine hg1.mono ?_
  rintro e w1 ⟨g, rfl, hb1, hs1⟩
  clear hg1 p0 p1 p2 p3 p4
  cases g with
  | true =>
    go_wp2_with fail
    refine (awake_any (HE.out w1 hb1)).mono ?_
    rintro e w2 ⟨rfl, hb2⟩
    go_wp2_with fail
    go_ret
    (try rw [← hG])
    exact ⟨rfl, HBW.out w2 (hb1.trans (hb2.mono hb1.size))⟩
  | false =>
    have HSA := Lib.hid (hs1 rfl)
    clear hs1
    have h0 := HBX.out w1 hb1
    have q0 := h0.2.p0
    have q1 := h0.2.p1
    have q2 := h0.2.p2
    have q3 := h0.2.p3
    have q4 := h0.2.p4
    have hg2 := great_any (HB.out w1 hb1)
    clear h0
    go_wp2_with fail
    refine hg2.mono ?_
    rintro e w2 ⟨g, rfl, hb2, hs2⟩
    have hb02 := hb1.trans (hb2.mono hb1.size)
    clear hg2 q0 q1 q2 q3 q4 hb1 hb2
    cases g with
    | true =>
      go_wp2_with fail
      refine (awake_any (HE.out w2 hb02)).mono ?_
      rintro e w3 ⟨rfl, hb3⟩
      go_wp2_with fail
      go_ret
      (try rw [← hG])
      exact ⟨rfl, HBW.out w3 (hb02.trans (hb3.mono hb02.size))⟩
    | false =>
      have HSB := Lib.hid (hs2 rfl)
      clear hs2
      have hbk : Below w2.heap.size w2 (w2.alloc (.cells #[.string ⟨#[112]⟩, .string ⟨#[113]⟩] 9)) := (Below.refl _ w2).alloc (Nat.le_refl _) _
      have h0 := HBX.out _ (hb02.trans (hbk.mono hb02.size))
      have p0 := h0.1.p0
      have p1 := h0.1.p1
      have p2 := h0.1.p2
      have p3 := h0.1.p3
      have p4 := h0.1.p4
      have q0 := h0.2.p0
      have q1 := h0.2.p1
      have q2 := h0.2.p2
      have q3 := h0.2.p3
      have q4 := h0.2.p4
      obtain ⟨W3, hW3, hb3, hs3, hK3, hV3, hX3⟩ := three_new w2 #[.string ⟨#[112]⟩, .string ⟨#[113]⟩] #[.int .i64 xk, .int .i64 xn, .string xt, .slice xa xl xc, .slice xb xm xd, .int .i64 yk, .int .i64 yn, .string yt, .slice ya yl yc, .slice yb ym yd] #[.int .i64 7, .int .i64 0, .string ⟨#[]⟩, .slice (some ⟨w2.heap.size, 0, none⟩) 2 2, .slice (some ⟨w2.heap.size + 1, 0, none⟩) 2 2] 9 25 25
      have hb03 := hb02.trans (hb3.mono hb02.size)
      obtain ⟨W4, hW4, hb4, hs4, hK4, hV4, hX4⟩ := three_new W3 #[.string ⟨#[113]⟩, .string ⟨#[112]⟩] #[.int .i64 yk, .int .i64 yn, .string yt, .slice ya yl yc, .slice yb ym yd, .int .i64 xk, .int .i64 xn, .string xt, .slice xa xl xc, .slice xb xm xd] #[.int .i64 7, .int .i64 0, .string ⟨#[]⟩, .slice (some ⟨W3.heap.size, 0, none⟩) 2 2, .slice (some ⟨W3.heap.size + 1, 0, none⟩) 2 2] 9 25 25
      have hb04 := hb03.trans (hb4.mono hb03.size)
      have hW3p : W3.heap.size = w2.heap.size + 3 := hs3
      have hNX := in_pair ((hb4.block _ (by omega)).trans hK3) ((hb4.block _ (by omega)).trans hV3) (HA.out W4 hb04) (HB.out W4 hb04)
      have hNY := in_pair hK4 hV4 (HB.out W4 hb04) (HA.out W4 hb04)
      have hBX : Bx (w2.heap.size + 2) (.int .i64 7) (.int .i64 0) (.string ⟨#[]⟩) (.slice (some ⟨w2.heap.size, 0, none⟩) 2 2) (.slice (some ⟨w2.heap.size + 1, 0, none⟩) 2 2) W4 := ⟨(hb4.block _ (by omega)).trans hX3⟩
      have hBY : Bx (W3.heap.size + 2) (.int .i64 7) (.int .i64 0) (.string ⟨#[]⟩) (.slice (some ⟨W3.heap.size, 0, none⟩) 2 2) (.slice (some ⟨W3.heap.size + 1, 0, none⟩) 2 2) W4 := ⟨hX4⟩
      have hTX := tame_pair (p := pB) (q := qB) (by decide) (by decide) HSA.out.1 HSB.out.1
      have hTY := tame_pair (p := qB) (q := pB) (by decide) (by decide) HSB.out.1 HSA.out.1
      have HTX := Lib.hid hTX
      have HTY := Lib.hid hTY
      have HTA := Lib.hid HSA.out.1
      have HW3 := Lib.hid hW3
      have HW4 := Lib.hid hW4
      have hbk3 : Below W3.heap.size W3 (W3.alloc (.cells #[.string ⟨#[113]⟩, .string ⟨#[112]⟩] 9)) := (Below.refl _ W3).alloc (Nat.le_refl _) _
      have h3 := HBX.out _ (hb03.trans (hbk3.mono hb03.size))
      have r0 := h3.1.p0
      have r1 := h3.1.p1
      have r2 := h3.1.p2
      have r3 := h3.1.p3
      have r4 := h3.1.p4
      have s0 := h3.2.p0
      have s1 := h3.2.p1
      have s2 := h3.2.p2
      have s3 := h3.2.p3
      have s4 := h3.2.p4
      obtain ⟨H, hH⟩ : ∃ H, w2.heap.size = H := ⟨_, rfl⟩
      obtain ⟨H3, hH3⟩ : ∃ H, W3.heap.size = H := ⟨_, rfl⟩
      rw [hH] at hNX hBX
      rw [hH3] at hNY hBY
      have HH := Lib.hid hH
      have HH3 := Lib.hid hH3
      have HNX : Hid (∀ w', Below W4.heap.size W4 w' → NodeIn w' (pairJ pB qB a b) (.agg #[.int .i64 7, .int .i64 0, .string ⟨#[]⟩, .slice (some ⟨H, 0, none⟩) 2 2, .slice (some ⟨H + 1, 0, none⟩) 2 2])) := Lib.hid (fun w' h => node_below h hNX)
      have HNY : Hid (∀ w', Below W4.heap.size W4 w' → NodeIn w' (pairJ qB pB b a) (.agg #[.int .i64 7, .int .i64 0, .string ⟨#[]⟩, .slice (some ⟨H3, 0, none⟩) 2 2, .slice (some ⟨H3 + 1, 0, none⟩) 2 2])) := Lib.hid (fun w' h => node_below h hNY)
      have HBXX : Hid (∀ w', Below W4.heap.size W4 w' → Bx (H + 2) (.int .i64 7) (.int .i64 0) (.string ⟨#[]⟩) (.slice (some ⟨H, 0, none⟩) 2 2) (.slice (some ⟨H + 1, 0, none⟩) 2 2) w') := Lib.hid (fun w' h => hBX.same (h.block _ hBX.lt))
      have HBYY : Hid (∀ w', Below W4.heap.size W4 w' → Bx (H3 + 2) (.int .i64 7) (.int .i64 0) (.string ⟨#[]⟩) (.slice (some ⟨H3, 0, none⟩) 2 2) (.slice (some ⟨H3 + 1, 0, none⟩) 2 2) w') := Lib.hid (fun w' h => hBY.same (h.block _ hBY.lt))
      have HB4 : Hid (∀ w', Below W4.heap.size W4 w' → Below W.heap.size W w') := Lib.hid (fun w' h => hb04.trans (h.mono hb04.size))
      clear hW3 hb3 hs3 hK3 hV3 hX3 hb03 hW4 hb4 hs4 hK4 hV4 hX4 hb04 hW3p hNX hNY hBX hBY hTX hTY hH hH3 hb02 h0 hbk hbk3 h3
      have hrf := Below.refl W4.heap.size W4
      go_upto_region 4 with fail
      rw [HW3.out]
      (try rw [HH.out])
      clear p0 p1 p2 p3 p4 q0 q1 q2 q3 q4
      go_upto_region 5 with fail
      rw [HW4.out]
      (try rw [HH3.out])
      clear r0 r1 r2 r3 r4 s0 s1 s2 s3 s4
      have p0 := (HBXX.out W4 hrf).p0
      have p1 := (HBXX.out W4 hrf).p1
      have p2 := (HBXX.out W4 hrf).p2
      have p3 := (HBXX.out W4 hrf).p3
      have p4 := (HBXX.out W4 hrf).p4
      have hf1 := cfind_yes _ HTX.out pB 0 (found_p a b) W4 _ _ _ _ _ (HNX.out W4 hrf)
      go_wp2_with fail
      refine hf1.mono ?_
      rintro e u1 ⟨z0, z1, z2, z3, z4, rfl, hN1, hu1⟩
      obtain ⟨ek, en, et, ea, el, ec, eb, em, ed, rfl, rfl, rfl, rfl, rfl⟩ := in_forms hN1
      clear hf1
      obtain ⟨hm1, hx1, hl1⟩ := bx_new u1 (.int .i64 ek) (.int .i64 en) (.string et) (.slice ea el ec) (.slice eb em ed)
      obtain ⟨v1, hv1⟩ : ∃ v, u1.alloc (.cells #[.int .i64 ek, .int .i64 en, .string et, .slice ea el ec, .slice eb em ed] 25) = v := ⟨_, rfl⟩
      rw [hv1] at hm1 hx1 hl1
      have HV1 := Lib.hid hv1
      have hc1 := hu1.trans (hm1.mono hu1.size)
      obtain ⟨P1, hP1⟩ : ∃ P, u1.heap.size = P := ⟨_, rfl⟩
      rw [hP1] at hx1
      clear hv1 hl1 p0 p1 p2 p3 p4
      have HN1 : Hid (∀ w', Below v1.heap.size v1 w' → NodeIn w' a (.agg #[.int .i64 ek, .int .i64 en, .string et, .slice ea el ec, .slice eb em ed]) ∧ Bx P1 (.int .i64 ek) (.int .i64 en) (.string et) (.slice ea el ec) (.slice eb em ed) w') := Lib.hid (fun w' h => ⟨node_below h (node_below hm1 hN1), hx1.same (h.block _ hx1.lt)⟩)
      clear hN1 hm1 hx1 hu1
      go_upto_region 6 with fail
      rw [HV1.out]
      (try rw [hP1])
      have p0 := (HBYY.out v1 hc1).p0
      have p1 := (HBYY.out v1 hc1).p1
      have p2 := (HBYY.out v1 hc1).p2
      have p3 := (HBYY.out v1 hc1).p3
      have p4 := (HBYY.out v1 hc1).p4
      have hf2 := cfind_yes _ HTY.out pB 1 (found_q a b) v1 _ _ _ _ _ (HNY.out v1 hc1)
      go_wp2_with fail
      refine hf2.mono ?_
      rintro e u2 ⟨z0, z1, z2, z3, z4, rfl, hN2, hv2'⟩
      have hu2 := hc1.trans (hv2'.mono hc1.size)
      obtain ⟨fk, fn, ft, fa, fl, fc, fb, fm, fd, rfl, rfl, rfl, rfl, rfl⟩ := in_forms hN2
      clear hf2
      obtain ⟨hm2, hx2, hl2⟩ := bx_new u2 (.int .i64 fk) (.int .i64 fn) (.string ft) (.slice fa fl fc) (.slice fb fm fd)
      obtain ⟨v2, hv2⟩ : ∃ v, u2.alloc (.cells #[.int .i64 fk, .int .i64 fn, .string ft, .slice fa fl fc, .slice fb fm fd] 25) = v := ⟨_, rfl⟩
      rw [hv2] at hm2 hx2 hl2
      have HV2 := Lib.hid hv2
      have hc2 := hu2.trans (hm2.mono hu2.size)
      obtain ⟨P2, hP2⟩ : ∃ P, u2.heap.size = P := ⟨_, rfl⟩
      rw [hP2] at hx2
      clear hv2 hl2 p0 p1 p2 p3 p4
      have hd2 : Below v1.heap.size v1 v2 := hv2'.trans (hm2.mono hv2'.size)
      have HN2 : Hid (∀ w', Below v2.heap.size v2 w' → NodeIn w' a (.agg #[.int .i64 fk, .int .i64 fn, .string ft, .slice fa fl fc, .slice fb fm fd]) ∧ Bx P2 (.int .i64 fk) (.int .i64 fn) (.string ft) (.slice fa fl fc) (.slice fb fm fd) w') := Lib.hid (fun w' h => ⟨node_below h (node_below hm2 hN2), hx2.same (h.block _ hx2.lt)⟩)
      clear hN2 hm2 hx2 hu2 hv2'
      go_upto_region 7 with fail
      rw [HV2.out]
      (try rw [hP2])
      have p0 := (HBXX.out v2 hc2).p0
      have p1 := (HBXX.out v2 hc2).p1
      have p2 := (HBXX.out v2 hc2).p2
      have p3 := (HBXX.out v2 hc2).p3
      have p4 := (HBXX.out v2 hc2).p4
      have hf3 := cfind_no _ HTX.out rB (found_r a b) (by show 2 ≤ 2; decide) v2 _ _ _ _ _ (HNX.out v2 hc2)
      unfold zeroAgg at hf3
      go_wp2_with fail
      refine hf3.mono ?_
      rintro e u3 ⟨rfl, hv3'⟩
      have hu3 := hc2.trans (hv3'.mono hc2.size)
      clear hf3
      obtain ⟨hm3, hx3, hl3⟩ := bx_new u3 (.int .i64 0) (.int .i64 0) (.string ⟨#[]⟩) (.slice none 0 0) (.slice none 0 0)
      obtain ⟨v3, hv3⟩ : ∃ v, u3.alloc (.cells #[.int .i64 0, .int .i64 0, .string ⟨#[]⟩, .slice none 0 0, .slice none 0 0] 25) = v := ⟨_, rfl⟩
      rw [hv3] at hm3 hx3 hl3
      have HV3 := Lib.hid hv3
      have hc3 := hu3.trans (hm3.mono hu3.size)
      obtain ⟨P3, hP3⟩ : ∃ P, u3.heap.size = P := ⟨_, rfl⟩
      rw [hP3] at hx3
      clear hv3 hl3 p0 p1 p2 p3 p4
      have hd3 : Below v2.heap.size v2 v3 := hv3'.trans (hm3.mono hv3'.size)
      clear hm3 hx3 hu3 hv3'
      go_upto_region 8 with fail
      rw [HV3.out]
      (try rw [hP3])
      have p0 := (HBX.out v3 (HB4.out v3 hc3)).1.p0
      have p1 := (HBX.out v3 (HB4.out v3 hc3)).1.p1
      have p2 := (HBX.out v3 (HB4.out v3 hc3)).1.p2
      have p3 := (HBX.out v3 (HB4.out v3 hc3)).1.p3
      have p4 := (HBX.out v3 (HB4.out v3 hc3)).1.p4
      have hba : Below v3.heap.size v3 (v3.alloc (.cells #[.int .i64 xk, .int .i64 xn, .string xt, .slice xa xl xc, .slice xb xm xd] 25)) := (Below.refl _ v3).alloc (Nat.le_refl _) _
      have hf4 := cfind_no _ (tame_arr HTA.out) pB (found_a a pB) (by show 0 ≤ 1; decide) _ _ _ _ _ _ (in_one (HA.out v3 (HB4.out v3 hc3)))
      unfold zeroAgg at hf4
      go_wp2_with fail
      refine hf4.mono ?_
      rintro e u4 ⟨rfl, hv4'⟩
      have hv4'' := hba.trans (hv4'.mono hba.size)
      have hu4 := hc3.trans (hv4''.mono hc3.size)
      clear hf4 hba hv4'
      obtain ⟨hm4, hx4, hl4⟩ := bx_new u4 (.int .i64 0) (.int .i64 0) (.string ⟨#[]⟩) (.slice none 0 0) (.slice none 0 0)
      obtain ⟨v4, hv4⟩ : ∃ v, u4.alloc (.cells #[.int .i64 0, .int .i64 0, .string ⟨#[]⟩, .slice none 0 0, .slice none 0 0] 25) = v := ⟨_, rfl⟩
      rw [hv4] at hm4 hx4 hl4
      have HV4 := Lib.hid hv4
      have hc4 := hu4.trans (hm4.mono hu4.size)
      obtain ⟨P4, hP4⟩ : ∃ P, u4.heap.size = P := ⟨_, rfl⟩
      rw [hP4] at hx4
      clear hv4 hl4 p0 p1 p2 p3 p4
      have hd4 : Below v3.heap.size v3 v4 := hv4''.trans (hm4.mono hv4''.size)
      have hd24 : Below v2.heap.size v2 v4 := hd3.trans (hd4.mono hd3.size)
      have hd14 : Below v1.heap.size v1 v4 := hd2.trans (hd24.mono hd2.size)
      clear hm4 hx4 hu4 hv4''
      go_upto_region 9 with fail
      rw [HV4.out]
      (try rw [hP4])
      have p0 := (HBXX.out v4 hc4).p0
      have p1 := (HBXX.out v4 hc4).p1
      have p2 := (HBXX.out v4 hc4).p2
      have p3 := (HBXX.out v4 hc4).p3
      have p4 := (HBXX.out v4 hc4).p4
      have q0 := (HBYY.out v4 hc4).p0
      have q1 := (HBYY.out v4 hc4).p1
      have q2 := (HBYY.out v4 hc4).p2
      have q3 := (HBYY.out v4 hc4).p3
      have q4 := (HBYY.out v4 hc4).p4
      have hs1 := csame_in (pairJ pB qB a b) (pairJ qB pB b a) HTX.out v4 _ _ _ _ _ _ _ _ _ _ (HNX.out v4 hc4) (HNY.out v4 hc4)
      rw [sameP_no (pair_ne a b)] at hs1
      go_wp2_with fail
      refine hs1.mono ?_
      rintro e t1 ⟨rfl, hg1⟩
      have hc5 := hc4.trans (hg1.mono hc4.size)
      clear hs1 p0 p1 p2 p3 p4 q0 q1 q2 q3 q4
      have hn5 := HN1.out t1 (hd14.trans (hg1.mono hd14.size))
      have p0 := hn5.2.p0
      have p1 := hn5.2.p1
      have p2 := hn5.2.p2
      have p3 := hn5.2.p3
      have p4 := hn5.2.p4
      have q0 := (HBX.out t1 (HB4.out t1 hc5)).1.p0
      have q1 := (HBX.out t1 (HB4.out t1 hc5)).1.p1
      have q2 := (HBX.out t1 (HB4.out t1 hc5)).1.p2
      have q3 := (HBX.out t1 (HB4.out t1 hc5)).1.p3
      have q4 := (HBX.out t1 (HB4.out t1 hc5)).1.p4
      have hs2 := same_in a a HTA.out t1 _ _ _ _ _ _ _ _ _ _ hn5.1 (HA.out t1 (HB4.out t1 hc5))
      rw [sameP_yes rfl] at hs2
      clear hn5
      go_wp2_with fail
      refine hs2.mono ?_
      rintro e t2 ⟨rfl, hg2⟩
      have hc6 := hc5.trans (hg2.mono hc5.size)
      have hd26 : Below v2.heap.size v2 t2 := (hd24.trans (hg1.mono hd24.size)).trans (hg2.mono (hd24.trans (hg1.mono hd24.size)).size)
      clear hs2 p0 p1 p2 p3 p4 q0 q1 q2 q3 q4
      have hn6 := HN2.out t2 hd26
      have p0 := hn6.2.p0
      have p1 := hn6.2.p1
      have p2 := hn6.2.p2
      have p3 := hn6.2.p3
      have p4 := hn6.2.p4
      have q0 := (HBX.out t2 (HB4.out t2 hc6)).1.p0
      have q1 := (HBX.out t2 (HB4.out t2 hc6)).1.p1
      have q2 := (HBX.out t2 (HB4.out t2 hc6)).1.p2
      have q3 := (HBX.out t2 (HB4.out t2 hc6)).1.p3
      have q4 := (HBX.out t2 (HB4.out t2 hc6)).1.p4
      have hs3 := same_in a a HTA.out t2 _ _ _ _ _ _ _ _ _ _ hn6.1 (HA.out t2 (HB4.out t2 hc6))
      rw [sameP_yes rfl] at hs3
      clear hn6
      go_wp2_with fail
      refine hs3.mono ?_
      rintro e t3 ⟨rfl, hg3⟩
      have hc7 := hc6.trans (hg3.mono hc6.size)
      clear hs3 p0 p1 p2 p3 p4 q0 q1 q2 q3 q4
      go_wp2_with fail
      refine (awake_any (HE.out t3 (HB4.out t3 hc7))).mono ?_
      rintro e t4 ⟨rfl, hg4⟩
      go_wp2_with fail
      go_ret
      (try rw [← hG])
      exact ⟨rfl, HBW.out t4 (HB4.out t4 (hc7.trans (hg4.mono hc7.size)))⟩
end Go.Proofs.YtbjngdlkamdmdaaDoor.J8
