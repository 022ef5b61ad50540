/-
  The law CanonAll returns true, of any two values. Condition: the library's table of powers of ten reads as its text lays it.
-/
import Derived.Test.YtbjngdlkamdmdaaDoorJ8Awake
import Derived.Deep.RegionHeld3
namespace Go.Proofs.YtbjngdlkamdmdaaDoor.J8
open Go Go.RowKit Go.Joins Kit J7 Nds

theorem rRight_any {a : J} (ht : Tame a) {w : World} {c0 c1 c2 c3 c4 : Value} (hN : NodeIn w a (.agg #[c0, c1, c2, c3, c4])) :
    Calls Tryd.prog 14 #[.agg #[c0, c1, c2, c3, c4]] w fun e w' => e = .returned (.bool (rightP 0 a)) ∧ Below w.heap.size w w' := by
  have hra := rightAns_any ht hN
  obtain ⟨k, n, t, a3, n3, m3, a4, n4, m4, rfl, rfl, rfl, rfl, rfl⟩ := in_forms hN
  exact Right_call w _ k n t a3 a4 n3 m3 n4 m4 hra
/-- Two variables of type Node. -/
theorem bx_two (w : World) (x0 x1 x2 x3 x4 y0 y1 y2 y3 y4 : Value) : ∃ W, (w.alloc (.cells #[x0, x1, x2, x3, x4] 25)).alloc (.cells #[y0, y1, y2, y3, y4] 25) = W ∧ Below w.heap.size w W ∧ w.heap.size + 1 < W.heap.size ∧
    ∀ w', Below W.heap.size W w' → Bx w.heap.size x0 x1 x2 x3 x4 w' ∧ Bx (w.heap.size + 1) y0 y1 y2 y3 y4 w' := by
  refine ⟨_, rfl, ((Below.refl _ w).alloc (Nat.le_refl _) _).alloc (by simp) _, by simp, fun w' hb => ?_⟩
  have h1 : Bx w.heap.size x0 x1 x2 x3 x4 ((w.alloc (.cells #[x0, x1, x2, x3, x4] 25)).alloc (.cells #[y0, y1, y2, y3, y4] 25)) := (Bx.made w _ _ _ _ _).alloc _
  have h2 : Bx (w.heap.size + 1) y0 y1 y2 y3 y4 ((w.alloc (.cells #[x0, x1, x2, x3, x4] 25)).alloc (.cells #[y0, y1, y2, y3, y4] 25)) := by
    have h9 := Bx.made (w.alloc (.cells #[x0, x1, x2, x3, x4] 25)) y0 y1 y2 y3 y4
    simpa using h9
  exact ⟨h1.same (hb.block _ h1.lt), h2.same (hb.block _ h2.lt)⟩
/-- What a region of loads holds on to. -/
theorem held_next {W w w' : World} {A B : Nat} {x0 x1 x2 x3 x4 y0 y1 y2 y3 y4 : Value} (h : Below W.heap.size W w ∧ w.cell? ⟨A, 0, none⟩ = some x0 ∧ w.cell? ⟨A, 1, none⟩ = some x1 ∧ w.cell? ⟨A, 2, none⟩ = some x2 ∧ w.cell? ⟨A, 3, none⟩ = some x3 ∧ w.cell? ⟨A, 4, none⟩ = some x4 ∧
    w.cell? ⟨B, 0, none⟩ = some y0 ∧ w.cell? ⟨B, 1, none⟩ = some y1 ∧ w.cell? ⟨B, 2, none⟩ = some y2 ∧ w.cell? ⟨B, 3, none⟩ = some y3 ∧ w.cell? ⟨B, 4, none⟩ = some y4) (hb : Below w.heap.size w w') :
    Below W.heap.size W w' ∧ w'.cell? ⟨A, 0, none⟩ = some x0 ∧ w'.cell? ⟨A, 1, none⟩ = some x1 ∧ w'.cell? ⟨A, 2, none⟩ = some x2 ∧ w'.cell? ⟨A, 3, none⟩ = some x3 ∧ w'.cell? ⟨A, 4, none⟩ = some x4 ∧
    w'.cell? ⟨B, 0, none⟩ = some y0 ∧ w'.cell? ⟨B, 1, none⟩ = some y1 ∧ w'.cell? ⟨B, 2, none⟩ = some y2 ∧ w'.cell? ⟨B, 3, none⟩ = some y3 ∧ w'.cell? ⟨B, 4, none⟩ = some y4 := by
  obtain ⟨h0, h1, h2, h3, h4, h5, h6, h7, h8, h9, h10⟩ := h
  have k : ∀ {g o v}, w.cell? ⟨g, o, none⟩ = some v → w'.cell? ⟨g, o, none⟩ = some v := fun {g o v} hc => (hb.cell (p := ⟨g, o, none⟩) (World.block_lt_of_cell? w _ hc)).trans hc
  exact ⟨h0.trans (hb.mono h0.size), k h1, k h2, k h3, k h4, k h5, k h6, k h7, k h8, k h9, k h10⟩

set_option maxHeartbeats 16000000 in
set_option maxRecDepth 100000 in
theorem canonAll_walk (a b : J) (c0 c1 c2 c3 c4 d0 d1 d2 d3 d4 : Value) (w : World) (ha : NodeIn w a (.agg #[c0, c1, c2, c3, c4])) (hb : NodeIn w b (.agg #[d0, d1, d2, d3, d4])) (hE : EnvW w) :
    Calls Tryd.prog 3 #[.agg #[c0, c1, c2, c3, c4], .agg #[d0, d1, d2, d3, d4]] w fun e w' => e = .returned (.bool true) ∧ Below w.heap.size w w' := by
  obtain ⟨xk, xn, xt, xa, xl, xc, xb, xm, xd, rfl, rfl, rfl, rfl, rfl⟩ := in_forms ha
  obtain ⟨yk, yn, yt, ya, yl, yc, yb, ym, yd, rfl, rfl, rfl, rfl, rfl⟩ := in_forms hb
  obtain ⟨W, hW, hbW, hlt, hbx⟩ := bx_two w (.int .i64 xk) (.int .i64 xn) (.string xt) (.slice xa xl xc) (.slice xb xm xd) (.int .i64 yk) (.int .i64 yn) (.string yt) (.slice ya yl yc) (.slice yb ym yd)
  have HA : Hid (∀ w', Below W.heap.size W w' → NodeIn w' a (.agg #[.int .i64 xk, .int .i64 xn, .string xt, .slice xa xl xc, .slice xb xm xd])) := Lib.hid (fun w' h => node_below h (node_below hbW ha))
  have HB : Hid (∀ w', Below W.heap.size W w' → NodeIn w' b (.agg #[.int .i64 yk, .int .i64 yn, .string yt, .slice ya yl yc, .slice yb ym yd])) := Lib.hid (fun w' h => node_below h (node_below hbW hb))
  have HE : Hid (∀ w', Below W.heap.size W w' → EnvW w') := Lib.hid (fun w' h => (hE.next hbW).next h)
  have HW := Lib.hid hW
  have HBW : Hid (∀ w', Below W.heap.size W w' → Below w.heap.size w w') := Lib.hid (fun w' h => hbW.trans (h.mono hbW.size))
  obtain ⟨G, hG⟩ : ∃ G, w.heap.size = G := ⟨_, rfl⟩
  rw [hG] at hbx
  have HBX := Lib.hid hbx
  have hg1 := great_any (HA.out W (Below.refl _ _))
  have h0 := HBX.out W (Below.refl _ _)
  have p0 := h0.1.p0
  have p1 := h0.1.p1
  have p2 := h0.1.p2
  have p3 := h0.1.p3
  have p4 := h0.1.p4
  clear ha hb hE hW hbW hlt hbx h0
  go_enter Tryd.func3, Tryd.ntmps3
  go_upto_region 1 with fail
  rw [HW.out]
  (try rw [hG])
  go_wp2_with fail
  refine hg1.mono ?_
  rintro e w1 ⟨g, rfl, hb1, hs1⟩
  clear hg1 p0 p1 p2 p3 p4
  cases g with
  | true =>
    go_wp2_with fail
    refine (awake_any (HE.out w1 hb1)).mono ?_
    rintro e w2 ⟨rfl, hb2⟩
    go_wp2_with fail
    go_ret
    (try rw [← hG])
    exact ⟨rfl, HBW.out w2 (hb1.trans (hb2.mono hb1.size))⟩
  | false =>
    have HSA := Lib.hid (hs1 rfl)
    clear hs1
    have h0 := HBX.out w1 hb1
    have q0 := h0.2.p0
    have q1 := h0.2.p1
    have q2 := h0.2.p2
    have q3 := h0.2.p3
    have q4 := h0.2.p4
    have hg2 := great_any (HB.out w1 hb1)
    clear h0
    go_wp2_with fail
    refine hg2.mono ?_
    rintro e w2 ⟨g, rfl, hb2, hs2⟩
    have hb02 := hb1.trans (hb2.mono hb1.size)
    clear hg2 q0 q1 q2 q3 q4 hb1 hb2
    cases g with
    | true =>
      go_wp2_with fail
      refine (awake_any (HE.out w2 hb02)).mono ?_
      rintro e w3 ⟨rfl, hb3⟩
      go_wp2_with fail
      go_ret
      (try rw [← hG])
      exact ⟨rfl, HBW.out w3 (hb02.trans (hb3.mono hb02.size))⟩
    | false =>
      have HSB := Lib.hid (hs2 rfl)
      clear hs2
      have h0 := HBX.out w2 hb02
      have p0 := h0.1.p0
      have p1 := h0.1.p1
      have p2 := h0.1.p2
      have p3 := h0.1.p3
      have p4 := h0.1.p4
      have hp1 := cprint_any HSA.out.1 (fun h => Nat.le_trans (HSA.out.2 h) (by decide)) (HE.out w2 hb02) (HA.out w2 hb02)
      clear h0
      go_wp2_with fail
      refine hp1.mono ?_
      rintro e w3 ⟨rfl, hb3⟩
      have hb03 := hb02.trans (hb3.mono hb02.size)
      clear hp1 p0 p1 p2 p3 p4 hb02 hb3
      have h0 := HBX.out w3 hb03
      have p0 := h0.1.p0
      have p1 := h0.1.p1
      have p2 := h0.1.p2
      have p3 := h0.1.p3
      have p4 := h0.1.p4
      have hp2 := print_all HSA.out.1 (fun h => Nat.le_trans (HSA.out.2 h) (by decide)) (HA.out w3 hb03)
      clear h0
      go_wp2_with fail
      refine hp2.mono ?_
      rintro e w4 ⟨rfl, hb4⟩
      have hb04 := hb03.trans (hb4.mono hb03.size)
      clear hp2 p0 p1 p2 p3 p4 hb03 hb4
      have h0 := HBX.out w4 hb04
      have p0 := h0.1.p0
      have p1 := h0.1.p1
      have p2 := h0.1.p2
      have p3 := h0.1.p3
      have p4 := h0.1.p4
      have q0 := h0.2.p0
      have q1 := h0.2.p1
      have q2 := h0.2.p2
      have q3 := h0.2.p3
      have q4 := h0.2.p4
      obtain ⟨ra, hra⟩ : ∃ ra, rightP 0 a = ra := ⟨_, rfl⟩
      obtain ⟨sp, hsp⟩ : ∃ sp, sameP a b = sp := ⟨_, rfl⟩
      have hcr : Hid (∀ w', Below W.heap.size W w' → Calls Tryd.prog 13 #[.agg #[.int .i64 xk, .int .i64 xn, .string xt, .slice xa xl xc, .slice xb xm xd]] w' fun e w'' => e = .returned (.bool ra) ∧ Below w'.heap.size w' w'') := Lib.hid (fun w' h => by rw [← hra]; exact cRight_any HSA.out.1 (HA.out w' h))
      have hrr : Hid (∀ w', Below W.heap.size W w' → Calls Tryd.prog 14 #[.agg #[.int .i64 xk, .int .i64 xn, .string xt, .slice xa xl xc, .slice xb xm xd]] w' fun e w'' => e = .returned (.bool ra) ∧ Below w'.heap.size w' w'') := Lib.hid (fun w' h => by rw [← hra]; exact rRight_any HSA.out.1 (HA.out w' h))
      have hcs : Hid (∀ w', Below W.heap.size W w' → Calls Tryd.prog 16 #[.agg #[.int .i64 xk, .int .i64 xn, .string xt, .slice xa xl xc, .slice xb xm xd], .agg #[.int .i64 yk, .int .i64 yn, .string yt, .slice ya yl yc, .slice yb ym yd]] w' fun e w'' => e = .returned (.bool sp) ∧ Below w'.heap.size w' w'') := Lib.hid (fun w' h => by rw [← hsp]; exact csame_in a b HSA.out.1 w' _ _ _ _ _ _ _ _ _ _ (HA.out w' h) (HB.out w' h))
      have hrs : Hid (∀ w', Below W.heap.size W w' → Calls Tryd.prog 17 #[.agg #[.int .i64 xk, .int .i64 xn, .string xt, .slice xa xl xc, .slice xb xm xd], .agg #[.int .i64 yk, .int .i64 yn, .string yt, .slice ya yl yc, .slice yb ym yd]] w' fun e w'' => e = .returned (.bool sp) ∧ Below w'.heap.size w' w'') := Lib.hid (fun w' h => by rw [← hsp]; exact same_in a b HSA.out.1 w' _ _ _ _ _ _ _ _ _ _ (HA.out w' h) (HB.out w' h))
      have hca : Hid (∀ w', Below W.heap.size W w' → Calls Tryd.prog 16 #[.agg #[.int .i64 xk, .int .i64 xn, .string xt, .slice xa xl xc, .slice xb xm xd], .agg #[.int .i64 xk, .int .i64 xn, .string xt, .slice xa xl xc, .slice xb xm xd]] w' fun e w'' => e = .returned (.bool true) ∧ Below w'.heap.size w' w'') := Lib.hid (fun w' h => by
        have h9 := csame_in a a HSA.out.1 w' _ _ _ _ _ _ _ _ _ _ (HA.out w' h) (HA.out w' h)
        rw [sameP_yes rfl] at h9
        exact h9)
      have haw : Hid (∀ w', Below W.heap.size W w' → Calls Tryd.prog 10 #[] w' fun e w'' => e = .returned (.bool true) ∧ Below w'.heap.size w' w'') := Lib.hid (fun w' h => awake_any (HE.out w' h))
      obtain ⟨PT, hPT⟩ : ∃ PT, (printP a).1 = PT := ⟨_, rfl⟩
      obtain ⟨PE, hPE⟩ : ∃ PE, (printP a).2 = PE := ⟨_, rfl⟩
      have hS := (⟨hb04, p0, p1, p2, p3, p4, q0, q1, q2, q3, q4⟩ : Below W.heap.size W w4 ∧ w4.cell? ⟨G, 0, none⟩ = _ ∧ w4.cell? ⟨G, 1, none⟩ = _ ∧ w4.cell? ⟨G, 2, none⟩ = _ ∧ w4.cell? ⟨G, 3, none⟩ = _ ∧ w4.cell? ⟨G, 4, none⟩ = _ ∧ w4.cell? ⟨G + 1, 0, none⟩ = _ ∧ w4.cell? ⟨G + 1, 1, none⟩ = _ ∧ w4.cell? ⟨G + 1, 2, none⟩ = _ ∧ w4.cell? ⟨G + 1, 3, none⟩ = _ ∧ w4.cell? ⟨G + 1, 4, none⟩ = _)
      have hS0 := held_next hS ((Below.refl _ w4).drew)
      rw [hPT, hPE]
      clear h0 hS hra hsp HSA HSB HA HB hPT hPE p0 p1 p2 p3 p4 q0 q1 q2 q3 q4 hb04 HE
      go_wp2_with fail
      go_region_held3 (fun w' => Below W.heap.size W w' ∧ w'.cell? ⟨G, 0, none⟩ = some (.int .i64 xk) ∧ w'.cell? ⟨G, 1, none⟩ = some (.int .i64 xn) ∧ w'.cell? ⟨G, 2, none⟩ = some (.string xt) ∧ w'.cell? ⟨G, 3, none⟩ = some (.slice xa xl xc) ∧ w'.cell? ⟨G, 4, none⟩ = some (.slice xb xm xd) ∧ w'.cell? ⟨G + 1, 0, none⟩ = some (.int .i64 yk) ∧ w'.cell? ⟨G + 1, 1, none⟩ = some (.int .i64 yn) ∧ w'.cell? ⟨G + 1, 2, none⟩ = some (.string yt) ∧ w'.cell? ⟨G + 1, 3, none⟩ = some (.slice ya yl yc) ∧ w'.cell? ⟨G + 1, 4, none⟩ = some (.slice yb ym yd))
        (first | exact hS0 | exact held_next (by assumption) (by assumption) | assumption)
        (first
          | (go_at_call 13; refine (hcr.out _ (And.left (by assumption))).mono ?_; rintro e' w' ⟨rfl, hb'⟩)
          | (go_at_call 14; refine (hrr.out _ (And.left (by assumption))).mono ?_; rintro e' w' ⟨rfl, hb'⟩)
          | (go_at_call 15; refine (L3.num_any PE _).mono ?_; rintro e' w' ⟨rfl, rfl⟩)
          | (go_at_call 16; with_reducible refine (hcs.out _ (And.left (by assumption))).mono ?_; rintro e' w' ⟨rfl, hb'⟩)
          | (go_at_call 16; refine (hca.out _ (And.left (by assumption))).mono ?_; rintro e' w' ⟨rfl, hb'⟩)
          | (go_at_call 17; refine (hrs.out _ (And.left (by assumption))).mono ?_; rintro e' w' ⟨rfl, hb'⟩)
          | (go_at_call 10; refine (haw.out _ (And.left (by assumption))).mono ?_; rintro e' w' ⟨rfl, hb'⟩))
      all_goals
        go_wp2_with fail
        go_ret
        (try rw [← hG])
        exact ⟨rfl, HBW.out _ (And.left (by assumption))⟩
end Go.Proofs.YtbjngdlkamdmdaaDoor.J8
