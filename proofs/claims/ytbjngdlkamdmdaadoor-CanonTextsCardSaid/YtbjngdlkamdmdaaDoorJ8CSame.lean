/-
  The program's Same of any two values: whether they are one; the library's Equal and EqualFunc that it calls. Condition: no value in the first has more than 65536 keys or kids.
-/
import Derived.Test.YtbjngdlkamdmdaaDoorJ8Same
namespace Go.Proofs.YtbjngdlkamdmdaaDoor.J8
open Go Go.RowKit Go.Joins Kit J7 Nds

/-- The cells of a slice of texts. -/
def KeysIn (w : World) (a : Option Addr) (ks : List ByteArray) : Prop := ∀ i (hi : i < ks.length), ∃ g o, a = some ⟨g, o, none⟩ ∧ w.cell? ⟨g, o + i, none⟩ = some (.string ks[i])
theorem KeysIn.below {w w' : World} {a : Option Addr} {ks : List ByteArray} (h : KeysIn w a ks) (hb : Below w.heap.size w w') : KeysIn w' a ks := fun i hi => by
  obtain ⟨g, o, ha, h1⟩ := h i hi
  exact ⟨g, o, ha, (hb.cell (p := ⟨g, o + i, none⟩) (World.block_lt_of_cell? w _ h1)).trans h1⟩
/-- .. of values. -/
def KidsIn (w : World) (a : Option Addr) (ks : List J) : Prop := ∀ i (hi : i < ks.length), ∃ g o d0 d1 d2 d3 d4, a = some ⟨g, o, none⟩ ∧ w.cell? ⟨g, o + i * 5, none⟩ = some d0 ∧ w.cell? ⟨g, o + i * 5 + 1, none⟩ = some d1 ∧ w.cell? ⟨g, o + i * 5 + 2, none⟩ = some d2 ∧ w.cell? ⟨g, o + i * 5 + 3, none⟩ = some d3 ∧ w.cell? ⟨g, o + i * 5 + 4, none⟩ = some d4 ∧ NodeIn w ks[i] (.agg #[d0, d1, d2, d3, d4])
theorem KidsIn.below {w w' : World} {a : Option Addr} {ks : List J} (h : KidsIn w a ks) (hb : Below w.heap.size w w') : KidsIn w' a ks := fun i hi => by
  obtain ⟨g, o, d0, d1, d2, d3, d4, ha, h0, h1, h2, h3, h4, hn⟩ := h i hi
  have k : ∀ {m v}, w.cell? ⟨g, m, none⟩ = some v → w'.cell? ⟨g, m, none⟩ = some v := fun {m v} hc => (hb.cell (p := ⟨g, m, none⟩) (World.block_lt_of_cell? w _ hc)).trans hc
  exact ⟨g, o, d0, d1, d2, d3, d4, ha, k h0, k h1, k h2, k h3, k h4, node_below hb hn⟩

set_option maxHeartbeats 4000000 in
set_option maxRecDepth 100000 in
theorem seq_any (xs ys : List ByteArray) (a b : Option Addr) (m n : Nat) (w : World) (hx : KeysIn w a xs) (hy : KeysIn w b ys) (hl : xs.length ≤ 1000000) (r : Bool) (hr : r = true ↔ xs = ys) :
    Calls Tryd.prog 28 #[.slice a xs.length m, .slice b ys.length n] w fun e w' => e = .returned (.bool r) ∧ Below w.heap.size w w' := by
  obtain ⟨nk, hnk⟩ : ∃ nk, xs.length = nk := ⟨_, rfl⟩
  obtain ⟨mk, hmk⟩ : ∃ nk, ys.length = nk := ⟨_, rfl⟩
  rw [hnk, hmk]
  rw [hnk] at hl
  have HX := Lib.hid hx
  have HY := Lib.hid hy
  have HNK := Lib.hid hnk
  have HMK := Lib.hid hmk
  have HNE : Hid (xs ≠ ys → r = false) := Lib.hid (fun h => by cases r; rfl; exact absurd (hr.1 rfl) h)
  have HEQ : Hid (xs = ys → r = true) := Lib.hid (fun h => hr.2 h)
  have hki : (nk : Int) ≤ 1000000 := by omega
  clear hr hx hy
  by_cases e0 : nk = mk
  rotate_left 1
  · have g0 : ((nk : Int) != (mk : Int)) = true := by rw [bne_iff_ne]; omega
    have hs : r = false := HNE.out (fun e => e0 (by rw [← HNK.out, ← HMK.out, e]))
    subst hs
    clear hnk hmk
    go_enter Tryd.func28, Tryd.ntmps28
    go_wp2_with fail
    go_ret
    exact ⟨rfl, Below.refl _ _⟩
  subst e0
  clear hnk hmk
  go_enter Tryd.func28, Tryd.ntmps28
  go_wp2_with fail
  go_loopg [13] nk (fun m v wr => ∃ i : Nat, m = nk - i ∧ v = .int .i64 i ∧ i ≤ nk ∧ Below w.heap.size w wr ∧ Hid (∀ z (h1 : z < xs.length) (h2 : z < ys.length), z < i → xs[z] = ys[z]))
  case atStart => exact ⟨0, rfl, rfl, Nat.zero_le _, Below.refl _ _, Lib.hid (fun z _ _ h => absurd h (Nat.not_lt_zero z))⟩
  case round =>
    obtain ⟨i, rfl, rfl, hi, hb, HK⟩ := hrel
    by_cases hlt : i < nk
    · have h1 : i < xs.length := by rw [HNK.out]; exact hlt
      have h2 : i < ys.length := by rw [HMK.out]; exact hlt
      obtain ⟨g, o, e1, t1⟩ := HX.out.below hb i h1
      obtain ⟨g', o', e2, t2⟩ := HY.out.below hb i h2
      subst e1 e2
      obtain ⟨kx, hkx⟩ : ∃ kx, xs[i] = kx := ⟨_, rfl⟩
      obtain ⟨ky, hky⟩ : ∃ ky, ys[i] = ky := ⟨_, rfl⟩
      rw [hkx] at t1
      rw [hky] at t2
      have gi : (i : Int) < nk := by omega
      by_cases heq : kx = ky
      · subst heq
        have HK2 : Hid (∀ z (h1 : z < xs.length) (h2 : z < ys.length), z < i + 1 → xs[z] = ys[z]) := Lib.hid (fun z z1 z2 hz => by
          rcases Nat.lt_or_ge z i with h | h
          · exact HK.out z z1 z2 h
          · obtain rfl : z = i := by omega
            rw [hkx, hky])
        clear hkx hky HK
        go_wp2_with fail
        go_quiet (fail)
        go_wp2_with fail
        go_roundg (nk - (i + 1))
        case measure => omega
        case rel => exact ⟨i + 1, rfl, by go_num, by omega, bdn hb _, HK2⟩
      · have gt := text_no heq
        have hs : r = false := HNE.out (fun e => heq (by subst e; exact hkx.symm.trans hky))
        subst hs
        clear hkx hky HK HEQ HNE heq
        go_wp2_with fail
        go_quiet (fail)
        go_wp2_with fail
        go_ret
        exact ⟨rfl, bdn hb _⟩
    · have gi : decide ((i : Int) < (nk : Int)) = false := by rw [decide_eq_false_iff_not]; omega
      have hs : r = true := HEQ.out (list_ext (by rw [HNK.out, HMK.out]) (fun z z1 z2 => HK.out z z1 z2 (by have := HNK.out; omega)))
      subst hs
      go_wp2_with fail
      go_ret
      exact ⟨rfl, hb⟩
theorem in_forms {w : World} {j : J} {c0 c1 c2 c3 c4 : Value} (h : NodeIn w j (.agg #[c0, c1, c2, c3, c4])) : ∃ k n t a3 n3 m3 a4 n4 m4, c0 = .int .i64 k ∧ c1 = .int .i64 n ∧ c2 = .string t ∧ c3 = .slice a3 n3 m3 ∧ c4 = .slice a4 n4 m4 := by
  obtain ⟨a3, m3, a4, m4, h0, h1, h2, h3, h4, _⟩ := node_parts h
  exact ⟨_, _, _, _, _, _, _, _, _, h0, h1, h2, h3, h4⟩
/-- A new variable of type Node. -/
theorem bx_new (w : World) (x0 x1 x2 x3 x4 : Value) : Below w.heap.size w (w.alloc (Obj.cells #[x0, x1, x2, x3, x4] 25)) ∧ Bx w.heap.size x0 x1 x2 x3 x4 (w.alloc (Obj.cells #[x0, x1, x2, x3, x4] 25)) ∧ (w.alloc (Obj.cells #[x0, x1, x2, x3, x4] 25)).heap.size = w.heap.size + 1 :=
  ⟨(Below.refl _ w).alloc (Nat.le_refl _) _, Bx.made w _ _ _ _ _, by simp⟩

def CSameIn (a b : J) : Prop := ∀ (w : World) (c0 c1 c2 c3 c4 d0 d1 d2 d3 d4 : Value), NodeIn w a (.agg #[c0, c1, c2, c3, c4]) → NodeIn w b (.agg #[d0, d1, d2, d3, d4]) →
  Calls Tryd.prog 16 #[.agg #[c0, c1, c2, c3, c4], .agg #[d0, d1, d2, d3, d4]] w fun e w' => e = .returned (.bool (sameP a b)) ∧ Below w.heap.size w w'

set_option maxHeartbeats 8000000 in
set_option maxRecDepth 100000 in
theorem eqf_any (xs ys : List J) (a b : Option Addr) (m n : Nat) (w : World) (hx : KidsIn w a xs) (hy : KidsIn w b ys) (hl : xs.length ≤ 1000000) (ih : ∀ i (h : i < xs.length) (b' : J), CSameIn xs[i] b') (r : Bool) (hr : r = true ↔ xs = ys) :
    Calls Tryd.prog 29 #[.slice a xs.length m, .slice b ys.length n, .func (.func 16) #[] #[]] w fun e w' => e = .returned (.bool r) ∧ Below w.heap.size w w' := by
  obtain ⟨nk, hnk⟩ : ∃ nk, xs.length = nk := ⟨_, rfl⟩
  obtain ⟨mk, hmk⟩ : ∃ nk, ys.length = nk := ⟨_, rfl⟩
  rw [hnk, hmk]
  rw [hnk] at hl
  have HX := Lib.hid hx
  have HY := Lib.hid hy
  have HNK := Lib.hid hnk
  have HMK := Lib.hid hmk
  have HIH := Lib.hid ih
  have HNE : Hid (xs ≠ ys → r = false) := Lib.hid (fun h => by cases r; rfl; exact absurd (hr.1 rfl) h)
  have HEQ : Hid (xs = ys → r = true) := Lib.hid (fun h => hr.2 h)
  have hki : (nk : Int) ≤ 1000000 := by omega
  clear hr hx hy ih
  by_cases e0 : nk = mk
  rotate_left 1
  · have g0 : ((nk : Int) != (mk : Int)) = true := by rw [bne_iff_ne]; omega
    have hs : r = false := HNE.out (fun e => e0 (by rw [← HNK.out, ← HMK.out, e]))
    subst hs
    clear hnk hmk
    go_enter Tryd.func29, Tryd.ntmps29
    go_wp2_with fail
    go_ret
    exact ⟨rfl, Below.refl _ _⟩
  subst e0
  clear hnk hmk
  go_enter Tryd.func29, Tryd.ntmps29
  go_wp2_with fail
  go_loopg [17] nk (fun m v wr => ∃ i : Nat, m = nk - i ∧ v = .int .i64 i ∧ i ≤ nk ∧ Below w.heap.size w wr ∧ Hid (∀ z (h1 : z < xs.length) (h2 : z < ys.length), z < i → xs[z] = ys[z]))
  case atStart => exact ⟨0, rfl, rfl, Nat.zero_le _, Below.refl _ _, Lib.hid (fun z _ _ h => absurd h (Nat.not_lt_zero z))⟩
  case round =>
    obtain ⟨i, rfl, rfl, hi, hb, HK⟩ := hrel
    by_cases hlt : i < nk
    · have h1 : i < xs.length := by rw [HNK.out]; exact hlt
      have h2 : i < ys.length := by rw [HMK.out]; exact hlt
      obtain ⟨g, o, x0, x1, x2, x3, x4, e1, r0, r1, r2, r3, r4, hx⟩ := HX.out.below hb i h1
      obtain ⟨g', o', y0, y1, y2, y3, y4, e2, s0, s1, s2, s3, s4, hy⟩ := HY.out.below hb i h2
      subst e1 e2
      have gi : (i : Int) < nk := by omega
      obtain ⟨xk, xn, xt, xa, xl, xc, xb, xm, xd, rfl, rfl, rfl, rfl, rfl⟩ := in_forms hx
      obtain ⟨yk, yn, yt, ya, yl, yc, yb, ym, yd, rfl, rfl, rfl, rfl, rfl⟩ := in_forms hy
      obtain ⟨hn1, hn2, hn3⟩ := bx_new wr (.int .i64 xk) (.int .i64 xn) (.string xt) (.slice xa xl xc) (.slice xb xm xd)
      obtain ⟨W1, hW1⟩ : ∃ W1, wr.alloc (Obj.cells #[.int .i64 xk, .int .i64 xn, .string xt, .slice xa xl xc, .slice xb xm xd] 25) = W1 := ⟨_, rfl⟩
      rw [hW1] at hn1 hn2 hn3
      have HW1 := Lib.hid hW1
      obtain ⟨G, hG⟩ : ∃ G, wr.heap.size = G := ⟨_, rfl⟩
      rw [hG] at hn2 hn3
      have hy1 := node_below hn1 hy
      have hx1 := node_below hn1 hx
      have k1 : ∀ {m v}, wr.cell? ⟨g', m, none⟩ = some v → W1.cell? ⟨g', m, none⟩ = some v := fun {m v} hc => (hn1.cell (p := ⟨g', m, none⟩) (World.block_lt_of_cell? wr _ hc)).trans hc
      have t0 := k1 s0
      have t1 := k1 s1
      have t2 := k1 s2
      have t3 := k1 s3
      have t4 := k1 s4
      obtain ⟨hm1, hm2, hm3⟩ := bx_new W1 (.int .i64 yk) (.int .i64 yn) (.string yt) (.slice ya yl yc) (.slice yb ym yd)
      obtain ⟨W2, hW2⟩ : ∃ W2, W1.alloc (Obj.cells #[.int .i64 yk, .int .i64 yn, .string yt, .slice ya yl yc, .slice yb ym yd] 25) = W2 := ⟨_, rfl⟩
      rw [hW2] at hm1 hm2 hm3
      have HW2 := Lib.hid hW2
      have hA := hn2.same (hm1.block G (by omega))
      obtain ⟨G2, hG2⟩ : ∃ G2, W1.heap.size = G2 := ⟨_, rfl⟩
      rw [hG2] at hm2
      have hx2 := node_below hm1 hx1
      have hy2 := node_below hm1 hy1
      have hbW : Below wr.heap.size wr W2 := hn1.trans (hm1.mono hn1.size)
      have hsame := HIH.out i h1 ys[i] W2 _ _ _ _ _ _ _ _ _ _ hx2 hy2
      have p0 := hA.p0
      have p1 := hA.p1
      have p2 := hA.p2
      have p3 := hA.p3
      have p4 := hA.p4
      have q0 := hm2.p0
      have q1 := hm2.p1
      have q2 := hm2.p2
      have q3 := hm2.p3
      have q4 := hm2.p4
      have HB2 := Lib.hid (hb.trans (hbW.mono hb.size))
      have HHG := Lib.hid hG
      have HHG2 := Lib.hid hG2
      clear hx hy hx1 hy1 hx2 hy2 hn1 hn2 hn3 hm1 hm2 hm3 hA hW1 hW2 k1 hbW hb hG hG2 s0 s1 s2 s3 s4
      by_cases heq : xs[i] = ys[i]
      · rw [sameP_yes heq] at hsame
        have HK2 : Hid (∀ z (h1 : z < xs.length) (h2 : z < ys.length), z < i + 1 → xs[z] = ys[z]) := Lib.hid (fun z z1 z2 hz => by
          rcases Nat.lt_or_ge z i with h | h
          · exact HK.out z z1 z2 h
          · obtain rfl : z = i := by omega
            exact heq)
        clear heq HK
        go_upto_region 6 with fail
        rw [HW1.out, HHG.out]
        clear r0 r1 r2 r3 r4
        go_upto_region 7 with fail
        rw [HW2.out, HHG2.out]
        go_wp2_with fail
        refine hsame.mono ?_
        rintro e w3 ⟨rfl, hb3⟩
        go_wp2_with fail
        go_roundg (nk - (i + 1))
        case measure => omega
        case rel => exact ⟨i + 1, rfl, by go_num, by omega, HB2.out.trans (hb3.mono HB2.out.size), HK2⟩
      · rw [sameP_no heq] at hsame
        have hs : r = false := HNE.out (fun e => heq (by subst e; rfl))
        subst hs
        clear heq HK HEQ HNE
        go_upto_region 6 with fail
        rw [HW1.out, HHG.out]
        clear r0 r1 r2 r3 r4
        go_upto_region 7 with fail
        rw [HW2.out, HHG2.out]
        go_wp2_with fail
        refine hsame.mono ?_
        rintro e w3 ⟨rfl, hb3⟩
        go_wp2_with fail
        go_ret
        exact ⟨rfl, HB2.out.trans (hb3.mono HB2.out.size)⟩
    · have gi : decide ((i : Int) < (nk : Int)) = false := by rw [decide_eq_false_iff_not]; omega
      have hs : r = true := HEQ.out (list_ext (by rw [HNK.out, HMK.out]) (fun z z1 z2 => HK.out z z1 z2 (by have := HNK.out; omega)))
      subst hs
      go_wp2_with fail
      go_ret
      exact ⟨rfl, hb⟩
set_option maxHeartbeats 8000000 in
set_option maxRecDepth 100000 in
theorem csame_step (a b : J) (ih : ∀ (i : Nat) (h : i < a.kids.length) (b' : J), CSameIn a.kids[i] b') (hkl : a.keys.length ≤ 1000000) (hvl : a.kids.length ≤ 1000000) : CSameIn a b := by
  intro w c0 c1 c2 c3 c4 d0 d1 d2 d3 d4 hc hd
  obtain ⟨a3, m3, a4, m4, rfl, rfl, rfl, rfl, rfl, _, _⟩ := node_parts hc
  obtain ⟨b3, n3, b4, n4, rfl, rfl, rfl, rfl, rfl, _, _⟩ := node_parts hd
  obtain ⟨nk, hnk⟩ : ∃ nk, a.keys.length = nk := ⟨_, rfl⟩
  obtain ⟨nv, hnv⟩ : ∃ nv, a.kids.length = nv := ⟨_, rfl⟩
  obtain ⟨mk, hmk⟩ : ∃ nk, b.keys.length = nk := ⟨_, rfl⟩
  obtain ⟨mv, hmv⟩ : ∃ nv, b.kids.length = nv := ⟨_, rfl⟩
  obtain ⟨kd, hkd⟩ : ∃ kd, a.kind = kd := ⟨_, rfl⟩
  obtain ⟨nm, hnm⟩ : ∃ nm, a.num = nm := ⟨_, rfl⟩
  obtain ⟨tx, htx⟩ : ∃ tx, a.text = tx := ⟨_, rfl⟩
  obtain ⟨kd', hkd'⟩ : ∃ kd, b.kind = kd := ⟨_, rfl⟩
  obtain ⟨nm', hnm'⟩ : ∃ nm, b.num = nm := ⟨_, rfl⟩
  obtain ⟨tx', htx'⟩ : ∃ tx, b.text = tx := ⟨_, rfl⟩
  rw [hnk, hnv, hkd, hnm, htx] at hc
  rw [hmk, hmv, hkd', hnm', htx'] at hd
  rw [hnk, hnv, hkd, hnm, htx, hmk, hmv, hkd', hnm', htx']
  obtain ⟨W, hW⟩ : ∃ W, ((w.alloc (.cells #[.int .i64 kd, .int .i64 nm, .string tx, .slice a3 nk m3, .slice a4 nv m4] 25)).alloc (.cells #[.int .i64 kd', .int .i64 nm', .string tx', .slice b3 mk n3, .slice b4 mv n4] 25)) = W := ⟨_, rfl⟩
  have hbW : Below w.heap.size w W := by rw [← hW]; exact ((Below.refl _ w).alloc (Nat.le_refl _) _).alloc (by simp) _
  have hcW := node_below hbW hc
  have hdW := node_below hbW hd
  have hA : Bx w.heap.size (.int .i64 kd) (.int .i64 nm) (.string tx) (.slice a3 nk m3) (.slice a4 nv m4) W := by rw [← hW]; exact (Bx.made w _ _ _ _ _).alloc _
  have hB : Bx (w.heap.size + 1) (.int .i64 kd') (.int .i64 nm') (.string tx') (.slice b3 mk n3) (.slice b4 mv n4) W := by
    rw [← hW]
    have h9 := Bx.made (w.alloc (.cells #[.int .i64 kd, .int .i64 nm, .string tx, .slice a3 nk m3, .slice a4 nv m4] 25)) (.int .i64 kd') (.int .i64 nm') (.string tx') (.slice b3 mk n3) (.slice b4 mv n4)
    simpa using h9
  obtain ⟨G, hG⟩ : ∃ G, w.heap.size = G := ⟨_, rfl⟩
  rw [hG] at hA hB
  have hbG : Below G w W := by rw [← hG]; exact hbW
  have hGs : G ≤ W.heap.size := by rw [← hG]; exact hbW.size
  have HW := Lib.hid hW
  have HC := Lib.hid hcW
  have HD := Lib.hid hdW
  have hki : (nk : Int) ≤ 1000000 := by omega
  have hvi : (nv : Int) ≤ 1000000 := by omega
  have HIH := Lib.hid ih
  have HNK := Lib.hid hnk
  have HNV := Lib.hid hnv
  have HMK := Lib.hid hmk
  have HMV := Lib.hid hmv
  have hdiff : Hid ((kd ≠ kd' ∨ nm ≠ nm' ∨ tx ≠ tx' ∨ nk ≠ mk ∨ nv ≠ mv) → sameP a b = false) := Lib.hid (fun h => sameP_no (fun e => by
    subst e
    rcases h with h | h | h | h | h
    · exact h (hkd.symm.trans hkd')
    · exact h (hnm.symm.trans hnm')
    · exact h (htx.symm.trans htx')
    · exact h (hnk.symm.trans hmk)
    · exact h (hnv.symm.trans hmv)))
  have HEXT : Hid (kd = kd' → nm = nm' → tx = tx' → a.keys = b.keys → a.kids = b.kids → a = b) := Lib.hid (fun e0 e1 e2 e3 e4 => j_ext (by rw [hkd, hkd', e0]) (by rw [hnm, hnm', e1]) (by rw [htx, htx', e2]) e3 e4)
  have p0 := hA.p0
  have p1 := hA.p1
  have p2 := hA.p2
  have p3 := hA.p3
  have p4 := hA.p4
  have q0 := hB.p0
  have q1 := hB.p1
  have q2 := hB.p2
  have q3 := hB.p3
  have q4 := hB.p4
  obtain ⟨sp, hsp⟩ : ∃ sp, sameP a b = sp := ⟨_, rfl⟩
  rw [hsp]
  have HSP := Lib.hid hsp
  clear hW hc hd hcW hdW ih hkl hvl hnk hnv hmk hmv hkd hnm htx hkd' hnm' htx' hsp
  by_cases e0 : kd = kd'
  rotate_left 1
  · have g0 : (kd == kd') = false := by rw [beq_eq_false_iff_ne]; exact e0
    clear HEXT
    have hs : sp = false := by rw [← HSP.out]; exact hdiff.out (Or.inl e0)
    subst hs
    go_enter Tryd.func16, Tryd.ntmps16
    go_upto_region 1 with fail
    rw [HW.out]
    (try rw [hG])
    go_wp2_with fail
    go_ret
    first | exact ⟨rfl, hbW⟩ | exact ⟨rfl, hbG⟩
  subst e0
  by_cases e0 : nm = nm'
  rotate_left 1
  · have g0 : (nm == nm') = false := by rw [beq_eq_false_iff_ne]; exact e0
    clear HEXT
    have hs : sp = false := by rw [← HSP.out]; exact hdiff.out (Or.inr (Or.inl e0))
    subst hs
    go_enter Tryd.func16, Tryd.ntmps16
    go_upto_region 1 with fail
    rw [HW.out]
    (try rw [hG])
    go_wp2_with fail
    go_ret
    first | exact ⟨rfl, hbW⟩ | exact ⟨rfl, hbG⟩
  subst e0
  by_cases e0 : tx = tx'
  rotate_left 1
  · have g0 := text_no e0
    clear HEXT
    have hs : sp = false := by rw [← HSP.out]; exact hdiff.out (Or.inr (Or.inr (Or.inl e0)))
    subst hs
    go_enter Tryd.func16, Tryd.ntmps16
    go_upto_region 1 with fail
    rw [HW.out]
    (try rw [hG])
    go_wp2_with fail
    go_ret
    first | exact ⟨rfl, hbW⟩ | exact ⟨rfl, hbG⟩
  subst e0
  have HNE : Hid (a ≠ b → sp = false) := Lib.hid (fun h => by rw [← HSP.out]; exact sameP_no h)
  have HEQ : Hid (a = b → sp = true) := Lib.hid (fun h => by rw [← HSP.out]; exact sameP_yes h)
  have hka : KeysIn W a3 a.keys := fun i hi => keys_at HC.out i hi
  have hkb : KeysIn W b3 b.keys := fun i hi => keys_at HD.out i hi
  have hva : KidsIn W a4 a.kids := fun i hi => kids_at8 HC.out i hi
  have hvb : KidsIn W b4 b.kids := fun i hi => kids_at8 HD.out i hi
  clear hdiff HSP
  by_cases hk : a.keys = b.keys
  · have hq := seq_any a.keys b.keys a3 b3 m3 n3 W hka hkb (by have := HNK.out; omega) true ⟨fun _ => hk, fun _ => rfl⟩
    rw [HNK.out, HMK.out] at hq
    by_cases hv : a.kids = b.kids
    · have hs : sp = true := HEQ.out (HEXT.out (by trivial) (by trivial) (by trivial) hk hv)
      subst hs
      have hfun : Hid (∀ w1, Below W.heap.size W w1 → Calls Tryd.prog 29 #[.slice a4 nv m4, .slice b4 mv n4, .func (.func 16) #[] #[]] w1 fun e w' => e = .returned (.bool true) ∧ Below w1.heap.size w1 w') := Lib.hid (fun w1 hb => by
        have h9 := eqf_any a.kids b.kids a4 b4 m4 n4 w1 (hva.below hb) (hvb.below hb) (by have := HNV.out; omega) HIH.out true ⟨fun _ => hv, fun _ => rfl⟩
        rw [HNV.out, HMV.out] at h9
        exact h9)
      clear hka hkb hva hvb hk hv HNE HEQ HEXT
      go_enter Tryd.func16, Tryd.ntmps16
      go_upto_region 1 with fail
      rw [HW.out]
      (try rw [hG])
      go_wp2_with fail
      refine hq.mono ?_
      rintro e w1 ⟨rfl, hb1⟩
      have hA1 := hA.same (hb1.block G hA.lt)
      have hB1 := hB.same (hb1.block (G + 1) hB.lt)
      have u4 := hA1.p4
      have v4 := hB1.p4
      go_wp2_with fail
      refine (hfun.out w1 hb1).mono ?_
      rintro e w2 ⟨rfl, hb2⟩
      go_wp2_with fail
      go_ret
      exact ⟨rfl, hbW.trans ((hb1.trans (hb2.mono hb1.size)).mono hbW.size)⟩
    · have hs : sp = false := HNE.out (fun e => hv (by rw [e]))
      subst hs
      have hfun : Hid (∀ w1, Below W.heap.size W w1 → Calls Tryd.prog 29 #[.slice a4 nv m4, .slice b4 mv n4, .func (.func 16) #[] #[]] w1 fun e w' => e = .returned (.bool false) ∧ Below w1.heap.size w1 w') := Lib.hid (fun w1 hb => by
        have h9 := eqf_any a.kids b.kids a4 b4 m4 n4 w1 (hva.below hb) (hvb.below hb) (by have := HNV.out; omega) HIH.out false ⟨fun h => absurd h (by decide), fun h => absurd h hv⟩
        rw [HNV.out, HMV.out] at h9
        exact h9)
      clear hka hkb hva hvb hk hv HNE HEQ HEXT
      go_enter Tryd.func16, Tryd.ntmps16
      go_upto_region 1 with fail
      rw [HW.out]
      (try rw [hG])
      go_wp2_with fail
      refine hq.mono ?_
      rintro e w1 ⟨rfl, hb1⟩
      have hA1 := hA.same (hb1.block G hA.lt)
      have hB1 := hB.same (hb1.block (G + 1) hB.lt)
      have u4 := hA1.p4
      have v4 := hB1.p4
      go_wp2_with fail
      refine (hfun.out w1 hb1).mono ?_
      rintro e w2 ⟨rfl, hb2⟩
      go_wp2_with fail
      go_ret
      exact ⟨rfl, hbW.trans ((hb1.trans (hb2.mono hb1.size)).mono hbW.size)⟩
  · have hq := seq_any a.keys b.keys a3 b3 m3 n3 W hka hkb (by have := HNK.out; omega) false ⟨fun h => absurd h (by decide), fun h => absurd h hk⟩
    rw [HNK.out, HMK.out] at hq
    have hs : sp = false := HNE.out (fun e => hk (by rw [e]))
    subst hs
    clear hka hkb hva hvb hk HNE HEQ HEXT
    go_enter Tryd.func16, Tryd.ntmps16
    go_upto_region 1 with fail
    rw [HW.out]
    (try rw [hG])
    go_wp2_with fail
    refine hq.mono ?_
    rintro e w1 ⟨rfl, hb1⟩
    go_wp2_with fail
    go_ret
    exact ⟨rfl, hbW.trans (hb1.mono hbW.size)⟩
theorem csame_in (a b : J) (h : Tame a) : CSameIn a b := by
  induction h generalizing b with
  | mk k n t keys kids hk hv _ _ _ ih => exact csame_step _ b (fun i hi b' => ih i hi b') (by show keys.length ≤ 1000000; omega) (by show kids.length ≤ 1000000; omega)
end Go.Proofs.YtbjngdlkamdmdaaDoor.J8
