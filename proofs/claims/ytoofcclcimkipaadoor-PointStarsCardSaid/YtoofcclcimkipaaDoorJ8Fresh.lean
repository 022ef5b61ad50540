/-
  The program's fresh: any value again, in memory of its own. Condition: no list in it has more than 65536 elements, no text more than 300000 bytes (Tame).
-/
import Derived.Test.YtoofcclcimkipaaDoorJ8Grow
import Derived.Test.YtoofcclcimkipaaDoorJ8CSame
import Derived.Test.YtoofcclcimkipaaDoorJ7Cells
import Derived.Test.YtoofcclcimkipaaDoorU8Clone
import Derived.Deep.AppendLies
namespace Go.Proofs.YtoofcclcimkipaaDoor.J8
open Go Go.RowKit Go.Joins Kit J7 Nds

theorem fresh_end {a : J} {w wr w5 : World} {B G nk nv : Nat} {k n : Int} {t : ByteArray} {v3 v6 : Value}
    (hj : ∀ (P : Nat → Prop) (w' : World) (v3 v6 : Value), CellsAt P w' nk v3 (J7.strs a.keys) → (∃ cs, CellsAt P w' nv v6 cs ∧ KidsAt P w' a.kids cs) → NodeAt P w' a (.agg #[.int .i64 k, .int .i64 n, .string t, v3, v6]))
    (hk : wr.ownsRow B 9 1 v3 nk (J7.strs a.keys)) (hv : ∃ cs, wr.ownsRow B 25 5 v6 nv cs ∧ KidsAt (fun g => B ≤ g ∧ v6.ownBlock ≠ some g) wr a.kids cs) (hwB : w.heap.size ≤ B) (hGB : G + 1 < B) (hwG : w.heap.size ≤ G + 1)
    (h5 : Below wr.heap.size wr w5) (hb : Below w.heap.size w w5) :
    ∃ d0 d1 d2 d3 d4, Ending.returned (.agg #[.int .i64 k, .int .i64 n, .string t, v3, v6]) = .returned (.agg #[d0, d1, d2, d3, d4]) ∧ NodeAt (fun g => w.heap.size ≤ g) (putN w5 (G + 1) (.int .i64 k) (.int .i64 n) (.string t) v3 v6) a (.agg #[d0, d1, d2, d3, d4]) ∧ Below w.heap.size w (putN w5 (G + 1) (.int .i64 k) (.int .i64 n) (.string t) v3 v6) := by
  obtain ⟨wf, hwf⟩ : ∃ wf, putN w5 (G + 1) (.int .i64 k) (.int .i64 n) (.string t) v3 v6 = wf := ⟨_, rfl⟩
  have hold : ∀ g, B ≤ g → g < wr.heap.size → wf.heap[g]? = wr.heap[g]? := fun g h1 h2 => by
    rw [← hwf]
    exact (putN_block w5 (G + 1) _ _ _ _ _ g (by omega)).trans (h5.block g h2)
  have hbel : Below w.heap.size w wf := by
    rw [← hwf]
    exact ((((hb.setCell (p := ⟨G + 1, 0, none⟩) hwG _).setCell (p := ⟨G + 1, 1, none⟩) hwG _).setCell (p := ⟨G + 1, 2, none⟩) hwG _).setCell (p := ⟨G + 1, 3, none⟩) hwG _).setCell (p := ⟨G + 1, 4, none⟩) hwG _
  rw [hwf]
  refine ⟨_, _, _, _, _, rfl, hj _ _ _ _ ?_ ?_, hbel⟩
  · exact cells_own (own_keep8 hk (fun g e hl => hold g (hk.lt g e).1 hl)) (fun g hg => Nat.le_trans hwB hg)
  · obtain ⟨cs, h1, h2⟩ := hv
    exact ⟨cs, cells_own (own_keep8 h1 (fun g e hl => hold g (h1.lt g e).1 hl)) (fun g hg => Nat.le_trans hwB hg), h2.keep (fun g hg hl => ⟨Nat.le_trans hwB hg.1, hold g hg.1 hl⟩)⟩
def FreshOk (a : J) : Prop := ∀ (w : World) (c0 c1 c2 c3 c4 : Value), NodeIn w a (.agg #[c0, c1, c2, c3, c4]) →
  Calls Tryd.prog 49 #[.agg #[c0, c1, c2, c3, c4]] w fun e w' => ∃ d0 d1 d2 d3 d4, e = .returned (.agg #[d0, d1, d2, d3, d4]) ∧ NodeAt (fun g => w.heap.size ≤ g) w' a (.agg #[d0, d1, d2, d3, d4]) ∧ Below w.heap.size w w'

set_option maxHeartbeats 16000000 in
set_option maxRecDepth 100000 in
theorem fresh_step (a : J) (ih : ∀ (i : Nat) (h : i < a.kids.length), FreshOk a.kids[i]) (hkl : a.keys.length ≤ 65536) (hvl : a.kids.length ≤ 65536) (hts : a.text.size ≤ 300000) (hkz : ∀ q (h : q < a.keys.length), a.keys[q].size ≤ 300000) : FreshOk a := by
  intro w c0 c1 c2 c3 c4 hc
  obtain ⟨a3, m3, a4, m4, rfl, rfl, rfl, rfl, rfl, hkk, hvv⟩ := node_parts hc
  obtain ⟨nk, hnk⟩ : ∃ nk, a.keys.length = nk := ⟨_, rfl⟩
  obtain ⟨nv, hnv⟩ : ∃ nv, a.kids.length = nv := ⟨_, rfl⟩
  obtain ⟨k, hkd⟩ : ∃ kd, a.kind = kd := ⟨_, rfl⟩
  obtain ⟨n, hnm⟩ : ∃ nm, a.num = nm := ⟨_, rfl⟩
  obtain ⟨t, htx⟩ : ∃ tx, a.text = tx := ⟨_, rfl⟩
  rw [hnk, hnv, hkd, hnm, htx]
  obtain ⟨W, hW⟩ : ∃ W, ((w.alloc (.cells #[.int .i64 k, .int .i64 n, .string t, .slice a3 nk m3, .slice a4 nv m4] 25)).alloc (.cells #[.int .i64 0, .int .i64 0, .string ⟨#[]⟩, .slice none 0 0, .slice none 0 0] 25)) = W := ⟨_, rfl⟩
  have hb0 : Below w.heap.size w W := by rw [← hW]; exact ((Below.refl _ w).alloc (Nat.le_refl _) _).alloc (by simp) _
  have hA : Bx w.heap.size (.int .i64 k) (.int .i64 n) (.string t) (.slice a3 nk m3) (.slice a4 nv m4) W := by rw [← hW]; exact (Bx.made w _ _ _ _ _).alloc _
  have hR : Bx (w.heap.size + 1) (.int .i64 0) (.int .i64 0) (.string ⟨#[]⟩) (.slice none 0 0) (.slice none 0 0) W := by
    rw [← hW]
    have h9 := Bx.made (w.alloc (.cells #[.int .i64 k, .int .i64 n, .string t, .slice a3 nk m3, .slice a4 nv m4] 25)) (.int .i64 0) (.int .i64 0) (.string ⟨#[]⟩) (.slice none 0 0) (.slice none 0 0)
    simpa using h9
  have HKI : Hid (∀ w', Below W.heap.size W w' → KeysIn w' a3 a.keys) := Lib.hid (fun w' h => ((KeysIn.below (w := w) (fun i hi => hkk i hi) hb0).below h))
  have HVI : Hid (∀ w', Below W.heap.size W w' → KidsIn w' a4 a.kids) := Lib.hid (fun w' h => ((KidsIn.below (w := w) (fun i hi => hvv i hi) hb0).below h))
  have HB : Hid (∀ w', Below W.heap.size W w' → Below w.heap.size w w') := Lib.hid (fun w' h => hb0.trans (h.mono hb0.size))
  have hsz0 := hb0.size
  obtain ⟨G, hG⟩ : ∃ G, w.heap.size = G := ⟨_, rfl⟩
  rw [hG] at hA hR hsz0
  have HW := Lib.hid hW
  have HA : Hid (∀ w', Below W.heap.size W w' → Bx G (.int .i64 k) (.int .i64 n) (.string t) (.slice a3 nk m3) (.slice a4 nv m4) w' ∧ Bx (G + 1) (.int .i64 0) (.int .i64 0) (.string ⟨#[]⟩) (.slice none 0 0) (.slice none 0 0) w') := Lib.hid (fun w' h => ⟨hA.same (h.block G hA.lt), hR.same (h.block (G + 1) hR.lt)⟩)
  have HNK := Lib.hid hnk
  have HNV := Lib.hid hnv
  have HIH := Lib.hid ih
  have HKZ := Lib.hid hkz
  have HKL := Lib.hid hkl
  have HVL := Lib.hid hvl
  have hki : (nk : Int) ≤ 65536 := by omega
  have hvi : (nv : Int) ≤ 65536 := by omega
  have p3 := hA.p3
  have hgs := growS_any nk W (by omega)
  have HCL : Hid (∀ w', Calls Tryd.prog 59 #[.string t] w' fun e w'' => e = .returned (.string t) ∧ Below w'.heap.size w' w'') := Lib.hid (fun w' => U8.clone_any t w' (by rw [htx] at hts; omega))
  have HJ : Hid (∀ (P : Nat → Prop) (w' : World) (v3 v6 : Value), CellsAt P w' nk v3 (J7.strs a.keys) → (∃ cs, CellsAt P w' nv v6 cs ∧ KidsAt P w' a.kids cs) → NodeAt P w' a (.agg #[.int .i64 k, .int .i64 n, .string t, v3, v6])) := Lib.hid (fun P w' v3 v6 h1 h2 => by
    obtain ⟨ak, an, att, akeys, akids⟩ := a
    rw [NodeAt]
    obtain ⟨cs, h3, h4⟩ := h2
    simp only [J.kind, J.num, J.text, J.keys, J.kids] at *
    subst hkd hnm htx hnk hnv
    exact ⟨v3, v6, rfl, h1, cs, h3, h4⟩)
  have hGR : G + 1 < W.heap.size := hR.lt
  clear hW hc hkk hvv hb0 ih hkl hvl hnk hnv hkd hnm htx hkz hA hR hts
  go_enter Tryd.func49, Tryd.ntmps49
  go_upto_region 1 with fail
  rw [HW.out]
  (try rw [hG])
  go_wp2_with fail
  refine hgs.mono ?_
  rintro e w1 ⟨v1, rfl, ho1, hb1⟩
  have hs1 := hb1.size
  clear hgs p3
  have p3 := (HA.out w1 hb1).1.p3
  go_wp2_with fail
  clear p3
  obtain ⟨B, hB⟩ : ∃ B, W.heap.size = B := ⟨_, rfl⟩
  rw [hB] at ho1 hs1 hGR
  have HBB := Lib.hid hB
  obtain ⟨ax, cx, hvx⟩ := own_form8 ho1
  subst hvx
  go_loopg [3, 16] nk (fun m v3 v wr => ∃ i : Nat, m = nk - i ∧ v = .int .i64 i ∧ i ≤ nk ∧ Below W.heap.size W wr ∧ wr.ownsRow B 9 1 v3 i (J7.strs (a.keys.take i)))
  case atStart => exact ⟨0, rfl, rfl, Nat.zero_le _, hb1, ho1⟩
  case round =>
    clear ho1 hb1 hs1
    obtain ⟨i, rfl, rfl, hi, hb, ho⟩ := hrel
    obtain ⟨K, hK⟩ : ∃ K, a.keys.take i = K := ⟨_, rfl⟩
    rw [hK] at ho
    have HKK := Lib.hid hK
    have HKN : Hid (K.length = i) := Lib.hid (by rw [← hK, List.length_take, HNK.out]; omega)
    have ho := (show ∀ v, wr.ownsRow B 9 1 v i (J7.strs K) → wr.ownsRow B 9 1 v K.length (J7.strs K) from fun v h => by rw [HKN.out]; exact h) _ ho
    have hKn : K.length ≤ 65536 := by have := HKN.out; omega
    obtain ⟨av, cv, hvv⟩ := own_form8 ho
    subst hvv
    clear hK
    by_cases hlt : i < nk
    · have h1 : i < a.keys.length := by rw [HNK.out]; exact hlt
      obtain ⟨g, o, e1, t1⟩ := HKI.out wr hb i h1
      subst e1
      have gi : (i : Int) < nk := by omega
      obtain ⟨kb, hkb⟩ : ∃ kb, a.keys[i] = kb := ⟨_, rfl⟩
      rw [hkb] at t1
      have hcl := U8.clone_any kb wr (by have := HKZ.out i h1; rw [hkb] at this; omega)
      have HTK : Hid (a.keys.take (i + 1) = K ++ [kb]) := Lib.hid (by rw [List.take_succ_eq_append_getElem h1, hkb, HKK.out])
      clear hkb
      go_wp2_with fail
      refine hcl.mono ?_
      rintro e w2 ⟨rfl, hb2⟩
      have hb02 := hb.trans (hb2.mono hb.size)
      have ho2 := own_keep8 ho (fun g _ hl => hb2.block g hl)
      have hBs : B ≤ w2.heap.size := by have := hb02.size; have := HBB.out; omega
      clear hcl t1 ho hb2
      go_wp2_with (at_builtin; refine keys_app rfl _ _ rfl B w2 _ K ho2 kb rfl rfl hKn hBs ?_)
      intro g2 c2 w3 ho3 hg3
      have hb03 : Below W.heap.size W w3 := (hb02.alloc (by have := hb02.size; omega) _).grown hg3 (by have := hb02.size; simp; omega) (fun q e => by have := (ho2.lt q e).1; have := HBB.out; omega)
      clear ho2 hg3 hb02
      go_wp2_with fail
      go_roundg (nk - (i + 1))
      case measure => omega
      case rel =>
        refine ⟨i + 1, rfl, by go_num, by omega, hb03, ?_⟩
        rw [HTK.out, show i + 1 = K.length + 1 by have := HKN.out; omega]
        exact ho3
    · obtain rfl : i = nk := by omega
      have gi : decide ((i : Int) < (i : Int)) = false := by simp
      have HKA : Hid (K = a.keys) := Lib.hid (by rw [← HKK.out, ← HNK.out, List.take_length])
      have p4 := (HA.out wr hb).1.p4
      have hgn := growN_any nv wr (by omega)
      have hBs : B ≤ wr.heap.size := by have := hb.size; have := HBB.out; omega
      go_wp2_with fail
      refine hgn.mono ?_
      rintro e w2 ⟨v6, rfl, ho6, hb2⟩
      have hb02 := hb.trans (hb2.mono hb.size)
      have ho3 := own_keep8 ho (fun g _ hl => hb2.block g hl)
      have hkr : KidsR B v6 [] w2 := ⟨[], ⟨by simp, by
        rcases ho6.2 with h | ⟨g, cap, cur, h1, h2, h3⟩
        · exact Or.inl h
        · exact Or.inr ⟨g, cap, cur, h1, Nat.le_trans hBs h2, h3⟩⟩, kids_nil⟩
      obtain ⟨ax6, cx6, hvx6⟩ := own_form8 ho6
      subst hvx6
      clear hgn p4 ho ho6 hb2 hb
      have p4 := (HA.out w2 hb02).1.p4
      go_wp2_with fail
      clear p4
      go_loopg [6, 33] nv (fun m v6 v wr => ∃ i : Nat, m = nv - i ∧ v = .int .i64 i ∧ i ≤ nv ∧ Below W.heap.size W wr ∧ KidsR B v6 (a.kids.take i) wr ∧ wr.ownsRow B 9 1 (.slice av K.length cv) K.length (J7.strs K))
      case atStart => exact ⟨0, rfl, rfl, Nat.zero_le _, hb02, hkr, ho3⟩
      case round =>
        clear hkr ho3 hb02 hBs gi hlt hi
        obtain ⟨i2, rfl, rfl, hi2, hb, hkr, hks⟩ := hrel
        obtain ⟨V, hV⟩ : ∃ V, a.kids.take i2 = V := ⟨_, rfl⟩
        rw [hV] at hkr
        have HVV := Lib.hid hV
        have HVN : Hid (V.length = i2) := Lib.hid (by rw [← hV, List.length_take, HNV.out]; omega)
        have hVn : V.length ≤ 65536 := by have := HVN.out; omega
        have hBs : B ≤ wr.heap.size := by have := hb.size; have := HBB.out; omega
        obtain ⟨bv, dv, hvv⟩ := hkr.form
        subst hvv
        clear hV
        by_cases hlt : i2 < nv
        · have h1 : i2 < a.kids.length := by rw [HNV.out]; exact hlt
          obtain ⟨g, o, x0, x1, x2, x3, x4, e1, r0, r1, r2, r3, r4, hx⟩ := HVI.out wr hb i2 h1
          subst e1
          have gi : (i2 : Int) < nv := by omega
          obtain ⟨xk, xn, xt, xa, xl, xc, xb, xm, xd, rfl, rfl, rfl, rfl, rfl⟩ := in_forms hx
          obtain ⟨hn1, hn2, hn3⟩ := bx_new wr (.int .i64 xk) (.int .i64 xn) (.string xt) (.slice xa xl xc) (.slice xb xm xd)
          obtain ⟨W1, hW1⟩ : ∃ W1, wr.alloc (Obj.cells #[.int .i64 xk, .int .i64 xn, .string xt, .slice xa xl xc, .slice xb xm xd] 25) = W1 := ⟨_, rfl⟩
          rw [hW1] at hn1 hn2 hn3
          have HW1 := Lib.hid hW1
          have hcall := HIH.out i2 h1 W1 _ _ _ _ _ (node_below hn1 hx)
          have HTV : Hid (a.kids.take (i2 + 1) = V ++ [a.kids[i2]]) := Lib.hid (by rw [List.take_succ_eq_append_getElem h1, HVV.out])
          obtain ⟨kj, hkj⟩ : ∃ kj, a.kids[i2] = kj := ⟨_, rfl⟩
          rw [hkj] at hcall HTV
          obtain ⟨H, hH⟩ : ∃ H, wr.heap.size = H := ⟨_, rfl⟩
          rw [hH] at hn2 hn3
          have p0 := hn2.p0
          have p1 := hn2.p1
          have p2 := hn2.p2
          have p3 := hn2.p3
          have p4 := hn2.p4
          have hb1 := hb.trans (hn1.mono hb.size)
          have hkr1 := hkr.same (w' := W1) (fun g _ hl => hn1.block g hl)
          have hks1 := own_keep8 (w' := W1) hks (fun g _ hl => hn1.block g hl)
          have HHH := Lib.hid hH
          have hHB : B ≤ H := by omega
          clear hx hn1 hn2 hW1 hkr hks hb hkj hH
          go_upto_region 11 with fail
          rw [HW1.out, HHH.out]
          clear r0 r1 r2 r3 r4
          go_wp2_with fail
          refine hcall.mono ?_
          rintro e w3 ⟨y0, y1, y2, y3, y4, rfl, hy, hb3⟩
          have hb03 := hb1.trans (hb3.mono hb1.size)
          have hkr3 := hkr1.same (w' := w3) (fun g _ hl => hb3.block g hl)
          have hks3 := own_keep8 (w' := w3) hks1 (fun g _ hl => hb3.block g hl)
          have hvl : ∀ g, (Value.slice bv V.length dv).ownBlock = some g → g < W1.heap.size := fun g e => by
            obtain ⟨cs, h9, _⟩ := hkr1
            exact (h9.lt g e).2
          have hBs3 : B ≤ w3.heap.size := by have := hb3.size; omega
          clear p0 p1 p2 p3 p4 hcall hkr1 hks1 hb1
          go_wp2_with (at_builtin; refine KidsR.app rfl _ _ rfl B w3 _ V hkr3 kj y0 y1 y2 y3 y4 W1.heap.size hy (by omega) hvl rfl rfl hVn hBs3 ?_)
          intro g4 c4' w4 hkr4 hg4 hat4
          rw [← HTV.out] at hkr4
          have hb04 : Below W.heap.size W w4 := (hb03.alloc (by have := hb03.size; omega) _).grown hg4 (by have := hb03.size; simp; omega) (fun q e => by
            obtain ⟨cs, h9, _⟩ := hkr3
            have := (h9.lt q e).1
            have := HBB.out
            omega)
          have hks4 : w4.ownsRow B 9 1 (.slice av K.length cv) K.length (J7.strs K) := own_keep8 hks3 (fun g e hl => by
            obtain ⟨cs, h9, _⟩ := hkr3
            exact (hg4.block g (by simp; omega) (fun e2 => own_ne8 hks3 h9 (by decide) e e2.symm)).trans (Below.heap_alloc w3 _ g hl))
          clear hkr3 hks3 hy hb03 hg4 hat4 hvl
          go_wp2_with fail
          go_roundg (nv - (i2 + 1))
          case measure => omega
          case rel => exact ⟨i2 + 1, rfl, by go_num, by omega, hb04, hkr4, hks4⟩
        · obtain rfl : i2 = nv := by omega
          have gi : decide ((i2 : Int) < (i2 : Int)) = false := by simp
          have HVA : Hid (V = a.kids) := Lib.hid (by rw [← HVV.out, ← HNV.out, List.take_length])
          obtain ⟨hAx, hRx⟩ := HA.out wr hb
          have p0 := hAx.p0
          have p1 := hAx.p1
          have p2 := hAx.p2
          have q0 := hRx.p0
          have q1 := hRx.p1
          have q2 := hRx.p2
          have q3 := hRx.p3
          have q4 := hRx.p4
          have f0 := hRx.free 0
          have f1 := hRx.free 1
          have f2 := hRx.free 2
          have f3 := hRx.free 3
          have f4 := hRx.free 4
          have HHK : Hid (wr.ownsRow B 9 1 (.slice av K.length cv) K.length (J7.strs K)) := Lib.hid hks
          have HHV : Hid (KidsR B (.slice bv V.length dv) V wr) := Lib.hid hkr
          have HEND : Hid (∀ w5, Below wr.heap.size wr w5 → ∃ d0 d1 d2 d3 d4, Ending.returned (.agg #[.int .i64 k, .int .i64 n, .string t, .slice av K.length cv, .slice bv V.length dv]) = .returned (.agg #[d0, d1, d2, d3, d4]) ∧ NodeAt (fun g => w.heap.size ≤ g) (putN w5 (G + 1) (.int .i64 k) (.int .i64 n) (.string t) (.slice av K.length cv) (.slice bv V.length dv)) a (.agg #[d0, d1, d2, d3, d4]) ∧ Below w.heap.size w (putN w5 (G + 1) (.int .i64 k) (.int .i64 n) (.string t) (.slice av K.length cv) (.slice bv V.length dv))) := Lib.hid (fun w5 h5 => by
            have hwB : w.heap.size ≤ B := by rw [hG]; omega
            refine fresh_end HJ.out ?_ ?_ hwB hGR (by rw [hG]; omega) h5 (HB.out w5 (hb.trans (h5.mono hb.size)))
            · have h9 := hks
              rw [HKA.out, HNK.out] at h9
              rw [HKA.out, HNK.out]
              exact h9
            · obtain ⟨cs, q1, q2⟩ := hkr
              exact ⟨cs, (show ∀ m, m = i2 → wr.ownsRow B 25 5 (.slice bv V.length dv) m cs → wr.ownsRow B 25 5 (.slice bv V.length dv) i2 cs from fun m e h => by subst e; exact h) _ HVN.out q1,
                (show ∀ U, V = U → KidsAt (fun g => B ≤ g ∧ (Value.slice bv V.length dv).ownBlock ≠ some g) wr V cs → KidsAt (fun g => B ≤ g ∧ (Value.slice bv V.length dv).ownBlock ≠ some g) wr U cs from fun U e h => e ▸ h) _ HVA.out q2⟩)
          have HBR := Lib.hid hb
          clear hks hkr
          go_wp2_with fail
          go_region_with (refine (HCL.out _).mono ?_; rintro e w5 ⟨rfl, hb5⟩; (have hb05 : Below wr.heap.size wr w5 := ((Below.refl _ wr).drew).trans hb5); obtain ⟨hA5, hR5⟩ := HA.out w5 (hb.trans (hb05.mono hb.size)); (have s0 := hA5.p0); (have s1 := hA5.p1); (have s2 := hA5.p2); (have u0 := hR5.p0); (have u1 := hR5.p1); (have u2 := hR5.p2); (have u3 := hR5.p3); (have u4 := hR5.p4); (have k0 := hR5.free 0); (have k1 := hR5.free 1); (have k2 := hR5.free 2); (have k3 := hR5.free 3); (have k4 := hR5.free 4))
          all_goals
            go_wp2_with fail
            refine bodyPost_ret (node_result rfl _ rfl (hR5.setAll _ _ _ _ _)) rfl ?_
            exact HEND.out w5 hb05
theorem fresh_any (a : J) (h : Tame a) : FreshOk a := by
  induction h with
  | mk k n t keys kids hk hv ht hks _ ih => exact fresh_step (.mk k n t keys kids) (fun i hi => ih i hi) hk hv ht (fun q hq => hks q hq)
end Go.Proofs.YtoofcclcimkipaaDoor.J8
