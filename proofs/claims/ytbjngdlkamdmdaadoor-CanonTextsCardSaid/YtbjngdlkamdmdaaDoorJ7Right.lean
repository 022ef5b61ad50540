/-
  The document's answer for package canon, as the statements have it: whether a value is right. Conditions: what it holds is small.
-/
import Derived.Test.YtbjngdlkamdmdaaDoorJ7Put
import Derived.Test.YtbjngdlkamdmdaaDoorU8RefValid
namespace Go.Proofs.YtbjngdlkamdmdaaDoor.J7
open Go Go.RowKit Go.Joins Kit

set_option maxHeartbeats 2000000 in
set_option maxRecDepth 100000 in
theorem right_leaf (k n : Int) (t : ByteArray) (hk : k = 1 ∨ k = 2 ∨ k = 3 ∨ k = 4 ∨ k = 5) (hn : k ≠ 4 → n = 0) (ht : k ≠ 5 → t = ⟨#[]⟩) (h1 : n ≤ 9007199254740991) (h2 : -9007199254740991 ≤ n) (hts : t.size ≤ 300000) (P : Nat → Prop) (w : World) (d : Int) (c0 c1 c2 c3 c4 : Value)
    (hN : NodeAt P w (.mk k n t [] []) (.agg #[c0, c1, c2, c3, c4])) :
    Calls Tryd.prog 27 #[.agg #[c0, c1, c2, c3, c4], .int .i64 d] w fun e w' => e = .returned (.bool (U8.validL t.data.toList)) ∧ Below w.heap.size w w' := by
  obtain ⟨e0, e1, e2, ⟨a3, m3, e3⟩, ⟨a4, m4, e4⟩⟩ := node_cells hN
  obtain rfl : c0 = .int .i64 k := e0
  obtain rfl : c1 = .int .i64 n := e1
  obtain rfl : c2 = .string t := e2
  obtain rfl : c3 = .slice a3 0 m3 := e3
  obtain rfl : c4 = .slice a4 0 m4 := e4
  obtain ⟨W, hW⟩ : ∃ W, w.alloc (.cells #[.int .i64 k, .int .i64 n, .string t, .slice a3 0 m3, .slice a4 0 m4] 25) = W := ⟨_, rfl⟩
  have hb0 : Below w.heap.size w W := by rw [← hW]; exact (Below.refl _ w).alloc (Nat.le_refl _) _
  have hA : Bx w.heap.size (.int .i64 k) (.int .i64 n) (.string t) (.slice a3 0 m3) (.slice a4 0 m4) W := by rw [← hW]; exact Bx.made w _ _ _ _ _
  have HW := Lib.hid hW
  obtain ⟨G, hG⟩ : ∃ G, w.heap.size = G := ⟨_, rfl⟩
  rw [hG] at hA
  have p0 := hA.p0
  have p1 := hA.p1
  have p2 := hA.p2
  have hv := U8.rvalid_any t (by omega) W
  obtain ⟨vb, hvb⟩ : ∃ vb, U8.validL t.data.toList = vb := ⟨_, rfl⟩
  rw [hvb] at hv ⊢
  clear hN hW
  rcases hk with rfl | rfl | rfl | rfl | rfl
  · obtain rfl : n = 0 := hn (by decide)
    obtain rfl : t = ⟨#[]⟩ := ht (by decide)
    obtain rfl : vb = true := by rw [← hvb]; rfl
    clear hn ht hvb
    go_enter Tryd.func27, Tryd.ntmps27
    go_upto_region 1 with fail
    rw [HW.out]
    (try rw [hG])
    go_wp2_with fail
    refine hv.mono ?_
    rintro e w1 ⟨rfl, hb1⟩
    have hA1 := hA.same (hb1.block G hA.lt)
    have r0 := hA1.p0
    have r3 := hA1.p3
    have r4 := hA1.p4
    go_wp2_with fail
    refine wp_loop_rounds 1 ?_
    rw [rounds_succ]
    go_wp2_with fail
    refine wp_loop_rounds 1 ?_
    rw [rounds_succ]
    go_wp2_with fail
    go_ret
    exact ⟨rfl, hb0.trans (hb1.mono hb0.size)⟩
  · obtain rfl : n = 0 := hn (by decide)
    obtain rfl : t = ⟨#[]⟩ := ht (by decide)
    obtain rfl : vb = true := by rw [← hvb]; rfl
    clear hn ht hvb
    go_enter Tryd.func27, Tryd.ntmps27
    go_upto_region 1 with fail
    rw [HW.out]
    (try rw [hG])
    go_wp2_with fail
    refine hv.mono ?_
    rintro e w1 ⟨rfl, hb1⟩
    have hA1 := hA.same (hb1.block G hA.lt)
    have r0 := hA1.p0
    have r3 := hA1.p3
    have r4 := hA1.p4
    go_wp2_with fail
    refine wp_loop_rounds 1 ?_
    rw [rounds_succ]
    go_wp2_with fail
    refine wp_loop_rounds 1 ?_
    rw [rounds_succ]
    go_wp2_with fail
    go_ret
    exact ⟨rfl, hb0.trans (hb1.mono hb0.size)⟩
  · obtain rfl : n = 0 := hn (by decide)
    obtain rfl : t = ⟨#[]⟩ := ht (by decide)
    obtain rfl : vb = true := by rw [← hvb]; rfl
    clear hn ht hvb
    go_enter Tryd.func27, Tryd.ntmps27
    go_upto_region 1 with fail
    rw [HW.out]
    (try rw [hG])
    go_wp2_with fail
    refine hv.mono ?_
    rintro e w1 ⟨rfl, hb1⟩
    have hA1 := hA.same (hb1.block G hA.lt)
    have r0 := hA1.p0
    have r3 := hA1.p3
    have r4 := hA1.p4
    go_wp2_with fail
    refine wp_loop_rounds 1 ?_
    rw [rounds_succ]
    go_wp2_with fail
    refine wp_loop_rounds 1 ?_
    rw [rounds_succ]
    go_wp2_with fail
    go_ret
    exact ⟨rfl, hb0.trans (hb1.mono hb0.size)⟩
  · obtain rfl : t = ⟨#[]⟩ := ht (by decide)
    obtain rfl : vb = true := by rw [← hvb]; rfl
    clear hn ht hvb
    go_enter Tryd.func27, Tryd.ntmps27
    go_upto_region 1 with fail
    rw [HW.out]
    (try rw [hG])
    go_wp2_with fail
    refine hv.mono ?_
    rintro e w1 ⟨rfl, hb1⟩
    have hA1 := hA.same (hb1.block G hA.lt)
    have r0 := hA1.p0
    have r3 := hA1.p3
    have r4 := hA1.p4
    go_wp2_with fail
    refine wp_loop_rounds 1 ?_
    rw [rounds_succ]
    go_wp2_with fail
    refine wp_loop_rounds 1 ?_
    rw [rounds_succ]
    go_wp2_with fail
    go_ret
    exact ⟨rfl, hb0.trans (hb1.mono hb0.size)⟩
  · obtain rfl : n = 0 := hn (by decide)
    clear hn ht hvb
    cases vb
    · go_enter Tryd.func27, Tryd.ntmps27
      go_upto_region 1 with fail
      rw [HW.out]
      (try rw [hG])
      go_wp2_with fail
      refine hv.mono ?_
      rintro e w1 ⟨rfl, hb1⟩
      have hA1 := hA.same (hb1.block G hA.lt)
      have r0 := hA1.p0
      have r3 := hA1.p3
      have r4 := hA1.p4
      go_wp2_with fail
      go_ret
      exact ⟨rfl, hb0.trans (hb1.mono hb0.size)⟩
    · go_enter Tryd.func27, Tryd.ntmps27
      go_upto_region 1 with fail
      rw [HW.out]
      (try rw [hG])
      go_wp2_with fail
      refine hv.mono ?_
      rintro e w1 ⟨rfl, hb1⟩
      have hA1 := hA.same (hb1.block G hA.lt)
      have r0 := hA1.p0
      have r3 := hA1.p3
      have r4 := hA1.p4
      go_wp2_with fail
      refine wp_loop_rounds 1 ?_
      rw [rounds_succ]
      go_wp2_with fail
      refine wp_loop_rounds 1 ?_
      rw [rounds_succ]
      go_wp2_with fail
      go_ret
      exact ⟨rfl, hb0.trans (hb1.mono hb0.size)⟩
theorem keys_ne (keys : List ByteArray) (hnd : (keys.map fun k => k.data.toList).Nodup) (y q : Nat) (hly : y < keys.length) (hltk : q < keys.length) (hlt : y < q) : (keys[y].toList == keys[q].toList) = false := by
  rw [beq_eq_false_iff_ne, Lib.toList_data, Lib.toList_data]
  have h := List.pairwise_iff_getElem.1 hnd y q (by rw [List.length_map]; exact hly) (by rw [List.length_map]; exact hltk) hlt
  rw [List.getElem_map, List.getElem_map] at h
  exact h

def RightOk (d : Nat) (j : J) : Prop := ∀ (P : Nat → Prop) (w : World) (dd : Nat) (c0 c1 c2 c3 c4 : Value), dd + d = 24 → NodeAt P w j (.agg #[c0, c1, c2, c3, c4]) →
  Calls Tryd.prog 27 #[.agg #[c0, c1, c2, c3, c4], .int .i64 (dd : Int)] w fun e w' => e = .returned (.bool true) ∧ Below w.heap.size w w'

set_option maxHeartbeats 4000000 in
set_option maxRecDepth 100000 in
theorem right_list (d : Nat) (k : Int) (obj : Bool) (hk : k = if obj then 7 else 6) (keys : List ByteArray) (kids : List J) (ih : ∀ (i : Nat) (h : i < kids.length), RightOk d kids[i]) (hno : obj = false → keys = []) (hkk : obj = true → keys.length = kids.length) (hkl : kids.length ≤ 65536) (hkl2 : keys.length ≤ 65536)
    (hks : ∀ k ∈ keys, k.size ≤ 300000) (hvl : ∀ k ∈ keys, U8.validL k.data.toList = true) (hnd : (keys.map fun k => k.data.toList).Nodup) : RightOk (d + 1) (.mk k 0 ⟨#[]⟩ keys kids) := by
  intro P w dd c0 c1 c2 c3 c4 hdd hN
  obtain ⟨e0, e1, e2, ⟨a3, m3, e3⟩, ⟨a4, m4, e4⟩⟩ := node_cells hN
  obtain rfl : c0 = .int .i64 k := e0
  obtain rfl : c1 = .int .i64 0 := e1
  obtain rfl : c2 = .string ⟨#[]⟩ := e2
  obtain rfl : c3 = .slice a3 keys.length m3 := e3
  obtain rfl : c4 = .slice a4 kids.length m4 := e4
  obtain ⟨nk, hnk⟩ : ∃ nk, keys.length = nk := ⟨_, rfl⟩
  obtain ⟨nv, hnv⟩ : ∃ nv, kids.length = nv := ⟨_, rfl⟩
  rw [hnk, hnv] at hN ⊢
  have hkli : (nv : Int) ≤ 65536 := by omega
  have hkli2 : (nk : Int) ≤ 65536 := by omega
  have hddi : (dd : Int) ≤ 23 := by omega
  have hwr : IntKind.i64.wrap ((dd : Int) + 1) = (dd : Int) + 1 := by rw [IntKind.wrap_i64]; omega
  obtain ⟨W, hW⟩ : ∃ W, w.alloc (.cells #[.int .i64 k, .int .i64 0, .string ⟨#[]⟩, .slice a3 nk m3, .slice a4 nv m4] 25) = W := ⟨_, rfl⟩
  have hb0 : Below w.heap.size w W := by rw [← hW]; exact (Below.refl _ w).alloc (Nat.le_refl _) _
  have hA : Bx w.heap.size (.int .i64 k) (.int .i64 0) (.string ⟨#[]⟩) (.slice a3 nk m3) (.slice a4 nv m4) W := by rw [← hW]; exact Bx.made w _ _ _ _ _
  have hNW := hN.keep (kept_below hb0)
  have HW := Lib.hid hW
  obtain ⟨G, hG⟩ : ∃ G, w.heap.size = G := ⟨_, rfl⟩
  rw [hG] at hA
  have hGl := hA.lt
  have p0 := hA.p0
  have p1 := hA.p1
  have p2 := hA.p2
  have hv := U8.rvalid_any ⟨#[]⟩ (by decide) W
  rw [show U8.validL (ByteArray.mk #[]).data.toList = true from rfl] at hv
  clear hN hW
  cases obj
  · obtain rfl : k = 6 := hk
    obtain rfl : keys = [] := hno rfl
    obtain rfl : 0 = nk := hnk
    clear hkk hno
    go_enter Tryd.func27, Tryd.ntmps27
    go_upto_region 1 with fail
    rw [HW.out]
    (try rw [hG])
    go_wp2_with fail
    refine hv.mono ?_
    rintro e w1 ⟨rfl, hb1⟩
    have hA1 := hA.same (hb1.block G hGl)
    have r0 := hA1.p0
    have r3 := hA1.p3
    have r4 := hA1.p4
    go_wp2_with fail
    go_loopg [5] nv (fun m v wr => ∃ i : Nat, m = nv - i ∧ v = .int .i64 i ∧ i ≤ nv ∧ Below W.heap.size W wr)
    case atStart => exact ⟨0, rfl, rfl, Nat.zero_le _, hb1⟩
    case round =>
      clear hA1 r0 r3 r4 hb1
      obtain ⟨i, rfl, rfl, hi, hb⟩ := hrel
      have hA2 := hA.same (hb.block G hGl)
      have r3 := hA2.p3
      have q4 := hA2.p4
      have hN2 := hNW.keep (kept_below hb)
      by_cases hlt : i < nv
      · have hlt' : i < kids.length := by rw [hnv]; exact hlt
        have gi : (i : Int) < nv := by omega
        obtain ⟨g, ov, cap, e1, t1⟩ := kid_cells hN2 (by show kids ≠ []; intro e; rw [e] at hlt'; exact absurd hlt' (by simp))
        rw [show (J.mk 6 0 ⟨#[]⟩ [] kids).kids.length = nv from hnv] at e1
        injection e1 with e1 _ e1c
        subst e1 e1c
        obtain ⟨x0, x1, x2, x3, x4, s0, s1, s2, s3, s4, hx⟩ := t1 i hlt'
        have s0' : wr.cell? ⟨g, ov + i * 5, none⟩ = some x0 := by rw [← s0] <;> (first | rfl | (congr 2 <;> omega))
        have s1' : wr.cell? ⟨g, ov + i * 5 + 1, none⟩ = some x1 := by rw [← s1] <;> (first | rfl | (congr 2 <;> omega))
        have s2' : wr.cell? ⟨g, ov + i * 5 + 2, none⟩ = some x2 := by rw [← s2] <;> (first | rfl | (congr 2 <;> omega))
        have s3' : wr.cell? ⟨g, ov + i * 5 + 3, none⟩ = some x3 := by rw [← s3] <;> (first | rfl | (congr 2 <;> omega))
        have s4' : wr.cell? ⟨g, ov + i * 5 + 4, none⟩ = some x4 := by rw [← s4] <;> (first | rfl | (congr 2 <;> omega))
        have p4 := hA2.p4
        have hright := ih i hlt' P wr (dd + 1) x0 x1 x2 x3 x4 (by omega) hx
        rw [show ((dd + 1 : Nat) : Int) = (dd : Int) + 1 by omega] at hright
        clear t1 s0 s1 s2 s3 s4 hx
        go_wp2_with fail
        refine hright.mono ?_
        rintro e w2 ⟨rfl, hb2⟩
        go_wp2_with fail
        go_roundg (nv - (i + 1))
        case measure => omega
        case rel => exact ⟨i + 1, rfl, by go_num, by omega, hb.trans (hb2.mono hb.size)⟩
      · have gi : decide ((i : Int) < (nv : Int)) = false := by rw [decide_eq_false_iff_not]; omega
        go_wp2_with fail
        refine wp_loop_rounds 1 ?_
        rw [rounds_succ]
        go_wp2_with fail
        go_ret
        exact ⟨rfl, hb0.trans (hb.mono hb0.size)⟩
  · obtain rfl : k = 7 := hk
    have hkk' : nv = nk := by rw [← hnk, ← hnv]; exact (hkk rfl).symm
    subst hkk'
    clear hkk hno
    go_enter Tryd.func27, Tryd.ntmps27
    go_upto_region 1 with fail
    rw [HW.out]
    (try rw [hG])
    go_wp2_with fail
    refine hv.mono ?_
    rintro e w1 ⟨rfl, hb1⟩
    have hA1 := hA.same (hb1.block G hGl)
    have r0 := hA1.p0
    have r3 := hA1.p3
    have r4 := hA1.p4
    go_wp2_with fail
    go_loopg [5] nv (fun m v wr => ∃ i : Nat, m = nv - i ∧ v = .int .i64 i ∧ i ≤ nv ∧ Below W.heap.size W wr)
    case atStart => exact ⟨0, rfl, rfl, Nat.zero_le _, hb1⟩
    case round =>
      clear hA1 r0 r3 r4 hb1
      obtain ⟨i, rfl, rfl, hi, hb⟩ := hrel
      have hA2 := hA.same (hb.block G hGl)
      have r3 := hA2.p3
      have q4 := hA2.p4
      have hN2 := hNW.keep (kept_below hb)
      by_cases hlt : i < nv
      · have hlt' : i < kids.length := by rw [hnv]; exact hlt
        have gi : (i : Int) < nv := by omega
        obtain ⟨g, ov, cap, e1, t1⟩ := kid_cells hN2 (by show kids ≠ []; intro e; rw [e] at hlt'; exact absurd hlt' (by simp))
        rw [show (J.mk 7 0 ⟨#[]⟩ keys kids).kids.length = nv from hnv] at e1
        injection e1 with e1 _ e1c
        subst e1 e1c
        obtain ⟨x0, x1, x2, x3, x4, s0, s1, s2, s3, s4, hx⟩ := t1 i hlt'
        have s0' : wr.cell? ⟨g, ov + i * 5, none⟩ = some x0 := by rw [← s0] <;> (first | rfl | (congr 2 <;> omega))
        have s1' : wr.cell? ⟨g, ov + i * 5 + 1, none⟩ = some x1 := by rw [← s1] <;> (first | rfl | (congr 2 <;> omega))
        have s2' : wr.cell? ⟨g, ov + i * 5 + 2, none⟩ = some x2 := by rw [← s2] <;> (first | rfl | (congr 2 <;> omega))
        have s3' : wr.cell? ⟨g, ov + i * 5 + 3, none⟩ = some x3 := by rw [← s3] <;> (first | rfl | (congr 2 <;> omega))
        have s4' : wr.cell? ⟨g, ov + i * 5 + 4, none⟩ = some x4 := by rw [← s4] <;> (first | rfl | (congr 2 <;> omega))
        have p4 := hA2.p4
        have hright := ih i hlt' P wr (dd + 1) x0 x1 x2 x3 x4 (by omega) hx
        rw [show ((dd + 1 : Nat) : Int) = (dd : Int) + 1 by omega] at hright
        clear t1 s0 s1 s2 s3 s4 hx
        go_wp2_with fail
        refine hright.mono ?_
        rintro e w2 ⟨rfl, hb2⟩
        go_wp2_with fail
        go_roundg (nv - (i + 1))
        case measure => omega
        case rel => exact ⟨i + 1, rfl, by go_num, by omega, hb.trans (hb2.mono hb.size)⟩
      · have gi : decide ((i : Int) < (nv : Int)) = false := by rw [decide_eq_false_iff_not]; omega
        go_wp2_with fail
        clear gi hlt
        go_loopg [6, 7] nv (fun m v _ wr => ∃ q : Nat, m = nv - q ∧ v = .int .i64 q ∧ q ≤ nv ∧ Below W.heap.size W wr)
        case atStart => exact ⟨0, rfl, rfl, Nat.zero_le _, hb⟩
        case round =>
          clear hA2 r3 q4 hN2 hb
          obtain ⟨q, rfl, rfl, hq, hb⟩ := hrel
          have hA2 := hA.same (hb.block G hGl)
          have r3 := hA2.p3
          have hN2 := hNW.keep (kept_below hb)
          by_cases hlt : q < nv
          · have hltk : q < keys.length := by rw [hnk]; exact hlt
            have gq : (q : Int) < nv := by omega
            obtain ⟨kg, ko, kcap, ke, kt⟩ := key_cells hN2 q hltk
            rw [show (J.mk 7 0 ⟨#[]⟩ keys kids).keys.length = nv from hnk] at ke
            injection ke with ke1 _ ke2
            subst ke1 ke2
            have kt' : wr.cell? ⟨kg, ko + q, none⟩ = some (.string keys[q]) := kt
            have HKB := Lib.hid (hks _ (List.getElem_mem hltk))
            have HVB := Lib.hid (hvl _ (List.getElem_mem hltk))
            have hval := U8.rvalid_any keys[q] (by have := HKB.out; omega) wr
            rw [HVB.out] at hval
            obtain ⟨kb, hkb⟩ : ∃ kb, keys[q] = kb := ⟨_, rfl⟩
            rw [hkb] at kt' hval
            have HKE := Lib.hid hkb
            have r3' := hA2.p3
            clear kt hkb
            go_wp2_with fail
            refine hval.mono ?_
            rintro e w3 ⟨rfl, hb3⟩
            have hb4 := hb.trans (hb3.mono hb.size)
            go_wp2_with fail
            go_loopg [7] q (fun m v wr => ∃ y : Nat, m = q - y ∧ v = .int .i64 y ∧ y ≤ q ∧ Below W.heap.size W wr)
            case atStart => exact ⟨0, rfl, rfl, Nat.zero_le _, hb4⟩
            case round =>
              clear hA2 r3 r3' hN2 hb hb3 hb4 kt' hval
              obtain ⟨y, rfl, rfl, hy, hb⟩ := hrel
              have hA2 := hA.same (hb.block G hGl)
              have r3 := hA2.p3
              have hN2 := hNW.keep (kept_below hb)
              by_cases hlty : y < q
              · have gy : (y : Int) < q := by omega
                have hly : y < keys.length := by omega
                obtain ⟨zg, zo, zcap, ze, zt⟩ := key_cells hN2 q hltk
                obtain ⟨yg, yo, ycap, ye, yt⟩ := key_cells hN2 y hly
                rw [show (J.mk 7 0 ⟨#[]⟩ keys kids).keys.length = nv from hnk] at ze ye
                injection ze with ze1 _ ze2
                injection ye with ye1 _ ye2
                injection ze1 with ze1
                injection ye1 with ye1
                injection ze1 with zea zeb _
                injection ye1 with yea yeb _
                subst zea zeb yea yeb
                have kq : wr.cell? ⟨kg, ko + q, none⟩ = some (.string keys[q]) := zt
                have ky : wr.cell? ⟨kg, ko + y, none⟩ = some (.string keys[y]) := yt
                have hne := keys_ne keys hnd y q hly hltk hlty
                obtain ⟨kx, hkx⟩ : ∃ kx, keys[y] = kx := ⟨_, rfl⟩
                rw [HKE.out] at kq hne
                rw [hkx] at ky hne
                clear zt yt hkx ze2 ye2
                go_wp2_with fail
                go_quiet (fail)
                go_wp2_with fail
                go_roundg (q - (y + 1))
                case measure => omega
                case rel => exact ⟨y + 1, rfl, by go_num, by omega, below_drewN hb _⟩
              · have gy : decide ((y : Int) < (q : Int)) = false := by rw [decide_eq_false_iff_not]; omega
                go_wp2_with fail
                go_roundg (nv - (q + 1))
                case measure => omega
                case rel => exact ⟨q + 1, rfl, by go_num, by omega, hb⟩
          · have gq : decide ((q : Int) < (nv : Int)) = false := by rw [decide_eq_false_iff_not]; omega
            go_wp2_with fail
            go_ret
            exact ⟨rfl, hb0.trans (hb.mono hb0.size)⟩
end Go.Proofs.YtbjngdlkamdmdaaDoor.J7
