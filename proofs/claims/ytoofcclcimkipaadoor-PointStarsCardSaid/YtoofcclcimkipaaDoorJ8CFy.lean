/-
  The program's Find: the kid at the first key that is just so, in memory of its own. Condition: Tame.
-/
import Derived.Test.YtoofcclcimkipaaDoorJ8Find
import Derived.Test.YtoofcclcimkipaaDoorJ8Fresh
namespace Go.Proofs.YtoofcclcimkipaaDoor.J8
open Go Go.RowKit Go.Joins Kit J7 Nds

set_option maxHeartbeats 8000000 in
set_option maxRecDepth 100000 in
theorem cfind_at (a : J) (ht : Tame a) (key : ByteArray) (i : Nat) (hf : Found a key i) (w : World) (c0 c1 c2 c3 c4 : Value) (hc : NodeIn w a (.agg #[c0, c1, c2, c3, c4])) :
    Calls Tryd.prog 32 #[.agg #[c0, c1, c2, c3, c4], .string key] w fun e w' => ∃ d0 d1 d2 d3 d4, e = .returned (.tuple #[.agg #[d0, d1, d2, d3, d4], .bool true]) ∧ NodeAt (fun q => w.heap.size ≤ q) w' (a.kids[i]'hf.hv) (.agg #[d0, d1, d2, d3, d4]) ∧ Below w.heap.size w w' := by
  have hkl : a.keys.length ≤ 65536 := by cases ht; assumption
  have hvl : a.kids.length ≤ 65536 := by cases ht; assumption
  obtain ⟨a3, m3, a4, m4, rfl, rfl, rfl, rfl, rfl, hkk, hvv⟩ := node_parts hc
  obtain ⟨nk, hnk⟩ : ∃ nk, a.keys.length = nk := ⟨_, rfl⟩
  obtain ⟨nv, hnv⟩ : ∃ nv, a.kids.length = nv := ⟨_, rfl⟩
  obtain ⟨k, hkd⟩ : ∃ kd, a.kind = kd := ⟨_, rfl⟩
  obtain ⟨n, hnm⟩ : ∃ nm, a.num = nm := ⟨_, rfl⟩
  obtain ⟨t, htx⟩ : ∃ tx, a.text = tx := ⟨_, rfl⟩
  rw [hnk, hnv, hkd, hnm, htx]
  obtain ⟨W, hW⟩ : ∃ W, ((w.alloc (.cells #[.int .i64 k, .int .i64 n, .string t, .slice a3 nk m3, .slice a4 nv m4] 25)).alloc (.cells #[.int .i64 0, .int .i64 0, .string ⟨#[]⟩, .slice none 0 0, .slice none 0 0] 25)) = W := ⟨_, rfl⟩
  have hb0 : Below w.heap.size w W := by rw [← hW]; exact ((Below.refl _ w).alloc (Nat.le_refl _) _).alloc (by simp) _
  have hA : Bx w.heap.size (.int .i64 k) (.int .i64 n) (.string t) (.slice a3 nk m3) (.slice a4 nv m4) W := by rw [← hW]; exact (Bx.made w _ _ _ _ _).alloc _
  have hR : Bx (w.heap.size + 1) (.int .i64 0) (.int .i64 0) (.string ⟨#[]⟩) (.slice none 0 0) (.slice none 0 0) W := by
    rw [← hW]
    have h9 := Bx.made (w.alloc (.cells #[.int .i64 k, .int .i64 n, .string t, .slice a3 nk m3, .slice a4 nv m4] 25)) (.int .i64 0) (.int .i64 0) (.string ⟨#[]⟩) (.slice none 0 0) (.slice none 0 0)
    simpa using h9
  have HKI : Hid (KeysIn W a3 a.keys) := Lib.hid (KeysIn.below (w := w) (fun i hi => hkk i hi) hb0)
  have HVI : Hid (KidsIn W a4 a.kids) := Lib.hid (KidsIn.below (w := w) (fun i hi => hvv i hi) hb0)
  have HB := Lib.hid hb0
  obtain ⟨G, hG⟩ : ∃ G, w.heap.size = G := ⟨_, rfl⟩
  rw [hG] at hA hR
  have HW := Lib.hid hW
  have HA := Lib.hid hA
  have HR := Lib.hid hR
  have HNK := Lib.hid hnk
  have HNV := Lib.hid hnv
  have p0 := hA.p0
  have p3 := hA.p3
  have p4 := hA.p4
  have q0 := hR.p0
  have q1 := hR.p1
  have q2 := hR.p2
  have q3 := hR.p3
  have q4 := hR.p4
  have f0 := hR.free 0
  have f1 := hR.free 1
  have f2 := hR.free 2
  have f3 := hR.free 3
  have f4 := hR.free 4
  have h7 : k = 7 := by rw [← hkd]; exact hf.kind
  have hix := index_yes a.keys key a3 m3 i W HKI.out (by omega) hf.hk hf.eq hf.min
  rw [hnk] at hix
  subst h7
  have HFV := hf.hv
  have hiv : (i : Int) < nv := by omega
  have hvi : (nv : Int) ≤ 65536 := by omega
  have g1 : ¬ (i : Int) < 0 := by omega
  have g2 : ¬ (nv : Int) ≤ (i : Int) := by omega
  have htk : Tame (a.kids[i]'HFV) := by
    cases ht with
    | mk _ _ _ _ _ _ _ _ _ h => exact h i HFV
  obtain ⟨g, o, x0, x1, x2, x3, x4, e1, r0, r1, r2, r3, r4, hx⟩ := HVI.out i HFV
  subst e1
  have hfr := fresh_any _ htk W _ _ _ _ _ hx
  obtain ⟨kj, hkj⟩ : ∃ kj, a.kids[i]'HFV = kj := ⟨_, rfl⟩
  rw [hkj] at hfr ⊢
  have hGl := hR.lt
  clear hx htk hkj
  clear hW hc hkk hvv hb0 hnk hnv hkd hnm htx hA hR ht
  go_enter Tryd.func32, Tryd.ntmps32
  go_upto_region 1 with fail
  rw [HW.out]
  (try rw [hG])
  go_wp2_with fail
  refine hix.mono ?_
  rintro e w1 ⟨rfl, rfl⟩
  go_wp2_with fail
  refine hfr.mono ?_
  rintro e w2 ⟨y0, y1, y2, y3, y4, rfl, hy, hb2⟩
  obtain ⟨yk, yn, yt, ya, yl, yc, yb, ym, yd, rfl, rfl, rfl, rfl, rfl⟩ := hy.forms8
  have hR2 := HR.out.same (hb2.block (G + 1) hGl)
  have u0 := hR2.p0
  have u1 := hR2.p1
  have u2 := hR2.p2
  have u3 := hR2.p3
  have u4 := hR2.p4
  have k0 := hR2.free 0
  have k1 := hR2.free 1
  have k2 := hR2.free 2
  have k3 := hR2.free 3
  have k4 := hR2.free 4
  have HY := Lib.hid hy
  clear hfr hix hy
  go_wp2_with fail
  refine bodyPost_ret (find_result rfl _ rfl rfl (hR2.setAll _ _ _ _ _)) rfl ?_
  have hw : w.heap.size ≤ G + 1 := by rw [hG]; exact Nat.le_succ _
  refine ⟨_, _, _, _, _, rfl, (HY.out.keep (P' := fun q => w.heap.size ≤ q) (w' := putN w2 (G + 1) (.int .i64 yk) (.int .i64 yn) (.string yt) (.slice ya yl yc) (.slice yb ym yd)) (fun q hq _ => ⟨Nat.le_trans HB.out.size hq, putN_block w2 (G + 1) _ _ _ _ _ q (by have : W.heap.size ≤ q := hq; omega)⟩)), putN_below (HB.out.trans (hb2.mono HB.out.size)) hw _ _ _ _ _⟩
theorem cfind_yes (a : J) (ht : Tame a) (key : ByteArray) (i : Nat) (hf : Found a key i) (w : World) (c0 c1 c2 c3 c4 : Value) (hc : NodeIn w a (.agg #[c0, c1, c2, c3, c4])) :
    Calls Tryd.prog 32 #[.agg #[c0, c1, c2, c3, c4], .string key] w fun e w' => ∃ d0 d1 d2 d3 d4, e = .returned (.tuple #[.agg #[d0, d1, d2, d3, d4], .bool true]) ∧ NodeIn w' (a.kids[i]'hf.hv) (.agg #[d0, d1, d2, d3, d4]) ∧ Below w.heap.size w w' :=
  (cfind_at a ht key i hf w c0 c1 c2 c3 c4 hc).mono fun _ _ ⟨d0, d1, d2, d3, d4, h1, h2, h3⟩ => ⟨d0, d1, d2, d3, d4, h1, in_of_at h2, h3⟩
end Go.Proofs.YtoofcclcimkipaaDoor.J8
