/-
  The document's Find: the kid at the first key that is just so. Condition: Tame.
-/
import Derived.Test.YtbjngdlkamdmdaaDoorJ8Find
namespace Go.Proofs.YtbjngdlkamdmdaaDoor.J8
open Go Go.RowKit Go.Joins Kit J7 Nds

theorem in_put {w W : World} {N : Nat} {j : J} {v d0 d1 d2 d3 d4 : Value} (hb : Below w.heap.size w W) (hN : w.heap.size ≤ N) (h : NodeIn w j v) : NodeIn (putN W N d0 d1 d2 d3 d4) j v :=
  node_below (putN_below hb hN d0 d1 d2 d3 d4) h
/-- The kid's cells, as they were before. -/
theorem kid_old {w W : World} {xs : List J} {i g o : Nat} {x0 x1 x2 x3 x4 : Value} (hv : KidsIn w (some ⟨g, o, none⟩) xs) (hi : i < xs.length) (hb : Below w.heap.size w W)
    (r0 : W.cell? ⟨g, o + i * 5, none⟩ = some x0) (r1 : W.cell? ⟨g, o + i * 5 + 1, none⟩ = some x1) (r2 : W.cell? ⟨g, o + i * 5 + 2, none⟩ = some x2) (r3 : W.cell? ⟨g, o + i * 5 + 3, none⟩ = some x3) (r4 : W.cell? ⟨g, o + i * 5 + 4, none⟩ = some x4) : NodeIn w xs[i] (.agg #[x0, x1, x2, x3, x4]) := by
  obtain ⟨g', o', z0, z1, z2, z3, z4, e', s0, s1, s2, s3, s4, hz⟩ := hv i hi
  injection e' with e'
  injection e' with e1 e2 _
  subst e1 e2
  have same : ∀ {m v v'}, W.cell? ⟨g, m, none⟩ = some v → w.cell? ⟨g, m, none⟩ = some v' → v = v' := fun {m v v'} h1 h2 => by
    have := (hb.cell (p := ⟨g, m, none⟩) (World.block_lt_of_cell? w _ h2)).trans h2
    rw [h1] at this
    exact Option.some.inj this
  rw [same r0 s0, same r1 s1, same r2 s2, same r3 s3, same r4 s4]
  exact hz

set_option maxHeartbeats 8000000 in
set_option maxRecDepth 100000 in
theorem rfind_yes (a : J) (ht : Tame a) (key : ByteArray) (i : Nat) (hf : Found a key i) (w : World) (c0 c1 c2 c3 c4 : Value) (hc : NodeIn w a (.agg #[c0, c1, c2, c3, c4])) :
    Calls Tryd.prog 19 #[.agg #[c0, c1, c2, c3, c4], .string key] w fun e w' => ∃ d0 d1 d2 d3 d4, e = .returned (.tuple #[.agg #[d0, d1, d2, d3, d4], .bool true]) ∧ NodeIn w' (a.kids[i]'hf.hv) (.agg #[d0, d1, d2, d3, d4]) ∧ Below w.heap.size w w' := by
  have hkl : a.keys.length ≤ 65536 := by cases ht; assumption
  have hvl : a.kids.length ≤ 65536 := by cases ht; assumption
  obtain ⟨a3, m3, a4, m4, rfl, rfl, rfl, rfl, rfl, hkk, hvv⟩ := node_parts hc
  obtain ⟨nk, hnk⟩ : ∃ nk, a.keys.length = nk := ⟨_, rfl⟩
  obtain ⟨nv, hnv⟩ : ∃ nv, a.kids.length = nv := ⟨_, rfl⟩
  obtain ⟨k, hkd⟩ : ∃ kd, a.kind = kd := ⟨_, rfl⟩
  obtain ⟨n, hnm⟩ : ∃ nm, a.num = nm := ⟨_, rfl⟩
  obtain ⟨t, htx⟩ : ∃ tx, a.text = tx := ⟨_, rfl⟩
  rw [hnk, hnv, hkd, hnm, htx]
  obtain ⟨W, hW⟩ : ∃ W, ((w.alloc (.cells #[.int .i64 k, .int .i64 n, .string t, .slice a3 nk m3, .slice a4 nv m4] 25)).alloc (.cells #[.int .i64 0, .int .i64 0, .string ⟨#[]⟩, .slice none 0 0, .slice none 0 0] 25)) = W := ⟨_, rfl⟩
  have hb0 : Below w.heap.size w W := by rw [← hW]; exact ((Below.refl _ w).alloc (Nat.le_refl _) _).alloc (by simp) _
  have hA : Bx w.heap.size (.int .i64 k) (.int .i64 n) (.string t) (.slice a3 nk m3) (.slice a4 nv m4) W := by rw [← hW]; exact (Bx.made w _ _ _ _ _).alloc _
  have hR : Bx (w.heap.size + 1) (.int .i64 0) (.int .i64 0) (.string ⟨#[]⟩) (.slice none 0 0) (.slice none 0 0) W := by
    rw [← hW]
    have h9 := Bx.made (w.alloc (.cells #[.int .i64 k, .int .i64 n, .string t, .slice a3 nk m3, .slice a4 nv m4] 25)) (.int .i64 0) (.int .i64 0) (.string ⟨#[]⟩) (.slice none 0 0) (.slice none 0 0)
    simpa using h9
  have HKI : Hid (KeysIn W a3 a.keys) := Lib.hid (KeysIn.below (w := w) (fun i hi => hkk i hi) hb0)
  have HVI : Hid (KidsIn W a4 a.kids) := Lib.hid (KidsIn.below (w := w) (fun i hi => hvv i hi) hb0)
  have HB := Lib.hid hb0
  obtain ⟨G, hG⟩ : ∃ G, w.heap.size = G := ⟨_, rfl⟩
  rw [hG] at hA hR
  have HW := Lib.hid hW
  have HA := Lib.hid hA
  have HR := Lib.hid hR
  have HNK := Lib.hid hnk
  have HNV := Lib.hid hnv
  have p0 := hA.p0
  have p3 := hA.p3
  have p4 := hA.p4
  have q0 := hR.p0
  have q1 := hR.p1
  have q2 := hR.p2
  have q3 := hR.p3
  have q4 := hR.p4
  have f0 := hR.free 0
  have f1 := hR.free 1
  have f2 := hR.free 2
  have f3 := hR.free 3
  have f4 := hR.free 4
  have h7 : k = 7 := by rw [← hkd]; exact hf.kind
  subst h7
  have HFV := hf.hv
  have HFK := hf.hk
  have HFE : Hid (a.keys[i]'HFK = key) := Lib.hid hf.eq
  have HFM : Hid (∀ j (h : j < i), a.keys[j]'(Nat.lt_trans h HFK) ≠ key) := Lib.hid hf.min
  have hik : i < nk := by rw [← hnk]; exact HFK
  have hiv : i < nv := by omega
  have hki : (nk : Int) ≤ 65536 := by omega
  obtain ⟨g, o, x0, x1, x2, x3, x4, e1, r0, r1, r2, r3, r4, hx⟩ := HVI.out i HFV
  subst e1
  obtain ⟨xk, xn, xt, xa, xl, xc, xb, xm, xd, rfl, rfl, rfl, rfl, rfl⟩ := in_forms hx
  have HX := Lib.hid hx
  have hGl := hR.lt
  have HXP : Hid (NodeIn (putN W (G + 1) (.int .i64 xk) (.int .i64 xn) (.string xt) (.slice xa xl xc) (.slice xb xm xd)) (a.kids[i]'HFV) (.agg #[.int .i64 xk, .int .i64 xn, .string xt, .slice xa xl xc, .slice xb xm xd])) := Lib.hid (in_put hb0 (by rw [hG]; exact Nat.le_succ _) (kid_old hvv HFV hb0 r0 r1 r2 r3 r4))
  obtain ⟨kj, hkj⟩ : ∃ kj, a.kids[i]'HFV = kj := ⟨_, rfl⟩
  rw [hkj] at HXP ⊢
  clear hx hkj hf
  clear hW hc hkk hvv hb0 hnk hnv hkd hnm htx hA hR ht
  go_enter Tryd.func19, Tryd.ntmps19
  go_upto_region 1 with fail
  rw [HW.out]
  (try rw [hG])
  go_wp2_with fail
  go_loopg [6] (nk + 1) (fun q v wr => ∃ j : Nat, q = nk + 1 - j ∧ v = .int .i64 j ∧ j ≤ i ∧ W = wr)
  case atStart => exact ⟨0, rfl, rfl, Nat.zero_le _, rfl⟩
  case round =>
    obtain ⟨j, rfl, rfl, hj, rfl⟩ := hrel
    have h1 : j < a.keys.length := by rw [HNK.out]; omega
    obtain ⟨g', o', e1, t1⟩ := HKI.out j h1
    rw [e1] at p3
    have gi : (j : Int) < nk := by omega
    have gv : (j : Int) < nv := by omega
    obtain ⟨kx, hkx⟩ : ∃ kx, a.keys[j] = kx := ⟨_, rfl⟩
    rw [hkx] at t1
    by_cases hlt : j < i
    · have hne : kx ≠ key := by rw [← hkx]; exact HFM.out j hlt
      have gt := text_no hne
      clear hkx hne e1
      go_wp2_with fail
      go_roundg (nk + 1 - (j + 1))
      case measure => omega
      case rel => exact ⟨j + 1, rfl, by go_num, by omega, rfl⟩
    · obtain rfl : j = i := by omega
      obtain rfl : kx = key := by rw [← hkx]; exact HFE.out
      clear hkx e1
      go_wp2_with fail
      refine bodyPost_ret (find_result rfl _ rfl rfl (HR.out.setAll _ _ _ _ _)) rfl ?_
      exact ⟨_, _, _, _, _, rfl, HXP.out, putN_below HB.out (by rw [hG]; exact Nat.le_succ _) _ _ _ _ _⟩
end Go.Proofs.YtbjngdlkamdmdaaDoor.J8
