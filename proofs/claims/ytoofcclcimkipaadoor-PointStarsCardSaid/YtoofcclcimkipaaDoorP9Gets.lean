/-
  The law PointGets returns true, of any value and any path. Condition: the library's tables and errors read as its text lays them.
-/
import Derived.Test.YtoofcclcimkipaaDoorP9Awake
import Derived.Test.YtoofcclcimkipaaDoorJ9Ref
namespace Go.Proofs.YtoofcclcimkipaaDoor.J9
open Go Go.RowKit Go.Joins Kit J7 Nds J8

theorem tame_nil : Tame nilJ := Tame.mk 0 0 ⟨#[]⟩ [] [] (by decide) (by decide) (by decide) (fun q hq => absurd hq (Nat.not_lt_zero q)) (fun i hi => absurd hi (Nat.not_lt_zero i))
theorem point_tame {n : J} (ht : Tame n) (hc : cnt n ≤ 2000) (x : ByteArray) : Tame (pointP n x).1 := by
  cases hr : rightP 0 n with
  | false => rw [point_1 hr]; exact tame_nil
  | true =>
    cases hp : partsP x with
    | none => rw [point_3 hr hp]; exact tame_nil
    | some l =>
      cases hf : followP num9 l n with
      | none => rw [point_7 hr hp hf]; exact tame_nil
      | some y => rw [point_0 hr hp hf]; exact follow_tame ht hc hf
/-- A variable of type Node, and all that is known of it at the worlds to come. -/
theorem bx_later (w : World) (x0 x1 x2 x3 x4 : Value) : ∃ W, w.alloc (.cells #[x0, x1, x2, x3, x4] 25) = W ∧ Below w.heap.size w W ∧ W.heap.size = w.heap.size + 1 ∧ ∀ w', Below W.heap.size W w' → Bx w.heap.size x0 x1 x2 x3 x4 w' := by
  obtain ⟨h1, h2, h3⟩ := bx_new w x0 x1 x2 x3 x4
  exact ⟨_, rfl, h1, h3, fun w' h => h2.same (h.block _ h2.lt)⟩

set_option maxHeartbeats 8000000 in
set_option maxRecDepth 100000 in
theorem pointGets_walk (a : J) (x : ByteArray) (c0 c1 c2 c3 c4 : Value) (w : World) (ha : NodeIn w a (.agg #[c0, c1, c2, c3, c4])) (hE : EnvP w) :
    Calls Tryd.prog 3 #[.agg #[c0, c1, c2, c3, c4], .string x] w fun e w' => e = .returned (.bool true) ∧ Below w.heap.size w w' := by
  obtain ⟨xk, xn, xt, xa, xl, xc, xb, xm, xd, rfl, rfl, rfl, rfl, rfl⟩ := in_forms ha
  obtain ⟨W, hW, hbW, hsz, hbx⟩ := bx_later w (.int .i64 xk) (.int .i64 xn) (.string xt) (.slice xa xl xc) (.slice xb xm xd)
  have HA : Hid (∀ w', Below W.heap.size W w' → NodeIn w' a (.agg #[.int .i64 xk, .int .i64 xn, .string xt, .slice xa xl xc, .slice xb xm xd])) := Lib.hid (fun w' h => node_below h (node_below hbW ha))
  have HE : Hid (∀ w', Below W.heap.size W w' → EnvP w') := Lib.hid (fun w' h => (hE.next hbW).next h)
  have HW := Lib.hid hW
  have HBW : Hid (∀ w', Below W.heap.size W w' → Below w.heap.size w w') := Lib.hid (fun w' h => hbW.trans (h.mono hbW.size))
  obtain ⟨G, hG⟩ : ∃ G, w.heap.size = G := ⟨_, rfl⟩
  rw [hG] at hbx
  have HBX := Lib.hid hbx
  have hg1 := great_any (HA.out W (Below.refl _ _))
  have h0 := HBX.out W (Below.refl _ _)
  have p0 := h0.p0
  have p1 := h0.p1
  have p2 := h0.p2
  have p3 := h0.p3
  have p4 := h0.p4
  clear ha hE hW hbW hsz hbx h0
  go_enter Tryd.func3, Tryd.ntmps3
  go_upto_region 1 with fail
  rw [HW.out]
  (try rw [hG])
  go_wp2_with fail
  refine hg1.mono ?_
  rintro e w1 ⟨g, rfl, hb1, hs1⟩
  clear hg1 p0 p1 p2 p3 p4
  cases g with
  | true =>
    go_wp2_with fail
    refine (awake9 (HE.out w1 hb1)).mono ?_
    rintro e w2 ⟨rfl, hb2⟩
    go_wp2_with fail
    go_ret
    (try rw [← hG])
    exact ⟨rfl, HBW.out w2 (hb1.trans (hb2.mono hb1.size))⟩
  | false =>
    have HS := Lib.hid (hs1 rfl)
    clear hs1
    by_cases hz : x.size ≤ 1100
    rotate_left 1
    · have g0 : (1100 : Int) < (x.size : Int) := by omega
      clear hz
      go_wp2_with fail
      refine (awake9 (HE.out w1 hb1)).mono ?_
      rintro e w2 ⟨rfl, hb2⟩
      go_wp2_with fail
      go_ret
      (try rw [← hG])
      exact ⟨rfl, HBW.out w2 (hb1.trans (hb2.mono hb1.size))⟩
    · have g0 : ¬ (1100 : Int) < (x.size : Int) := by omega
      clear hz
      have h0 := HBX.out w1 hb1
      have p0 := h0.p0
      have p1 := h0.p1
      have p2 := h0.p2
      have p3 := h0.p3
      have p4 := h0.p4
      have hg := get9 a HS.out.1 HS.out.2 x w1 (HE.out w1 hb1) _ _ _ _ _ (HA.out w1 hb1)
      have hty := point_tame HS.out.1 HS.out.2 x
      obtain ⟨y, hy⟩ : ∃ y, (pointP a x).1 = y := ⟨_, rfl⟩
      obtain ⟨c, hc⟩ : ∃ c, (pointP a x).2 = c := ⟨_, rfl⟩
      unfold PointLeft at hg
      rw [hy, hc] at hg
      rw [hy] at hty
      have HTY := Lib.hid hty
      have HY := Lib.hid hy
      have HC := Lib.hid hc
      clear h0 hy hc hty
      go_wp2_with fail
      refine hg.mono ?_
      rintro e w2 ⟨d0, d1, d2, d3, d4, rfl, hn2, hb2⟩
      obtain ⟨yk, yn, yt, ya, yl, yc, yb, ym, yd, rfl, rfl, rfl, rfl, rfl⟩ := in_forms hn2
      have hb02 := hb1.trans (hb2.mono hb1.size)
      clear hg p0 p1 p2 p3 p4 hb1 hb2
      obtain ⟨V, hV, hbV, hsV, hbxV⟩ := bx_later w2 (.int .i64 yk) (.int .i64 yn) (.string yt) (.slice ya yl yc) (.slice yb ym yd)
      have hb0V := hb02.trans (hbV.mono hb02.size)
      have h0 := HBX.out V hb0V
      have p0 := h0.p0
      have p1 := h0.p1
      have p2 := h0.p2
      have p3 := h0.p3
      have p4 := h0.p4
      have hg := rpoint9 a HS.out.1 HS.out.2 x V _ _ _ _ _ (HA.out V hb0V)
      unfold PointLeft at hg
      rw [HY.out, HC.out] at hg
      obtain ⟨G2, hG2⟩ : ∃ G, w2.heap.size = G := ⟨_, rfl⟩
      rw [hG2] at hbxV
      have HV := Lib.hid hV
      have HBV : Hid (∀ w', Below V.heap.size V w' → Below W.heap.size W w') := Lib.hid (fun w' h => hb0V.trans (h.mono hb0V.size))
      have HBXV := Lib.hid hbxV
      have HNV : Hid (∀ w', Below V.heap.size V w' → NodeIn w' y (.agg #[.int .i64 yk, .int .i64 yn, .string yt, .slice ya yl yc, .slice yb ym yd])) := Lib.hid (fun w' h => node_below h (node_below hbV hn2))
      clear h0 hn2 hV hbV hsV hbxV hb0V hb02
      go_upto_region 4 with fail
      rw [HV.out]
      (try rw [hG2])
      go_wp2_with fail
      refine hg.mono ?_
      rintro e w3 ⟨d0, d1, d2, d3, d4, rfl, hn3, hb3⟩
      obtain ⟨zk, zn, zt, za, zl, zc, zb, zm, zd, rfl, rfl, rfl, rfl, rfl⟩ := in_forms hn3
      clear hg p0 p1 p2 p3 p4
      obtain ⟨U, hU, hbU, hsU, hbxU⟩ := bx_later w3 (.int .i64 zk) (.int .i64 zn) (.string zt) (.slice za zl zc) (.slice zb zm zd)
      have hbVU := hb3.trans (hbU.mono hb3.size)
      have h0 := HBXV.out U hbVU
      have p0 := h0.p0
      have p1 := h0.p1
      have p2 := h0.p2
      have p3 := h0.p3
      have p4 := h0.p4
      have h1 := hbxU U (Below.refl _ _)
      obtain ⟨G3, hG3⟩ : ∃ G, w3.heap.size = G := ⟨_, rfl⟩
      rw [hG3] at h1
      have q0 := h1.p0
      have q1 := h1.p1
      have q2 := h1.p2
      have q3 := h1.p3
      have q4 := h1.p4
      have hsm := same_in y y HTY.out U _ _ _ _ _ _ _ _ _ _ (HNV.out U hbVU) (node_below hbU hn3)
      rw [sameP_yes rfl] at hsm
      have HU := Lib.hid hU
      have HBU : Hid (∀ w', Below U.heap.size U w' → Below W.heap.size W w') := Lib.hid (fun w' h => HBV.out w' (hbVU.trans (h.mono hbVU.size)))
      clear h0 h1 hn3 hU hbU hsU hbxU hbVU hb3
      go_upto_region 5 with fail
      rw [HU.out]
      (try rw [hG3])
      go_wp2_with fail
      refine hsm.mono ?_
      rintro e w4 ⟨rfl, hb4⟩
      clear hsm p0 p1 p2 p3 p4 q0 q1 q2 q3 q4
      go_wp2_with fail
      refine (L3.num_any c _).mono ?_
      rintro e w5 ⟨rfl, rfl⟩
      go_wp2_with fail
      refine (awake9 (HE.out w4 (HBU.out w4 hb4))).mono ?_
      rintro e w6 ⟨rfl, hb6⟩
      go_wp2_with fail
      go_ret
      (try rw [← hG])
      exact ⟨rfl, HBW.out w6 (HBU.out w6 (hb4.trans (hb6.mono hb4.size)))⟩
end Go.Proofs.YtoofcclcimkipaaDoor.J9
