/-
  The law CanonFinds returns true, of any value and any key. Condition: the library's table of powers of ten reads as its text lays it.
-/
import Derived.Test.YtbjngdlkamdmdaaDoorJ8Awake
import Derived.Test.YtbjngdlkamdmdaaDoorJ8CFn
import Derived.Test.YtbjngdlkamdmdaaDoorJ8CFy
import Derived.Test.YtbjngdlkamdmdaaDoorJ8RFn
import Derived.Test.YtbjngdlkamdmdaaDoorJ8RFy
namespace Go.Proofs.YtbjngdlkamdmdaaDoor.J8
open Go Go.RowKit Go.Joins Kit J7 Nds

def zeroJ : J := .mk 0 0 ⟨#[]⟩ [] []
theorem tame_zero : Tame zeroJ := Tame.mk 0 0 ⟨#[]⟩ [] [] (by decide) (by decide) (by decide) (fun q hq => absurd hq (Nat.not_lt_zero q)) (fun i hi => absurd hi (Nat.not_lt_zero i))
/-- What both Finds answer: one value, and whether it is there. -/
theorem finds_cases (a : J) (key : ByteArray) : (∃ i, Found a key i) ∨ (∀ i, ¬ Found a key i) := by
  by_cases h : ∃ i, Found a key i
  · exact Or.inl h
  · exact Or.inr (fun i hi => h ⟨i, hi⟩)
theorem tame_kid {a : J} (h : Tame a) (i : Nat) (hi : i < a.kids.length) : Tame a.kids[i] := by
  cases h with
  | mk _ _ _ _ _ _ _ _ _ h => exact h i hi
/-- Both in one form. -/
theorem find_both {a : J} (ht : Tame a) (key : ByteArray) (hl : a.keys.length ≤ a.kids.length) : ∃ (b : Bool) (j : J), Tame j ∧
    (∀ (w : World) (c0 c1 c2 c3 c4 : Value), NodeIn w a (.agg #[c0, c1, c2, c3, c4]) → Calls Tryd.prog 18 #[.agg #[c0, c1, c2, c3, c4], .string key] w fun e w' => ∃ k n t a3 n3 m3 a4 n4 m4, e = .returned (.tuple #[.agg #[.int .i64 k, .int .i64 n, .string t, .slice a3 n3 m3, .slice a4 n4 m4], .bool b]) ∧ NodeIn w' j (.agg #[.int .i64 k, .int .i64 n, .string t, .slice a3 n3 m3, .slice a4 n4 m4]) ∧ Below w.heap.size w w') ∧
    (∀ (w : World) (c0 c1 c2 c3 c4 : Value), NodeIn w a (.agg #[c0, c1, c2, c3, c4]) → Calls Tryd.prog 19 #[.agg #[c0, c1, c2, c3, c4], .string key] w fun e w' => ∃ k n t a3 n3 m3 a4 n4 m4, e = .returned (.tuple #[.agg #[.int .i64 k, .int .i64 n, .string t, .slice a3 n3 m3, .slice a4 n4 m4], .bool b]) ∧ NodeIn w' j (.agg #[.int .i64 k, .int .i64 n, .string t, .slice a3 n3 m3, .slice a4 n4 m4]) ∧ Below w.heap.size w w') := by
  rcases finds_cases a key with ⟨i, hf⟩ | hn
  · refine ⟨true, a.kids[i]'hf.hv, tame_kid ht i hf.hv, fun w c0 c1 c2 c3 c4 hc => ?_, fun w c0 c1 c2 c3 c4 hc => ?_⟩
    · refine (cfind_yes a ht key i hf w c0 c1 c2 c3 c4 hc).mono ?_
      rintro e w' ⟨d0, d1, d2, d3, d4, rfl, hN, hb⟩
      obtain ⟨k, n, t, a3, n3, m3, a4, n4, m4, rfl, rfl, rfl, rfl, rfl⟩ := in_forms hN
      exact ⟨_, _, _, _, _, _, _, _, _, rfl, hN, hb⟩
    · refine (rfind_yes a ht key i hf w c0 c1 c2 c3 c4 hc).mono ?_
      rintro e w' ⟨d0, d1, d2, d3, d4, rfl, hN, hb⟩
      obtain ⟨k, n, t, a3, n3, m3, a4, n4, m4, rfl, rfl, rfl, rfl, rfl⟩ := in_forms hN
      exact ⟨_, _, _, _, _, _, _, _, _, rfl, hN, hb⟩
  · refine ⟨false, zeroJ, tame_zero, fun w c0 c1 c2 c3 c4 hc => ?_, fun w c0 c1 c2 c3 c4 hc => ?_⟩
    · refine (cfind_no a ht key hn hl w c0 c1 c2 c3 c4 hc).mono ?_
      rintro e w' ⟨rfl, hb⟩
      exact ⟨_, _, _, _, _, _, _, _, _, rfl, in_plain w' 0 0 ⟨#[]⟩, hb⟩
    · refine (rfind_no a ht key hn hl w c0 c1 c2 c3 c4 hc).mono ?_
      rintro e w' ⟨rfl, hb⟩
      exact ⟨_, _, _, _, _, _, _, _, _, rfl, in_plain w' 0 0 ⟨#[]⟩, hb⟩

set_option maxHeartbeats 8000000 in
set_option maxRecDepth 100000 in
theorem canonFinds_walk (a : J) (key : ByteArray) (c0 c1 c2 c3 c4 : Value) (w : World) (ha : NodeIn w a (.agg #[c0, c1, c2, c3, c4])) (hE : EnvW w) :
    Calls Tryd.prog 4 #[.agg #[c0, c1, c2, c3, c4], .string key] w fun e w' => e = .returned (.bool true) ∧ Below w.heap.size w w' := by
  obtain ⟨a3, m3, a4, m4, rfl, rfl, rfl, rfl, rfl, _, _⟩ := node_parts ha
  obtain ⟨nk, hnk⟩ : ∃ nk, a.keys.length = nk := ⟨_, rfl⟩
  obtain ⟨nv, hnv⟩ : ∃ nv, a.kids.length = nv := ⟨_, rfl⟩
  obtain ⟨xk, hkd⟩ : ∃ kd, a.kind = kd := ⟨_, rfl⟩
  obtain ⟨xn, hnm⟩ : ∃ nm, a.num = nm := ⟨_, rfl⟩
  obtain ⟨xt, htx⟩ : ∃ tx, a.text = tx := ⟨_, rfl⟩
  rw [hnk, hnv, hkd, hnm, htx] at ha
  rw [hnk, hnv, hkd, hnm, htx]
  obtain ⟨hbW, hbx, hlt⟩ := bx_new w (.int .i64 xk) (.int .i64 xn) (.string xt) (.slice a3 nk m3) (.slice a4 nv m4)
  obtain ⟨W, hW⟩ : ∃ W, w.alloc (.cells #[.int .i64 xk, .int .i64 xn, .string xt, .slice a3 nk m3, .slice a4 nv m4] 25) = W := ⟨_, rfl⟩
  rw [hW] at hbW hbx hlt
  have HA : Hid (∀ w', Below W.heap.size W w' → NodeIn w' a (.agg #[.int .i64 xk, .int .i64 xn, .string xt, .slice a3 nk m3, .slice a4 nv m4])) := Lib.hid (fun w' h => node_below h (node_below hbW ha))
  have HE : Hid (∀ w', Below W.heap.size W w' → EnvW w') := Lib.hid (fun w' h => (hE.next hbW).next h)
  have HW := Lib.hid hW
  have HBW : Hid (∀ w', Below W.heap.size W w' → Below w.heap.size w w') := Lib.hid (fun w' h => hbW.trans (h.mono hbW.size))
  obtain ⟨G, hG⟩ : ∃ G, w.heap.size = G := ⟨_, rfl⟩
  rw [hG] at hbx
  have HBX : Hid (∀ w', Below W.heap.size W w' → Bx G (.int .i64 xk) (.int .i64 xn) (.string xt) (.slice a3 nk m3) (.slice a4 nv m4) w') := Lib.hid (fun w' h => hbx.same (h.block G hbx.lt))
  have hg1 := great_any (HA.out W (Below.refl _ _))
  have p0 := hbx.p0
  have p1 := hbx.p1
  have p2 := hbx.p2
  have p3 := hbx.p3
  have p4 := hbx.p4
  have HNK := Lib.hid hnk
  have HNV := Lib.hid hnv
  clear ha hE hW hbW hlt hbx hnk hnv hkd hnm htx
  go_enter Tryd.func4, Tryd.ntmps4
  go_upto_region 1 with fail
  rw [HW.out]
  (try rw [hG])
  go_wp2_with fail
  refine hg1.mono ?_
  rintro e w1 ⟨g, rfl, hb1, hs1⟩
  clear hg1 p0 p1 p2 p3 p4
  have hbx1 := HBX.out w1 hb1
  cases g with
  | true =>
    go_wp2_with fail
    refine (awake_any (HE.out w1 hb1)).mono ?_
    rintro e w2 ⟨rfl, hb2⟩
    go_wp2_with fail
    go_ret
    (try rw [← hG])
    exact ⟨rfl, HBW.out w2 (hb1.trans (hb2.mono hb1.size))⟩
  | false =>
    have HSA := Lib.hid (hs1 rfl)
    clear hs1
    have p3 := hbx1.p3
    have p4 := hbx1.p4
    by_cases hk3 : key.size ≤ 300
    rotate_left 1
    · have g3 : (300 : Int) < (key.size : Int) := by omega
      clear p3 p4 hbx1
      go_wp2_with fail
      refine (awake_any (HE.out w1 hb1)).mono ?_
      rintro e w2 ⟨rfl, hb2⟩
      go_wp2_with fail
      go_ret
      (try rw [← hG])
      exact ⟨rfl, HBW.out w2 (hb1.trans (hb2.mono hb1.size))⟩
    have g3 : ¬ (300 : Int) < (key.size : Int) := by omega
    by_cases hkv : nk ≤ nv
    rotate_left 1
    · have g4 : (nv : Int) < (nk : Int) := by omega
      go_wp2_with fail
      refine (awake_any (HE.out w1 hb1)).mono ?_
      rintro e w2 ⟨rfl, hb2⟩
      go_wp2_with fail
      go_ret
      (try rw [← hG])
      exact ⟨rfl, HBW.out w2 (hb1.trans (hb2.mono hb1.size))⟩
    have g4 : ¬ (nv : Int) < (nk : Int) := by omega
    obtain ⟨b, j, htj, hcf, hrf⟩ := find_both HSA.out.1 key (by rw [HNK.out, HNV.out]; exact hkv)
    have HCF := Lib.hid hcf
    have HRF := Lib.hid hrf
    have HTJ := Lib.hid htj
    clear hcf hrf htj HSA
    have p0 := hbx1.p0
    have p1 := hbx1.p1
    have p2 := hbx1.p2
    go_wp2_with fail
    refine (HCF.out w1 _ _ _ _ _ (HA.out w1 hb1)).mono ?_
    rintro e w2 ⟨yk, yn, yt, b3, l3, n3, b4, l4, n4, rfl, hY, hb2⟩
    have hb02 := hb1.trans (hb2.mono hb1.size)
    clear p0 p1 p2 p3 p4 hbx1 hb1 hb2
    obtain ⟨hm1, hm2, hm3⟩ := bx_new w2 (.int .i64 yk) (.int .i64 yn) (.string yt) (.slice b3 l3 n3) (.slice b4 l4 n4)
    obtain ⟨w3, hw3⟩ : ∃ w3, w2.alloc (.cells #[.int .i64 yk, .int .i64 yn, .string yt, .slice b3 l3 n3, .slice b4 l4 n4] 25) = w3 := ⟨_, rfl⟩
    rw [hw3] at hm1 hm2 hm3
    have HW3 := Lib.hid hw3
    have hb03 := hb02.trans (hm1.mono hb02.size)
    obtain ⟨H1, hH1⟩ : ∃ H, w2.heap.size = H := ⟨_, rfl⟩
    rw [hH1] at hm2 hm3
    have HY := Lib.hid (node_below hm1 hY)
    have hbx3 := HBX.out w3 hb03
    have p0 := hbx3.p0
    have p1 := hbx3.p1
    have p2 := hbx3.p2
    have p3 := hbx3.p3
    have p4 := hbx3.p4
    have HM2 := Lib.hid hm2
    have hm2l := hm2.lt
    clear hbx3 hw3 hY hm1 hm2 hb02
    go_upto_region 4 with fail
    rw [HW3.out]
    (try rw [hH1])
    go_wp2_with fail
    refine (HRF.out w3 _ _ _ _ _ (HA.out w3 hb03)).mono ?_
    rintro e w4 ⟨zk, zn, zt, d3, r3, s3, d4, r4, s4, rfl, hZ, hb4⟩
    have hb04 := hb03.trans (hb4.mono hb03.size)
    clear p0 p1 p2 p3 p4
    obtain ⟨hn1, hn2, hn3⟩ := bx_new w4 (.int .i64 zk) (.int .i64 zn) (.string zt) (.slice d3 r3 s3) (.slice d4 r4 s4)
    obtain ⟨w5, hw5⟩ : ∃ w5, w4.alloc (.cells #[.int .i64 zk, .int .i64 zn, .string zt, .slice d3 r3 s3, .slice d4 r4 s4] 25) = w5 := ⟨_, rfl⟩
    rw [hw5] at hn1 hn2 hn3
    have HW5 := Lib.hid hw5
    have hb05 := hb04.trans (hn1.mono hb04.size)
    have hb35 : Below w3.heap.size w3 w5 := hb4.trans (hn1.mono hb4.size)
    obtain ⟨H2, hH2⟩ : ∃ H, w4.heap.size = H := ⟨_, rfl⟩
    rw [hH2] at hn2 hn3
    have hsame := same_in j j HTJ.out w5 _ _ _ _ _ _ _ _ _ _ (node_below hb35 HY.out) (node_below hn1 hZ)
    rw [sameP_yes rfl] at hsame
    have hY5 := HM2.out.same (hb35.block H1 hm2l)
    have p0 := hY5.p0
    have p1 := hY5.p1
    have p2 := hY5.p2
    have p3 := hY5.p3
    have p4 := hY5.p4
    have q0 := hn2.p0
    have q1 := hn2.p1
    have q2 := hn2.p2
    have q3 := hn2.p3
    have q4 := hn2.p4
    clear hY5 hw5 hZ hn1 hn2 hb04 hb35 hb4 hb03
    go_upto_region 5 with fail
    rw [HW5.out]
    (try rw [hH2])
    go_wp2_with fail
    refine hsame.mono ?_
    rintro e w6 ⟨rfl, hb6⟩
    have hb06 := hb05.trans (hb6.mono hb05.size)
    clear p0 p1 p2 p3 p4 q0 q1 q2 q3 q4
    go_wp2_with fail
    refine (awake_any (HE.out w6 hb06)).mono ?_
    rintro e w7 ⟨rfl, hb7⟩
    go_wp2_with fail
    go_ret
    (try rw [← hG])
    exact ⟨rfl, HBW.out w7 (hb06.trans (hb7.mono hb06.size))⟩
end Go.Proofs.YtbjngdlkamdmdaaDoor.J8
