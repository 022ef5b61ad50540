/-
  The program's Print of any value: its text, or why there is none. Conditions: Tame; a right one's text has at most 10^13 bytes; the library's table of powers of ten reads as its text lays it.
-/
import Derived.Test.YtbjngdlkamdmdaaDoorJ8Pr
import Derived.Test.YtbjngdlkamdmdaaDoorJ8Plain
namespace Go.Proofs.YtbjngdlkamdmdaaDoor.J8
open Go Go.RowKit Go.Joins Kit J7 Nds

/-- The library's table reads as it did. -/
def EnvW (w : World) : Prop := ∀ w', Below w.heap.size w w' → Lib.TabIs Tryd.prog w' "internal/strconv.uint64pow10" .u64 Lib.pow10Tab
theorem EnvW.next {w w1 : World} (h : EnvW w) (hb : Below w.heap.size w w1) : EnvW w1 := fun w' hb' => h w' (hb.trans (hb'.mono hb.size))
theorem EnvW.up {S : Nat → Prop} {w : World} (h : EnvW w) (hs : ∀ k, k < w.heap.size → S k) : EnvS S w := fun w' k => h w' ⟨k.os, k.tape, k.output, k.size, fun q hq => k.block q (hs q hq)⟩
theorem numT_ne (n : Int) : numT n ≠ [] := by
  rw [numT_itoa]
  unfold Lib.itoa
  split
  · simp
  · rw [Lib.decDigits]
    split <;> simp
theorem put_ne (a : J) : putJ a ≠ [] := by
  obtain ⟨k, n, t, keys, kids⟩ := a
  rw [putJ]
  repeat' split
  all_goals first
    | exact numT_ne n
    | (unfold quoteL; simp; done)
    | (intro h; cases h; done)
    | (simp; done)
theorem pb_new (w : World) : PB (fun k => k < w.heap.size) w.heap.size [] (w.alloc (.cells #[.pointer none, .slice none 0 0] 47)) :=
  ⟨.pointer none, .slice none 0 0, Or.inl rfl, Kit.fresh_block w _ _, ⟨by decide, Or.inl ⟨rfl, rfl⟩⟩, (fun h => by cases h), (fun g h => by cases h), Nat.lt_irrefl _, fun k hk => by simp; omega⟩

set_option maxHeartbeats 8000000 in
set_option maxRecDepth 100000 in
theorem cprint_any {a : J} (ht : Tame a) (hl : RightIn 0 a → (putJ a).length ≤ 10000000000000) {w : World} (hE : EnvW w) {c0 c1 c2 c3 c4 : Value} (hN : NodeIn w a (.agg #[c0, c1, c2, c3, c4])) :
    Calls Tryd.prog 11 #[.agg #[c0, c1, c2, c3, c4]] w fun e w' => e = .returned (.tuple #[.string (printP a).1, .int .i64 (printP a).2]) ∧ Below w.heap.size w w' := by
  obtain ⟨k, n, t, a3, nk, m3, a4, nv, m4, rfl, rfl, rfl, rfl, rfl⟩ := in_forms hN
  obtain ⟨hb0, hA, hsz⟩ := bx_new w (.int .i64 k) (.int .i64 n) (.string t) (.slice a3 nk m3) (.slice a4 nv m4)
  obtain ⟨W, hW⟩ : ∃ W, w.alloc (.cells #[.int .i64 k, .int .i64 n, .string t, .slice a3 nk m3, .slice a4 nv m4] 25) = W := ⟨_, rfl⟩
  rw [hW] at hb0 hA hsz
  have hr := cRight_any ht (node_below hb0 hN)
  have HN := Lib.hid (node_below hb0 hN)
  have HE := Lib.hid (hE.next hb0)
  have HB := Lib.hid hb0
  obtain ⟨G, hG⟩ : ∃ G, w.heap.size = G := ⟨_, rfl⟩
  rw [hG] at hA hsz
  have HW := Lib.hid hW
  have HA := Lib.hid hA
  have p0 := hA.p0
  have p1 := hA.p1
  have p2 := hA.p2
  have p3 := hA.p3
  have p4 := hA.p4
  have hGl := hA.lt
  obtain ⟨P, hP⟩ : ∃ P, printP a = P := ⟨_, rfl⟩
  rw [hP]
  have HP := Lib.hid hP
  clear hN hb0 hA hW hE hP
  by_cases hri : RightIn 0 a
  rotate_left 1
  · rw [rightP_no hri] at hr
    obtain rfl : P = (⟨#[]⟩, 1) := by rw [← HP.out]; unfold printP; rw [if_neg (by rw [rightP_no hri]; decide)]
    clear HP
    go_enter Tryd.func11, Tryd.ntmps11
    go_upto_region 1 with fail
    rw [HW.out]
    (try rw [hG])
    go_wp2_with fail
    refine hr.mono ?_
    rintro e w1 ⟨rfl, hb1⟩
    go_wp2_with fail
    go_ret2
    (try rw [← hG])
    exact ⟨rfl, HB.out.trans (hb1.mono HB.out.size)⟩
  rw [rightP_yes hri] at hr
  have hRJ := right_J ht 24 0 rfl hri
  have hll := hl hri
  have HPP : Hid (P = if (putJ a).length ≤ 65536 then (⟨(putJ a).toArray⟩, 0) else (⟨#[]⟩, 2)) := Lib.hid (by rw [← HP.out]; unfold printP; rw [if_pos (rightP_yes hri)])
  have hpv := pval_any 24 a hRJ
  have HPV := Lib.hid hpv
  have HNE := Lib.hid (put_ne a)
  have HLL := Lib.hid hll
  clear hpv hRJ hll hl HP hri
  go_enter Tryd.func11, Tryd.ntmps11
  go_upto_region 1 with fail
  rw [HW.out]
  (try rw [hG])
  go_wp2_with fail
  refine hr.mono ?_
  rintro e w1 ⟨rfl, hb1⟩
  clear hr p0 p1 p2 p3 p4
  have hpb := pb_new w1
  have hb2 : Below w1.heap.size w1 (w1.alloc (.cells #[.pointer none, .slice none 0 0] 47)) := (Below.refl _ w1).alloc (Nat.le_refl _) _
  have hA2 := (HA.out.same (hb1.block G hGl)).alloc (.cells #[.pointer none, .slice none 0 0] 47)
  have hN1 := node_at (node_below hb1 HN.out)
  have hN2 : NodeAt (fun k => k < w1.heap.size) (w1.alloc (.cells #[.pointer none, .slice none 0 0] 47)) a (.agg #[.int .i64 k, .int .i64 n, .string t, .slice a3 nk m3, .slice a4 nv m4]) := hN1.keep (fun g hg _ => ⟨hg, hb2.block g hg⟩)
  have hE2 : EnvS (fun k => k < w1.heap.size) (w1.alloc (.cells #[.pointer none, .slice none 0 0] 47)) := ((HE.out.next hb1).up (S := fun k => k < w1.heap.size) (fun _ h => h)).next (Ks.of_below hb2 (fun _ h => h))
  obtain ⟨W2, hW2⟩ : ∃ W2, w1.alloc (.cells #[.pointer none, .slice none 0 0] 47) = W2 := ⟨_, rfl⟩
  rw [hW2] at hpb hb2 hA2 hN2 hE2
  have hv := HPV.out (fun k => k < w1.heap.size) w1.heap.size [] W2 _ _ _ _ _ hpb hN2 hE2 (by have := HLL.out; rw [List.length_nil]; omega)
  have HW2 := Lib.hid hW2
  have p0 := hA2.p0
  have p1 := hA2.p1
  have p2 := hA2.p2
  have p3 := hA2.p3
  have p4 := hA2.p4
  have HB2 := Lib.hid hb2
  have HB1 := Lib.hid hb1
  obtain ⟨b, hb⟩ : ∃ b, w1.heap.size = b := ⟨_, rfl⟩
  rw [hb] at hv
  clear hpb hb2 hA2 hN1 hN2 hE2 hW2 hb1
  go_upto_region 4 with fail
  rw [HW2.out]
  (try rw [hb])
  go_wp2_with fail
  refine hv.mono ?_
  rintro e w3 ⟨rfl, m, hm, hp3, k3⟩
  clear hv p0 p1 p2 p3 p4
  have hf := isFull_any hp3
  have HK3 : Hid (Below w.heap.size w w3) := Lib.hid (HB.out.trans ((HB1.out.trans ((show Below w1.heap.size w1 w3 from ⟨k3.os.trans HB2.out.os, k3.tape.trans HB2.out.tape, k3.output.trans HB2.out.output, Nat.le_trans HB2.out.size k3.size, fun q hq => (k3.block q (by rw [← hb]; exact hq)).trans (HB2.out.block q hq)⟩).mono HB1.out.size)).mono HB.out.size))
  by_cases h6 : (putJ a).length ≤ 65536
  · have hmm : m = putJ a := by rw [hm.all (by rw [List.length_nil]; omega)]; rfl
    subst hmm
    have hst := bstring_any hp3 HNE.out
    obtain rfl : P = (⟨(putJ a).toArray⟩, 0) := by rw [HPP.out, if_pos h6]
    rw [show full (putJ a) = false by unfold full; rw [decide_eq_false_iff_not]; omega] at hf
    clear hm h6 HPP HPV HNE HLL
    go_wp2_with fail
    refine hf.mono ?_
    rintro e w4 ⟨rfl, rfl⟩
    go_wp2_with fail
    refine hst.mono ?_
    rintro e w5 ⟨rfl, k5⟩
    go_wp2_with fail
    go_ret2
    (try rw [← hG])
    refine ⟨rfl, ?_⟩
    have hb3 := HK3.out
    have hle : w.heap.size ≤ b := by rw [← hb]; exact Nat.le_trans HB.out.size HB1.out.size
    exact hb3.trans ⟨k5.os, k5.tape, k5.output, k5.size, fun q hq => k5.block q (show q < b by omega)⟩
  · obtain rfl : P = (⟨#[]⟩, 2) := by rw [HPP.out, if_neg h6]
    have hov := hm.over (by rw [List.length_nil]; omega)
    rw [show full m = true by unfold full; rw [decide_eq_true_iff]; omega] at hf
    clear hm h6 HPP HPV HNE HLL hov
    go_wp2_with fail
    refine hf.mono ?_
    rintro e w4 ⟨rfl, rfl⟩
    go_wp2_with fail
    go_ret2
    (try rw [← hG])
    exact ⟨rfl, HK3.out⟩
end Go.Proofs.YtbjngdlkamdmdaaDoor.J8
