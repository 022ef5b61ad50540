/-
  The law CanonBack returns true, of any two values. Condition: the library's table of powers of ten reads as its text lays it.
-/
import Derived.Test.YtbjngdlkamdmdaaDoorJ8All
import Derived.Test.YtbjngdlkamdmdaaDoorJ8Inj
import Derived.Test.YtbjngdlkamdmdaaDoorJ8In
namespace Go.Proofs.YtbjngdlkamdmdaaDoor.J8
open Go Go.RowKit Go.Joins Kit J7 Nds

theorem text_conv (s : ByteArray) (l : List UInt8) (hs : s.data.toList = l) (w : World) : ∃ N cap g w', (convert 9 40 (.string s)).run Tryd.prog w = .ok (.slice (some ⟨g, 0, none⟩) N cap) w' ∧ BytesAt w' (.slice (some ⟨g, 0, none⟩) N cap) l ∧ Below w.heap.size w w' := by
  obtain ⟨cap, w', h1, h2, h3⟩ := conv_bytes s w
  exact ⟨_, cap, _, w', h1, by rw [← hs]; exact h2, h3⟩
theorem print_right {a : J} (h : RightIn 0 a) : ((putJ a).length ≤ 65536 ∧ printP a = (⟨(putJ a).toArray⟩, 0)) ∨ printP a = (⟨#[]⟩, 2) := by
  by_cases hl : (putJ a).length ≤ 65536
  · exact Or.inl ⟨hl, by unfold printP; rw [if_pos (rightP_yes h), if_pos hl]⟩
  · exact Or.inr (by unfold printP; rw [if_pos (rightP_yes h), if_neg hl])

set_option maxHeartbeats 16000000 in
set_option maxRecDepth 100000 in
theorem canonBack_walk (a b : J) (c0 c1 c2 c3 c4 d0 d1 d2 d3 d4 : Value) (w : World) (ha : NodeIn w a (.agg #[c0, c1, c2, c3, c4])) (hb : NodeIn w b (.agg #[d0, d1, d2, d3, d4])) (hE : EnvW w) :
    Calls Tryd.prog 5 #[.agg #[c0, c1, c2, c3, c4], .agg #[d0, d1, d2, d3, d4]] w fun e w' => e = .returned (.bool true) ∧ Below w.heap.size w w' := by
  obtain ⟨xk, xn, xt, xa, xl, xc, xb, xm, xd, rfl, rfl, rfl, rfl, rfl⟩ := in_forms ha
  obtain ⟨yk, yn, yt, ya, yl, yc, yb, ym, yd, rfl, rfl, rfl, rfl, rfl⟩ := in_forms hb
  obtain ⟨W, hW, hbW, hlt, hbx⟩ := bx_two w (.int .i64 xk) (.int .i64 xn) (.string xt) (.slice xa xl xc) (.slice xb xm xd) (.int .i64 yk) (.int .i64 yn) (.string yt) (.slice ya yl yc) (.slice yb ym yd)
  have HA : Hid (∀ w', Below W.heap.size W w' → NodeIn w' a (.agg #[.int .i64 xk, .int .i64 xn, .string xt, .slice xa xl xc, .slice xb xm xd])) := Lib.hid (fun w' h => node_below h (node_below hbW ha))
  have HB : Hid (∀ w', Below W.heap.size W w' → NodeIn w' b (.agg #[.int .i64 yk, .int .i64 yn, .string yt, .slice ya yl yc, .slice yb ym yd])) := Lib.hid (fun w' h => node_below h (node_below hbW hb))
  have HE : Hid (∀ w', Below W.heap.size W w' → EnvW w') := Lib.hid (fun w' h => (hE.next hbW).next h)
  have HW := Lib.hid hW
  have HBW : Hid (∀ w', Below W.heap.size W w' → Below w.heap.size w w') := Lib.hid (fun w' h => hbW.trans (h.mono hbW.size))
  obtain ⟨G, hG⟩ : ∃ G, w.heap.size = G := ⟨_, rfl⟩
  rw [hG] at hbx
  have HBX := Lib.hid hbx
  have hg1 := great_any (HA.out W (Below.refl _ _))
  have h0 := HBX.out W (Below.refl _ _)
  have p0 := h0.1.p0
  have p1 := h0.1.p1
  have p2 := h0.1.p2
  have p3 := h0.1.p3
  have p4 := h0.1.p4
  clear ha hb hE hW hbW hlt hbx h0
  go_enter Tryd.func5, Tryd.ntmps5
  go_upto_region 1 with fail
  rw [HW.out]
  (try rw [hG])
  go_wp2_with fail
  refine hg1.mono ?_
  rintro e w1 ⟨g, rfl, hb1, hs1⟩
  clear hg1 p0 p1 p2 p3 p4
  cases g with
  | true =>
    go_wp2_with fail
    refine (awake_any (HE.out w1 hb1)).mono ?_
    rintro e w2 ⟨rfl, hb2⟩
    go_wp2_with fail
    go_ret
    (try rw [← hG])
    exact ⟨rfl, HBW.out w2 (hb1.trans (hb2.mono hb1.size))⟩
  | false =>
    have HSA := Lib.hid (hs1 rfl)
    clear hs1
    have h0 := HBX.out w1 hb1
    have q0 := h0.2.p0
    have q1 := h0.2.p1
    have q2 := h0.2.p2
    have q3 := h0.2.p3
    have q4 := h0.2.p4
    have hg2 := great_any (HB.out w1 hb1)
    clear h0
    go_wp2_with fail
    refine hg2.mono ?_
    rintro e w2 ⟨g, rfl, hb2, hs2⟩
    have hb02 := hb1.trans (hb2.mono hb1.size)
    clear hg2 q0 q1 q2 q3 q4 hb1 hb2
    cases g with
    | true =>
      go_wp2_with fail
      refine (awake_any (HE.out w2 hb02)).mono ?_
      rintro e w3 ⟨rfl, hb3⟩
      go_wp2_with fail
      go_ret
      (try rw [← hG])
      exact ⟨rfl, HBW.out w3 (hb02.trans (hb3.mono hb02.size))⟩
    | false =>
      have HSB := Lib.hid (hs2 rfl)
      clear hs2
      have p0 := (HBX.out w2 hb02).1.p0
      have p1 := (HBX.out w2 hb02).1.p1
      have p2 := (HBX.out w2 hb02).1.p2
      have p3 := (HBX.out w2 hb02).1.p3
      have p4 := (HBX.out w2 hb02).1.p4
      have hra := rRight_any HSA.out.1 (HA.out w2 hb02)
      by_cases hri : RightIn 0 a
      rotate_left 1
      · rw [rightP_no hri] at hra
        clear hri
        go_wp2_with fail
        refine hra.mono ?_
        rintro e w3 ⟨rfl, hb3⟩
        have hb03 := hb02.trans (hb3.mono hb02.size)
        clear p0 p1 p2 p3 p4
        go_wp2_with fail
        refine (awake_any (HE.out w3 hb03)).mono ?_
        rintro e wz ⟨rfl, hbz⟩
        go_wp2_with fail
        go_ret
        (try rw [← hG])
        exact ⟨rfl, HBW.out wz (hb03.trans (hbz.mono hb03.size))⟩
      rw [rightP_yes hri] at hra
      have HRA := Lib.hid hri
      clear hri
      go_wp2_with fail
      refine hra.mono ?_
      rintro e w3 ⟨rfl, hb3⟩
      have hb03 := hb02.trans (hb3.mono hb02.size)
      clear p0 p1 p2 p3 p4 hra hb3 hb02
      have p0 := (HBX.out w3 hb03).2.p0
      have p1 := (HBX.out w3 hb03).2.p1
      have p2 := (HBX.out w3 hb03).2.p2
      have p3 := (HBX.out w3 hb03).2.p3
      have p4 := (HBX.out w3 hb03).2.p4
      have hrb := rRight_any HSB.out.1 (HB.out w3 hb03)
      by_cases hri : RightIn 0 b
      rotate_left 1
      · rw [rightP_no hri] at hrb
        clear hri
        go_wp2_with fail
        refine hrb.mono ?_
        rintro e w4 ⟨rfl, hb4⟩
        have hb04 := hb03.trans (hb4.mono hb03.size)
        clear p0 p1 p2 p3 p4
        go_wp2_with fail
        refine (awake_any (HE.out w4 hb04)).mono ?_
        rintro e wz ⟨rfl, hbz⟩
        go_wp2_with fail
        go_ret
        (try rw [← hG])
        exact ⟨rfl, HBW.out wz (hb04.trans (hbz.mono hb04.size))⟩
      rw [rightP_yes hri] at hrb
      have HRB := Lib.hid hri
      clear hri
      go_wp2_with fail
      refine hrb.mono ?_
      rintro e w4 ⟨rfl, hb4⟩
      have hb04 := hb03.trans (hb4.mono hb03.size)
      clear p0 p1 p2 p3 p4 hrb hb4 hb03
      have p0 := (HBX.out w4 hb04).1.p0
      have p1 := (HBX.out w4 hb04).1.p1
      have p2 := (HBX.out w4 hb04).1.p2
      have p3 := (HBX.out w4 hb04).1.p3
      have p4 := (HBX.out w4 hb04).1.p4
      have hp1 := cprint_any HSA.out.1 (fun h => Nat.le_trans (HSA.out.2 h) (by decide)) (HE.out w4 hb04) (HA.out w4 hb04)
      rcases print_right HRA.out with ⟨hla, hpa⟩ | hpa
      rotate_left 1
      · rw [hpa] at hp1
        clear hpa
        go_wp2_with fail
        refine hp1.mono ?_
        rintro e w5 ⟨rfl, hb5⟩
        have hb05 := hb04.trans (hb5.mono hb04.size)
        clear p0 p1 p2 p3 p4 hp1 hb5 hb04
        have p0 := (HBX.out w5 hb05).2.p0
        have p1 := (HBX.out w5 hb05).2.p1
        have p2 := (HBX.out w5 hb05).2.p2
        have p3 := (HBX.out w5 hb05).2.p3
        have p4 := (HBX.out w5 hb05).2.p4
        have hp2 := cprint_any HSB.out.1 (fun h => Nat.le_trans (HSB.out.2 h) (by decide)) (HE.out w5 hb05) (HB.out w5 hb05)
        obtain ⟨T, hT⟩ : ∃ T, (printP b).1 = T := ⟨_, rfl⟩
        obtain ⟨F, hF⟩ : ∃ F, (printP b).2 = F := ⟨_, rfl⟩
        rw [hT, hF] at hp2
        clear hT hF
        go_wp2_with fail
        refine hp2.mono ?_
        rintro e w6 ⟨rfl, hb6⟩
        have hb06 := hb05.trans (hb6.mono hb05.size)
        clear p0 p1 p2 p3 p4 hp2 hb6 hb05
        go_wp2_with fail
        refine (L3.num_any _ _).mono ?_
        rintro e w7 ⟨rfl, rfl⟩
        go_wp2_with fail
        refine (L3.num_any _ _).mono ?_
        rintro e w8 ⟨rfl, rfl⟩
        go_wp2_with fail
        refine (awake_any (HE.out w6 hb06)).mono ?_
        rintro e wz ⟨rfl, hbz⟩
        go_wp2_with fail
        go_ret
        (try rw [← hG])
        exact ⟨rfl, HBW.out wz (hb06.trans (hbz.mono hb06.size))⟩
      rw [hpa] at hp1
      obtain ⟨S, hS⟩ : ∃ S : ByteArray, (⟨(putJ a).toArray⟩ : ByteArray) = S := ⟨_, rfl⟩
      rw [hS] at hp1
      have HS : Hid (S.data.toList = putJ a) := Lib.hid (by rw [← hS])
      have HLA := Lib.hid hla
      clear hpa hS hla
      go_wp2_with fail
      refine hp1.mono ?_
      rintro e w5 ⟨rfl, hb5⟩
      have hb05 := hb04.trans (hb5.mono hb04.size)
      clear p0 p1 p2 p3 p4 hp1 hb5 hb04
      have p0 := (HBX.out w5 hb05).2.p0
      have p1 := (HBX.out w5 hb05).2.p1
      have p2 := (HBX.out w5 hb05).2.p2
      have p3 := (HBX.out w5 hb05).2.p3
      have p4 := (HBX.out w5 hb05).2.p4
      have hp2 := cprint_any HSB.out.1 (fun h => Nat.le_trans (HSB.out.2 h) (by decide)) (HE.out w5 hb05) (HB.out w5 hb05)
      rcases print_right HRB.out with ⟨hlb, hpb⟩ | hpb
      rotate_left 1
      · rw [hpb] at hp2
        clear hpb
        go_wp2_with fail
        refine hp2.mono ?_
        rintro e w6 ⟨rfl, hb6⟩
        have hb06 := hb05.trans (hb6.mono hb05.size)
        clear p0 p1 p2 p3 p4 hp2 hb6 hb05
        go_wp2_with fail
        refine (L3.num_any _ _).mono ?_
        rintro e w7 ⟨rfl, rfl⟩
        go_wp2_with fail
        refine (L3.num_any _ _).mono ?_
        rintro e w8 ⟨rfl, rfl⟩
        go_wp2_with fail
        refine (L3.num_any _ _).mono ?_
        rintro e w9 ⟨rfl, rfl⟩
        go_wp2_with fail
        refine (L3.num_any _ _).mono ?_
        rintro e w10 ⟨rfl, rfl⟩
        go_wp2_with fail
        refine (awake_any (HE.out w6 hb06)).mono ?_
        rintro e wz ⟨rfl, hbz⟩
        go_wp2_with fail
        go_ret
        (try rw [← hG])
        exact ⟨rfl, HBW.out wz (hb06.trans (hbz.mono hb06.size))⟩
      rw [hpb] at hp2
      obtain ⟨T, hT⟩ : ∃ T : ByteArray, (⟨(putJ b).toArray⟩ : ByteArray) = T := ⟨_, rfl⟩
      rw [hT] at hp2
      have HT : Hid (T.data.toList = putJ b) := Lib.hid (by rw [← hT])
      clear hpb hT hlb
      go_wp2_with fail
      refine hp2.mono ?_
      rintro e w6 ⟨rfl, hb6⟩
      have hb06 := hb05.trans (hb6.mono hb05.size)
      clear p0 p1 p2 p3 p4 hp2 hb6 hb05
      have HJA := Lib.hid (right_J HSA.out.1 24 0 rfl HRA.out)
      have HJB := Lib.hid (right_J HSB.out.1 24 0 rfl HRB.out)
      have HPP := Lib.hid (parse_put a HJA.out HLA.out)
      go_wp2_with fail
      refine (L3.num_any _ _).mono ?_
      rintro e w7 ⟨rfl, rfl⟩
      go_wp2_with fail
      refine (L3.num_any _ _).mono ?_
      rintro e w8 ⟨rfl, rfl⟩
      obtain ⟨N1, cap1, gg1, wc, hconv, hby, hbc⟩ := text_conv S _ HS.out w6
      have hp := parse_any _ _ wc hby
      rw [HPP.out] at hp
      clear hby
      go_wp2_with fail
      refine hp.mono ?_
      intro e' w9 hL
      obtain ⟨hb9, n0, n1, n2, a5, l5, m5, a6, l6, m6, cc, rfl, rfl, hn9⟩ := parse_forms hL
      have hb69 : Below w6.heap.size w6 w9 := hbc.trans (hb9.mono hbc.size)
      have hb09 := hb06.trans (hb69.mono hb06.size)
      obtain ⟨hm1, hm2, hm3⟩ := bx_new w9 (.int .i64 n0) (.int .i64 n1) (.string n2) (.slice a5 l5 m5) (.slice a6 l6 m6)
      obtain ⟨w10, hw10⟩ : ∃ w10, w9.alloc (.cells #[.int .i64 n0, .int .i64 n1, .string n2, .slice a5 l5 m5, .slice a6 l6 m6] 25) = w10 := ⟨_, rfl⟩
      rw [hw10] at hm1 hm2 hm3
      have HW10 := Lib.hid hw10
      have hb10 := hb09.trans (hm1.mono hb09.size)
      obtain ⟨P, hP⟩ : ∃ P, w9.heap.size = P := ⟨_, rfl⟩
      rw [hP] at hm2 hm3
      have hs1 := same_in a a HSA.out.1 w10 _ _ _ _ _ _ _ _ _ _ (node_below hm1 (at_in hn9)) (HA.out w10 hb10)
      rw [sameP_yes rfl] at hs1
      have q0 := hm2.p0
      have q1 := hm2.p1
      have q2 := hm2.p2
      have q3 := hm2.p3
      have q4 := hm2.p4
      have p0 := (HBX.out w10 hb10).1.p0
      have p1 := (HBX.out w10 hb10).1.p1
      have p2 := (HBX.out w10 hb10).1.p2
      have p3 := (HBX.out w10 hb10).1.p3
      have p4 := (HBX.out w10 hb10).1.p4
      clear hL hp hconv hbc hb9 hn9 hb69 hb09 hm1 hm2 hw10 hb06
      go_upto_region 8 with fail
      rw [HW10.out]
      (try rw [hP])
      go_wp2_with fail
      refine (L3.num_any _ _).mono ?_
      rintro e w11 ⟨rfl, rfl⟩
      go_wp2_with fail
      refine hs1.mono ?_
      rintro e w11 ⟨rfl, hb11'⟩
      have hb11 := hb10.trans (hb11'.mono hb10.size)
      clear q0 q1 q2 q3 q4 p0 p1 p2 p3 p4 hs1 hb11' hb10
      have p0 := (HBX.out w11 hb11).1.p0
      have p1 := (HBX.out w11 hb11).1.p1
      have p2 := (HBX.out w11 hb11).1.p2
      have p3 := (HBX.out w11 hb11).1.p3
      have p4 := (HBX.out w11 hb11).1.p4
      have q0 := (HBX.out w11 hb11).2.p0
      have q1 := (HBX.out w11 hb11).2.p1
      have q2 := (HBX.out w11 hb11).2.p2
      have q3 := (HBX.out w11 hb11).2.p3
      have q4 := (HBX.out w11 hb11).2.p4
      have hs2 := same_in a b HSA.out.1 w11 _ _ _ _ _ _ _ _ _ _ (HA.out w11 hb11) (HB.out w11 hb11)
      by_cases hab : a = b
      · rw [sameP_yes hab] at hs2
        obtain rfl : S = T := bytes_ext (by rw [HS.out, HT.out, hab])
        clear hab
        go_wp2_with fail
        refine hs2.mono ?_
        rintro e w12 ⟨rfl, hb12'⟩
        have hb12 := hb11.trans (hb12'.mono hb11.size)
        clear p0 p1 p2 p3 p4 q0 q1 q2 q3 q4
        go_wp2_with fail
        refine (awake_any (HE.out w12 hb12)).mono ?_
        rintro e wz ⟨rfl, hbz⟩
        go_wp2_with fail
        go_ret
        (try rw [← hG])
        exact ⟨rfl, HBW.out wz (hb12.trans (hbz.mono hb12.size))⟩
      · rw [sameP_no hab] at hs2
        have gt := text_no (a := S) (b := T) (fun e => hab (put_inj HJA.out HJB.out HLA.out (by rw [← HS.out, ← HT.out, e])))
        clear hab
        go_wp2_with fail
        refine hs2.mono ?_
        rintro e w12 ⟨rfl, hb12'⟩
        have hb12 := hb11.trans (hb12'.mono hb11.size)
        clear p0 p1 p2 p3 p4 q0 q1 q2 q3 q4
        go_wp2_with fail
        refine (awake_any (HE.out w12 hb12)).mono ?_
        rintro e wz ⟨rfl, hbz⟩
        go_wp2_with fail
        go_ret
        (try rw [← hG])
        exact ⟨rfl, HBW.out wz (hb12.trans (hbz.mono hb12.size))⟩
end Go.Proofs.YtbjngdlkamdmdaaDoor.J8
