/-
  The reader of the document's answer for package json: a value, so many in one another. Conditions: the text has at most 65536 bytes.
-/
import Derived.Test.YtpnffmimpkimeaaJ7RLs
import Derived.Test.YtpnffmimpkimeaaJ7Num
import Derived.Test.YtpnffmimpkimeaaJ7Cv
namespace Go.Proofs.Ytpnffmimpkimeaa.J7
open Go Go.RowKit Go.Joins Kit

theorem vH_end {num : List UInt8 → Out J} {lst : Bool → List UInt8 → Out J} {l : List UInt8} {s : ByteArray} {k : Nat} (h : skipL l = tail s k) (hl : s.size ≤ k) : valueH num lst l = .error 3 := by unfold valueH; rw [h, tail_end hl]
theorem vH_at {num : List UInt8 → Out J} {lst : Bool → List UInt8 → Out J} {l : List UInt8} {s : ByteArray} {k : Nat} {c : UInt8} (h : skipL l = tail s k) (hl : k < s.size) (hc : s[k] = c) : valueH num lst l =
    if c = 110 then wordJ nullW 1 (tail s k) else if c = 102 then wordJ falseW 2 (tail s k) else if c = 116 then wordJ trueW 3 (tail s k) else if c = 34 then textJ (tail s (k + 1)) else if c = 91 then lst false (tail s (k + 1)) else if c = 123 then lst true (tail s (k + 1)) else num (tail s k) := by
  unfold valueH
  rw [h, tail_cons hl, hc]
/-- A value that a callee has read, put into the result's variable. -/
theorem left_put {R G0 : Nat} {s : ByteArray} {d : Int} {w w3 w4 : World} {o : Out J} {j : J} {c0 c1 c2 c3 c4 : Value} (hst : Step R w w3) (hb : G0 < w3.heap.size) (hG : w.heap.size ≤ G0) (hR : R < w.heap.size) (h : Step R w3 w4) (hn : NodeAt (fun g => w3.heap.size ≤ g) w4 j (.agg #[c0, c1, c2, c3, c4])) (hjk : ∀ k r, o = .ok (k, r) → j = k) (hm : Mo R s d o w4) : Left R s d w o (.returned (.agg #[c0, c1, c2, c3, c4])) (putN w4 G0 c0 c1 c2 c3 c4) := by
  have hn' : NodeAt (fun g => w.heap.size ≤ g) (putN w4 G0 c0 c1 c2 c3 c4) j (.agg #[c0, c1, c2, c3, c4]) := hn.keep (fun g hg hl => ⟨by have hg : w3.heap.size ≤ g := hg; show w.heap.size ≤ g; omega, putN_block w4 G0 _ _ _ _ _ g (by have hg : w3.heap.size ≤ g := hg; omega)⟩)
  have hr' : ∀ (i d e : Int), Rd R s i d e w4 → Rd R s i d e (putN w4 G0 c0 c1 c2 c3 c4) := fun i d e hr => ⟨(putN_block w4 G0 _ _ _ _ _ R (by omega)).trans hr.blk⟩
  refine ⟨putN_step (hst.trans h) hG _ _ _ _ _, _, rfl, ?_⟩
  cases o with
  | ok x =>
    obtain ⟨k, r⟩ := x
    obtain ⟨q, q1, q2, q3⟩ := hm
    rw [hjk k r rfl] at hn'
    exact ⟨hn', q, q1, q2, hr' _ _ _ q3⟩
  | error c =>
    obtain ⟨q0, q, q1, q3⟩ := hm
    exact ⟨⟨j, hn'⟩, q0, q, q1, hr' _ _ _ q3⟩

set_option maxHeartbeats 4000000 in
set_option maxRecDepth 100000 in
theorem rvalue_off (R : Nat) (s : ByteArray) (i c : Nat) (d : Int) (w : World) (hs : s.size ≤ 65536) (hi : i ≤ s.size) (hc : c ≠ 0) (h : Rd R s (i : Int) d (c : Int) w) :
    Calls Try.prog 24 #[.pointer (some ⟨R, 0, none⟩)] w fun e' w' => Left R s d w (.error c) e' w' := by
  have hsz : (s.size : Int) ≤ 65536 := by omega
  have hRl := h.lt
  obtain ⟨G0, hG0⟩ : ∃ G, w.heap.size = G := ⟨_, rfl⟩
  have hz0 := newZ_bx w
  rw [hG0] at hz0
  have hr0 : Rd R s (i : Int) d (c : Int) (newZ w) := h.alloc _
  have hst0 : Step R w (newZ w) := newZ_step (Step.refl R w)
  go_enter Try.func24, Try.ntmps24
  go_wp2_with fail
  refine (blanks_any R s i d (c : Int) _ hr0 hs hi).mono ?_
  rintro e' w2 ⟨rfl, k, hk1, hk2, hk, hr2, hs2⟩
  have hst2 := hst0.trans hs2
  have hb2 := hz0.keep hs2 (by omega)
  have h3 := hr2.c3
  have gc : ((c : Int) != 0) = true := by rw [bne_iff_ne]; omega
  go_wp2_with fail
  go_quiet (fail)
  go_wp2_with fail
  refine (fail_any R s (k : Int) d (c : Int) 3 _ (hr2.drewN _)).mono ?_
  rintro e' w3 ⟨rfl, hr3, hs3⟩
  rw [if_neg (by omega)] at hr3
  have hst3 := (hst2.drewN _).trans hs3
  have hb3 := (hb2.drewN _).keep hs3 (by omega)
  (try rw [hG0])
  have p0 := hb3.p0
  have p1 := hb3.p1
  have p2 := hb3.p2
  have p3 := hb3.p3
  have p4 := hb3.p4
  have f0 := hb3.free 0
  have f1 := hb3.free 1
  have f2 := hb3.free 2
  have f3 := hb3.free 3
  have f4 := hb3.free 4
  go_wp2_with fail
  refine bodyPost_ret (node_result rfl _ rfl (hb3.setAll _ _ _ _ _)) rfl ?_
  refine ⟨hst3.setAll (by omega) _ _ _ _ _, _, rfl, ⟨⟨_, node_plain _ _ _ _ _⟩, hc, k, hk2, ?_⟩⟩
  exact ⟨(putN_block w3 G0 _ _ _ _ _ R (by omega)).trans hr3.blk⟩

set_option maxHeartbeats 8000000 in
set_option maxRecDepth 100000 in
theorem rvalue_any (R : Nat) (s : ByteArray) (i : Nat) (d : Int) (w : World) (lst : Bool → List UInt8 → Out J) (hs : s.size ≤ 65536) (hi : i ≤ s.size)
    (hlist : ∀ (obj : Bool) (q : Nat) (w : World), Rd R s (q : Int) d 0 w → q ≤ s.size → Calls Try.prog 37 #[.pointer (some ⟨R, 0, none⟩), .bool obj] w fun e' w' => Left R s d w (lst obj (tail s q)) e' w') (h : Rd R s (i : Int) d 0 w) :
    Calls Try.prog 24 #[.pointer (some ⟨R, 0, none⟩)] w fun e' w' => Left R s d w (valueH numberL lst (tail s i)) e' w' := by
  have hsz : (s.size : Int) ≤ 65536 := by omega
  have hRl := h.lt
  have HLIST := Lib.hid hlist
  obtain ⟨G0, hG0⟩ : ∃ G, w.heap.size = G := ⟨_, rfl⟩
  have hz0 := newZ_bx w
  rw [hG0] at hz0
  have hr0 : Rd R s (i : Int) d 0 (newZ w) := h.alloc _
  have hst0 : Step R w (newZ w) := newZ_step (Step.refl R w)
  obtain ⟨O, hO⟩ : ∃ O, valueH numberL lst (tail s i) = O := ⟨_, rfl⟩
  rw [hO]
  have HO := Lib.hid hO
  clear hO hlist
  go_enter Try.func24, Try.ntmps24
  go_wp2_with fail
  refine (blanks_any R s i d 0 _ hr0 hs hi).mono ?_
  rintro e' w2 ⟨rfl, k, hk1, hk2, hk, hr2, hs2⟩
  have hst2 := hst0.trans hs2
  have hb2 := hz0.keep hs2 (by omega)
  have h0 := hr2.c0
  have h1 := hr2.c1
  have h3 := hr2.c3
  have HK := Lib.hid hk
  clear hr0 hst0 hz0 hs2 hk h
  rcases Nat.lt_or_ge k s.size with hl | hl
  rotate_left 1
  · have HE : Hid (O = .error 3) := Lib.hid (HO.out.symm.trans (vH_end HK.out hl))
    have gi : decide (s.size ≤ k) = true := by rw [decide_eq_true_iff]; omega
    clear HO HK
    go_wp2_with fail
    go_quiet (fail)
    go_wp2_with fail
    refine (fail_any R s (k : Int) d 0 3 _ (hr2.drewN _)).mono ?_
    rintro e' w3 ⟨rfl, hr3, hs3⟩
    have hst3 := (hst2.drewN _).trans hs3
    have hb3 := (hb2.drewN _).keep hs3 (by omega)
    have hr3 : Rd R s (k : Int) d ((3 : Nat) : Int) w3 := by simpa using hr3
    (try rw [hG0])
    have p0 := hb3.p0
    have p1 := hb3.p1
    have p2 := hb3.p2
    have p3 := hb3.p3
    have p4 := hb3.p4
    have f0 := hb3.free 0
    have f1 := hb3.free 1
    have f2 := hb3.free 2
    have f3 := hb3.free 3
    have f4 := hb3.free 4
    go_wp2_with fail
    refine bodyPost_ret (node_result rfl _ rfl (hb3.setAll _ _ _ _ _)) rfl ?_
    rw [HE.out]
    refine ⟨hst3.setAll (by omega) _ _ _ _ _, _, rfl, ⟨⟨_, node_plain _ _ _ _ _⟩, by decide, k, hk2, ?_⟩⟩
    exact ⟨(putN_block w3 G0 _ _ _ _ _ R (by omega)).trans hr3.blk⟩
  · have g1 : (k : Int) < s.size := by omega
    obtain ⟨c, hc⟩ : ∃ c, s[k] = c := ⟨_, rfl⟩
    have hcn : (s[k].toNat : Int) = (c.toNat : Int) := by rw [hc]
    have hcl := c.toNat_lt
    have HAT := Lib.hid (HO.out.symm.trans (vH_at HK.out hl hc))
    clear HO HK hc
    go_wp2_with fail
    go_quiet (fail)
    go_upto_region 5 with fail
    go_cut [33] from 25 (fun x wx => ∃ W : World, x = .int .u8 (c.toNat : Int) ∧ Rd R s (k : Int) d 0 W ∧ Step R w W ∧ Bx G0 (.int .i64 0) (.int .i64 0) (.string { data := #[] }) (.slice none 0 0) (.slice none 0 0) W ∧ W = wx)
    case first =>
      go_wp2_with fail
      go_quiet (fail)
      go_wp2_with fail
      go_meet
      refine ⟨_, rfl, ?_, ?_, ?_, rfl⟩
      · first | exact hr2.drewN _ | exact (hr2.drewN _).drewN _
      · first | exact hst2.drewN _ | exact (hst2.drewN _).drewN _
      · first | exact hb2.drewN _ | exact (hb2.drewN _).drewN _
    case rest =>
      clear hr2 hst2 hb2 h0 h1 h3 hcn g1
      obtain ⟨W, rfl, hr, hst, hb, rfl⟩ := hcut
      (try rw [hG0])
      have hbl := hb.lt
      have h1 := hr.c1
      have hz := hr.free 1
      have hr1 : Rd R s ((k + 1 : Nat) : Int) d 0 (W.setCell ⟨R, 1, none⟩ (.int .i64 ((k : Int) + 1))) := by rw [show ((k + 1 : Nat) : Int) = (k : Int) + 1 by omega]; exact hr.set1 ((k : Int) + 1)
      have hst1 : Step R w (W.setCell ⟨R, 1, none⟩ (.int .i64 ((k : Int) + 1))) := hst.set 1 _
      have hb1 : Bx G0 (.int .i64 0) (.int .i64 0) (.string { data := #[] }) (.slice none 0 0) (.slice none 0 0) (W.setCell ⟨R, 1, none⟩ (.int .i64 ((k : Int) + 1))) := hb.keep ((Step.refl R W).set 1 _) (by omega)
      have hs1 : (W.setCell ⟨R, 1, none⟩ (.int .i64 ((k : Int) + 1))).heap.size = W.heap.size := by simp [World.setCell]
      have GW : w.heap.size ≤ G0 := by omega
      by_cases c1 : c = 110
      · have HE : Hid (O = wordJ nullW 1 (tail s k)) := Lib.hid (HAT.out.trans (if_pos c1))
        have e' : (c.toNat : Int) = 110 := by rw [c1]; rfl
        clear c1 hcl
        (try rw [e'])
        go_wp2_with fail
        refine (word_any R s ⟨#[110, 117, 108, 108]⟩ k d 1 W hr hs hk2 (by decide)).mono ?_
        intro e' w4 hLf
        obtain ⟨hs4, j, c0, c1, c2, c3, c4, rfl, hn4, hjk, hm4⟩ := hLf.on
        obtain ⟨x0, x1, x2, a3, l3, m3, a4, l4, m4, rfl, rfl, rfl, rfl, rfl⟩ := hn4.forms
        have hb4 := hb.keep hs4 (by omega)
        have p0 := hb4.p0
        have p1 := hb4.p1
        have p2 := hb4.p2
        have p3 := hb4.p3
        have p4 := hb4.p4
        have f0 := hb4.free 0
        have f1 := hb4.free 1
        have f2 := hb4.free 2
        have f3 := hb4.free 3
        have f4 := hb4.free 4
        go_wp2_with fail
        refine bodyPost_ret (node_result rfl _ rfl (hb4.setAll _ _ _ _ _)) rfl ?_
        rw [HE.out]
        exact left_put hst hbl GW hRl hs4 hn4 hjk hm4
      have HA1 := Lib.hid (HAT.out.trans (if_neg c1))
      have z1 : ((c.toNat : Int) == 110) = false := by rw [beq_eq_false_iff_ne]; exact fun e => c1 (byte_eq e)
      by_cases c2 : c = 102
      · have HE : Hid (O = wordJ falseW 2 (tail s k)) := Lib.hid (HA1.out.trans (if_pos c2))
        have e' : (c.toNat : Int) = 102 := by rw [c2]; rfl
        clear c2 hcl
        (try rw [e'])
        go_wp2_with fail
        refine (word_any R s ⟨#[102, 97, 108, 115, 101]⟩ k d 2 W hr hs hk2 (by decide)).mono ?_
        intro e' w4 hLf
        obtain ⟨hs4, j, c0, c1, c2, c3, c4, rfl, hn4, hjk, hm4⟩ := hLf.on
        obtain ⟨x0, x1, x2, a3, l3, m3, a4, l4, m4, rfl, rfl, rfl, rfl, rfl⟩ := hn4.forms
        have hb4 := hb.keep hs4 (by omega)
        have p0 := hb4.p0
        have p1 := hb4.p1
        have p2 := hb4.p2
        have p3 := hb4.p3
        have p4 := hb4.p4
        have f0 := hb4.free 0
        have f1 := hb4.free 1
        have f2 := hb4.free 2
        have f3 := hb4.free 3
        have f4 := hb4.free 4
        go_wp2_with fail
        refine bodyPost_ret (node_result rfl _ rfl (hb4.setAll _ _ _ _ _)) rfl ?_
        rw [HE.out]
        exact left_put hst hbl GW hRl hs4 hn4 hjk hm4
      have HA2 := Lib.hid (HA1.out.trans (if_neg c2))
      have z2 : ((c.toNat : Int) == 102) = false := by rw [beq_eq_false_iff_ne]; exact fun e => c2 (byte_eq e)
      by_cases c3 : c = 116
      · have HE : Hid (O = wordJ trueW 3 (tail s k)) := Lib.hid (HA2.out.trans (if_pos c3))
        have e' : (c.toNat : Int) = 116 := by rw [c3]; rfl
        clear c3 hcl
        (try rw [e'])
        go_wp2_with fail
        refine (word_any R s ⟨#[116, 114, 117, 101]⟩ k d 3 W hr hs hk2 (by decide)).mono ?_
        intro e' w4 hLf
        obtain ⟨hs4, j, c0, c1, c2, c3, c4, rfl, hn4, hjk, hm4⟩ := hLf.on
        obtain ⟨x0, x1, x2, a3, l3, m3, a4, l4, m4, rfl, rfl, rfl, rfl, rfl⟩ := hn4.forms
        have hb4 := hb.keep hs4 (by omega)
        have p0 := hb4.p0
        have p1 := hb4.p1
        have p2 := hb4.p2
        have p3 := hb4.p3
        have p4 := hb4.p4
        have f0 := hb4.free 0
        have f1 := hb4.free 1
        have f2 := hb4.free 2
        have f3 := hb4.free 3
        have f4 := hb4.free 4
        go_wp2_with fail
        refine bodyPost_ret (node_result rfl _ rfl (hb4.setAll _ _ _ _ _)) rfl ?_
        rw [HE.out]
        exact left_put hst hbl GW hRl hs4 hn4 hjk hm4
      have HA3 := Lib.hid (HA2.out.trans (if_neg c3))
      have z3 : ((c.toNat : Int) == 116) = false := by rw [beq_eq_false_iff_ne]; exact fun e => c3 (byte_eq e)
      by_cases c4 : c = 34
      · have HE : Hid (O = textJ (tail s (k + 1))) := Lib.hid (HA3.out.trans (if_pos c4))
        have e' : (c.toNat : Int) = 34 := by rw [c4]; rfl
        have ht := rtext_any R s (k + 1) d _ hr1 hs (by omega)
        clear c4 hcl
        (try rw [e'])
        cases eo : textL (tail s (k + 1)) with
        | error er =>
          rw [eo] at ht
          have HE2 : Hid (O = .error er) := by show O = _; rw [HE.out]; unfold textJ; rw [eo]
          clear HE eo
          go_wp2_with fail
          refine ht.mono ?_
          rintro e' w4 ⟨hs4, T, rfl, rfl, hT, k4, hk4, hr4⟩
          have hb4 := hb1.keep hs4 (by omega)
          have p0 := hb4.p0
          have p1 := hb4.p1
          have p2 := hb4.p2
          have p3 := hb4.p3
          have p4 := hb4.p4
          have f0 := hb4.free 0
          have f1 := hb4.free 1
          have f2 := hb4.free 2
          have f3 := hb4.free 3
          have f4 := hb4.free 4
          go_wp2_with fail
          refine bodyPost_ret (node_result rfl _ rfl (hb4.setAll _ _ _ _ _)) rfl ?_
          rw [HE2.out]
          refine ⟨(hst1.trans hs4).setAll GW _ _ _ _ _, _, rfl, ⟨⟨_, node_plain _ _ _ _ _⟩, by decide, k4, hk4, ?_⟩⟩
          exact ⟨(putN_block w4 G0 _ _ _ _ _ R (by omega)).trans hr4.blk⟩
        | ok x =>
          obtain ⟨t, r⟩ := x
          rw [eo] at ht
          have HE2 : Hid (O = .ok (strJ t, r)) := by show O = _; rw [HE.out]; unfold textJ; rw [eo]
          clear HE eo
          go_wp2_with fail
          refine ht.mono ?_
          rintro e' w4 ⟨hs4, T, rfl, hT, k4, hk4, rfl, hr4⟩
          have hb4 := hb1.keep hs4 (by omega)
          have hTe : (⟨t.toArray⟩ : ByteArray) = T := bytes_ext (by rw [hT])
          have HTE := Lib.hid hTe
          clear hTe hT
          have p0 := hb4.p0
          have p1 := hb4.p1
          have p2 := hb4.p2
          have p3 := hb4.p3
          have p4 := hb4.p4
          have f0 := hb4.free 0
          have f1 := hb4.free 1
          have f2 := hb4.free 2
          have f3 := hb4.free 3
          have f4 := hb4.free 4
          go_wp2_with fail
          refine bodyPost_ret (node_result rfl _ rfl (hb4.setAll _ _ _ _ _)) rfl ?_
          rw [HE2.out]
          refine ⟨(hst1.trans hs4).setAll GW _ _ _ _ _, _, rfl, ?_, k4, hk4, rfl, ?_⟩
          · rw [strJ, HTE.out]; exact node_plain _ _ _ _ _
          · exact ⟨(putN_block w4 G0 _ _ _ _ _ R (by omega)).trans hr4.blk⟩
      have HA4 := Lib.hid (HA3.out.trans (if_neg c4))
      have z4 : ((c.toNat : Int) == 34) = false := by rw [beq_eq_false_iff_ne]; exact fun e => c4 (byte_eq e)
      by_cases c5 : c = 91
      · have HE : Hid (O = lst false (tail s (k + 1))) := Lib.hid (HA4.out.trans (if_pos c5))
        have e' : (c.toNat : Int) = 91 := by rw [c5]; rfl
        clear c5 hcl
        (try rw [e'])
        go_wp2_with fail
        refine (HLIST.out false (k + 1) _ hr1 (by omega)).mono ?_
        intro e' w4 hLf
        obtain ⟨hs4, j, c0, c1, c2, c3, c4, rfl, hn4, hjk, hm4⟩ := hLf.on
        obtain ⟨x0, x1, x2, a3, l3, m3, a4, l4, m4, rfl, rfl, rfl, rfl, rfl⟩ := hn4.forms
        have hb4 := hb1.keep hs4 (by omega)
        have p0 := hb4.p0
        have p1 := hb4.p1
        have p2 := hb4.p2
        have p3 := hb4.p3
        have p4 := hb4.p4
        have f0 := hb4.free 0
        have f1 := hb4.free 1
        have f2 := hb4.free 2
        have f3 := hb4.free 3
        have f4 := hb4.free 4
        go_wp2_with fail
        refine bodyPost_ret (node_result rfl _ rfl (hb4.setAll _ _ _ _ _)) rfl ?_
        rw [HE.out]
        exact left_put hst1 (by rw [hs1]; exact hbl) GW hRl hs4 hn4 hjk hm4
      have HA5 := Lib.hid (HA4.out.trans (if_neg c5))
      have z5 : ((c.toNat : Int) == 91) = false := by rw [beq_eq_false_iff_ne]; exact fun e => c5 (byte_eq e)
      by_cases c6 : c = 123
      · have HE : Hid (O = lst true (tail s (k + 1))) := Lib.hid (HA5.out.trans (if_pos c6))
        have e' : (c.toNat : Int) = 123 := by rw [c6]; rfl
        clear c6 hcl
        (try rw [e'])
        go_wp2_with fail
        refine (HLIST.out true (k + 1) _ hr1 (by omega)).mono ?_
        intro e' w4 hLf
        obtain ⟨hs4, j, c0, c1, c2, c3, c4, rfl, hn4, hjk, hm4⟩ := hLf.on
        obtain ⟨x0, x1, x2, a3, l3, m3, a4, l4, m4, rfl, rfl, rfl, rfl, rfl⟩ := hn4.forms
        have hb4 := hb1.keep hs4 (by omega)
        have p0 := hb4.p0
        have p1 := hb4.p1
        have p2 := hb4.p2
        have p3 := hb4.p3
        have p4 := hb4.p4
        have f0 := hb4.free 0
        have f1 := hb4.free 1
        have f2 := hb4.free 2
        have f3 := hb4.free 3
        have f4 := hb4.free 4
        go_wp2_with fail
        refine bodyPost_ret (node_result rfl _ rfl (hb4.setAll _ _ _ _ _)) rfl ?_
        rw [HE.out]
        exact left_put hst1 (by rw [hs1]; exact hbl) GW hRl hs4 hn4 hjk hm4
      have HA6 := Lib.hid (HA5.out.trans (if_neg c6))
      have z6 : ((c.toNat : Int) == 123) = false := by rw [beq_eq_false_iff_ne]; exact fun e => c6 (byte_eq e)
      have HE : Hid (O = numberL (tail s k)) := HA6
      clear HA1 HA2 HA3 HA4 HA5 HA6 c1 c2 c3 c4 c5 c6 hcl HAT
      go_wp2_with fail
      refine (number_any R s k d W hr hs hk2).mono ?_
      intro e' w4 hLf
      obtain ⟨hs4, j, c0, c1, c2, c3, c4, rfl, hn4, hjk, hm4⟩ := hLf.on
      obtain ⟨x0, x1, x2, a3, l3, m3, a4, l4, m4, rfl, rfl, rfl, rfl, rfl⟩ := hn4.forms
      have hb4 := hb.keep hs4 (by omega)
      have p0 := hb4.p0
      have p1 := hb4.p1
      have p2 := hb4.p2
      have p3 := hb4.p3
      have p4 := hb4.p4
      have f0 := hb4.free 0
      have f1 := hb4.free 1
      have f2 := hb4.free 2
      have f3 := hb4.free 3
      have f4 := hb4.free 4
      go_wp2_with fail
      refine bodyPost_ret (node_result rfl _ rfl (hb4.setAll _ _ _ _ _)) rfl ?_
      rw [HE.out]
      exact left_put hst hbl GW hRl hs4 hn4 hjk hm4
end Go.Proofs.Ytpnffmimpkimeaa.J7
