/-
  The document's answer for package json: Parse, of any bytes. Conditions: none.
-/
import Derived.Test.YtpnffmimpkimeaaJ7RD
import Derived.Test.YtpnffmimpkimeaaJ7Awake
import Derived.StillTailTactics
namespace Go.Proofs.Ytpnffmimpkimeaa.J7
open Go Go.RowKit Go.Joins Kit

/-- What is said of a text, by the reading of a value at its beginning. -/
def topP : Out J → Except Nat J
  | .error e => .error e
  | .ok (j, r) => if skipL r = [] then .ok j else .error 3
theorem parse_top (num : List UInt8 → Out J) (l : List UInt8) (h : ¬ 65536 < l.length) : parseG num l = topP (valueG num 24 l) := by
  unfold parseG
  rw [if_neg h]
  cases valueG num 24 l with
  | error e => rfl
  | ok x => rfl
theorem rp_results (tmps : Array Value) {w : World} {N : Nat} {c0 c1 c2 c3 c4 : Value} {c : Int} (h2 : tmps.getD 2 undef = .pointer (some ⟨N, 0, none⟩)) (h3 : tmps.getD 3 undef = .int .i64 c)
    (hn : Bx N c0 c1 c2 c3 c4 w) : (results Try.f14 tmps).run Try.prog w = .ok (.tuple #[.agg #[c0, c1, c2, c3, c4], .int .i64 c]) w := by
  have h2' : tmps[2]?.getD undef = .pointer (some ⟨N, 0, none⟩) := by simpa using h2
  have h3' : tmps[3]?.getD undef = .int .i64 c := by simpa using h3
  have hl := run_loadVar_row (P := Try.prog) w N 27 27 _ _ _ hn.blk Try.underlying27 rfl (by kernel_rfl)
  simp [results, Try.results14, h2', h3', asAddr, hl]

set_option maxHeartbeats 4000000 in
set_option maxRecDepth 100000 in
theorem rparse_any (l : List UInt8) (v : Value) (w : World) (hb : BytesAt w v l) :
    Calls Try.prog 14 #[v] w fun e' w' => ParseLeft w (parseG numberL l) e' w' := by
  obtain ⟨N, hN⟩ : ∃ N, w.heap.size = N := ⟨_, rfl⟩
  obtain ⟨O, hO⟩ : ∃ O, parseG numberL l = O := ⟨_, rfl⟩
  rw [hO]
  obtain ⟨a, cap, hv⟩ := hb.form
  have hz0 := newZ_bx w
  rw [hN] at hz0
  have hbz : Below w.heap.size w (newZ w) := (Below.refl _ w).alloc (Nat.le_refl _) _
  have HBZ : Hid (∀ w2 : World, Below (newZ w).heap.size (newZ w) w2 → Below w.heap.size w w2) := Lib.hid (fun w2 h => hbz.trans (h.mono hbz.size))
  by_cases hg : 65536 < l.length
  · have hgi : (65537 : Int) ≤ (l.length : Int) := by omega
    have HE : Hid (O = .error 2) := by show O = _; rw [← hO]; unfold parseG; rw [if_pos hg]
    subst hv
    clear hO hb hg
    go_enter Try.func14, Try.ntmps14
    go_wp2_with fail
    (try rw [hN])
    (try go_wp2_with fail)
    refine bodyPost_ret (rp_results _ rfl rfl hz0) rfl ?_
    rw [HE.out]
    exact ⟨hbz, _, _, _, _, _, _, rfl, rfl, rfl⟩
  · have hgi : (l.length : Int) ≤ 65536 := by omega
    obtain ⟨o, ho⟩ : ∃ o, valueG numberL 24 l = o := ⟨_, rfl⟩
    have hOo : O = topP o := by rw [← hO, ← ho]; exact parse_top numberL l hg
    have HOo := Lib.hid hOo
    have hrun := (hb.below hbz).text
    obtain ⟨Wz, hWz⟩ : ∃ Wz, newZ w = Wz := ⟨_, rfl⟩
    have HWZ : Hid (w.alloc (Obj.cells #[Value.int IntKind.i64 0, Value.int IntKind.i64 0, Value.string { data := #[] }, Value.slice none 0 0, Value.slice none 0 0] 27) = Wz) := Lib.hid hWz
    have hzs := newZ_size w
    rw [hWz] at hrun hz0 HBZ hbz hzs
    obtain ⟨S, hS⟩ : ∃ S : ByteArray, ⟨l.toArray⟩ = S := ⟨_, rfl⟩
    rw [hS] at hrun
    have hSl : S.size = l.length := by rw [← hS, Lib.size_eq]
    have hs : S.size ≤ 65536 := by omega
    have ht0 : tail S 0 = l := by rw [← hS]; rfl
    obtain ⟨R, hR⟩ : ∃ R, Wz.heap.size = R := ⟨_, rfl⟩
    have hNR : N < R := by omega
    have hNw : w.heap.size ≤ N := by omega
    have hval : ∀ w1 : World, Rd R S 0 0 0 w1 → Calls Try.prog 24 #[.pointer (some ⟨R, 0, none⟩)] w1 fun e' w' => Left R S 0 w1 o e' w' := fun w1 h1 => by
      have := rval_all R S hs 24 (Nat.le_refl _) 0 w1 h1 (Nat.zero_le _)
      rw [ht0, ho] at this
      exact this
    obtain ⟨W1, hW1⟩ : ∃ W1, Wz.alloc (.cells #[.string S, .int .i64 0, .int .i64 0, .int .i64 0] 55) = W1 := ⟨_, rfl⟩
    have hr1 : Rd R S 0 0 0 W1 := ⟨by rw [← hW1, ← hR]; exact Kit.fresh_block _ _ _⟩
    have hb1 : Below Wz.heap.size Wz W1 := by rw [← hW1]; exact (Below.refl _ _).alloc (Nat.le_refl _) _
    have hz1 := hz0.same (hb1.block N hz0.lt)
    have hRl := hr1.lt
    have HW1 := Lib.hid hW1
    have HVAL := Lib.hid hval
    have HRE := Lib.hid hR
    subst hv
    clear hO hb hg hOo hS hSl ht0 hval hW1 ho hz0 hWz hzs hbz
    go_enter Try.func14, Try.ntmps14
    go_upto_region 1 with fail
    rw [HWZ.out]
    (try rw [hN])
    clear hR
    go_upto_region 4 with fail
    rw [HW1.out]
    (try rw [HRE.out])
    go_wp2_with fail
    refine (HVAL.out W1 hr1).mono ?_
    intro e' w2 hLf
    obtain ⟨hs2, j, c0, c1, cs2, c3, c4, rfl, hn2, hjk, hm2⟩ := hLf.on
    obtain ⟨x0, x1, x2, a3, l3, m3, a4, l4, m4, rfl, rfl, rfl, rfl, rfl⟩ := hn2.forms
    obtain ⟨w3, hw3⟩ : ∃ w3, w2.alloc (.cells #[.int .i64 x0, .int .i64 x1, .string x2, .slice a3 l3 m3, .slice a4 l4 m4] 27) = w3 := ⟨_, rfl⟩
    have hb23 : Below w2.heap.size w2 w3 := by rw [← hw3]; exact (Below.refl _ w2).alloc (Nat.le_refl _) _
    have hst3 : Step R W1 w3 := hs2.trans (Step.of_below hb23)
    have hA : Bx w2.heap.size (.int .i64 x0) (.int .i64 x1) (.string x2) (.slice a3 l3 m3) (.slice a4 l4 m4) w3 := by rw [← hw3]; exact Bx.made w2 _ _ _ _ _
    have hz3 := hz1.keep hst3 (by omega)
    have hn3 := hn2.keep (kept_below hb23)
    have hrm : ∀ i e : Int, Rd R S i 0 e w2 → Rd R S i 0 e w3 := fun i e h => ⟨by rw [hb23.block R h.lt]; exact h.blk⟩
    have h2R : R < w2.heap.size := by have := hs2.size; omega
    have HW3 := Lib.hid hw3
    obtain ⟨Gm, hGm⟩ : ∃ Gm, w2.heap.size = Gm := ⟨_, rfl⟩
    rw [hGm] at hA h2R
    clear hw3
    cases o with
    | error c =>
      obtain ⟨hc0, k, hk, hr2⟩ := hm2
      have hr3 := hrm _ _ hr2
      have HE : Hid (O = .error c) := HOo
      have gc : ((c : Int) != 0) = true := by rw [bne_iff_ne]; omega
      have gc0 : ((c : Int) == 0) = false := by rw [beq_eq_false_iff_ne]; omega
      clear hLf hn2 hn3 hjk hrm hr2 hs2
      go_upto_region 5 with fail
      rw [HW3.out]
      (try rw [hGm])
      go_wp2_with fail
      refine (blanks_any R S k 0 (c : Int) w3 hr3 hs hk).mono ?_
      rintro e' w4 ⟨rfl, k4, hk41, hk42, hk4, hr4, hs4⟩
      have hst4 := hst3.trans hs4
      have hz4 := hz3.keep hs4 (by omega)
      have h0 := hr4.c0
      have h1 := hr4.c1
      have h3 := hr4.c3
      rcases Nat.lt_or_ge k4 S.size with hl | hl
      · have gl : (k4 : Int) < S.size := by omega
        go_wp2_with fail
        go_quiet (fail)
        go_wp2_with fail
        refine (fail_any R S (k4 : Int) 0 (c : Int) 3 _ (hr4.drewN _)).mono ?_
        rintro e' w6 ⟨rfl, hr6, hs6⟩
        rw [if_neg (by omega)] at hr6
        have hst6 := (hst4.drewN _).trans hs6
        have hz6 := (hz4.drewN _).keep hs6 (by omega)
        have hb6 : Below Wz.heap.size Wz w6 := hst6.below hb1 (by rw [HRE.out]; exact Nat.le_refl _)
        have y3 := hr6.c3
        have q0 := hz6.p0
        have q1 := hz6.p1
        have q2 := hz6.p2
        have q3 := hz6.p3
        have q4 := hz6.p4
        have f0 := hz6.free 0
        have f1 := hz6.free 1
        have f2 := hz6.free 2
        have f3 := hz6.free 3
        have f4 := hz6.free 4
        go_wp2_with fail
        go_region_with (fail)
        all_goals
          go_wp2_with fail
          refine bodyPost_ret (rp_results _ rfl rfl (hz6.setAll _ _ _ _ _).drew) rfl ?_
          rw [HE.out]
          exact ⟨(below_putN (HBZ.out _ hb6) hNw _ _ _ _ _).drew, _, _, _, _, _, _, rfl, rfl, rfl⟩
      · have gl : decide (k4 < S.size) = false := by rw [decide_eq_false_iff_not]; omega
        have gli : decide ((k4 : Int) < (S.size : Int)) = false := by rw [decide_eq_false_iff_not]; omega
        go_wp2_with fail
        go_quiet (fail)
        go_upto_region 8 with fail
        have hr6 := hr4.drewN nq
        have hst6 := hst4.drewN nq
        have hz6 := hz4.drewN nq
        have hb6 : Below Wz.heap.size Wz (w4.drewN nq) := hst6.below hb1 (by rw [HRE.out]; exact Nat.le_refl _)
        obtain ⟨w6, hw6⟩ : ∃ w6, w4.drewN nq = w6 := ⟨_, rfl⟩
        rw [hw6] at hr6 hst6 hz6 hb6 ⊢
        clear hw6 h0 h1 h3
        have y3 := hr6.c3
        have q0 := hz6.p0
        have q1 := hz6.p1
        have q2 := hz6.p2
        have q3 := hz6.p3
        have q4 := hz6.p4
        have f0 := hz6.free 0
        have f1 := hz6.free 1
        have f2 := hz6.free 2
        have f3 := hz6.free 3
        have f4 := hz6.free 4
        go_wp2_with fail
        go_region_with (fail)
        all_goals
          go_wp2_with fail
          refine bodyPost_ret (rp_results _ rfl rfl (hz6.setAll _ _ _ _ _).drew) rfl ?_
          rw [HE.out]
          exact ⟨(below_putN (HBZ.out _ hb6) hNw _ _ _ _ _).drew, _, _, _, _, _, _, rfl, rfl, rfl⟩
    | ok x =>
      obtain ⟨jx, r⟩ := x
      obtain ⟨k, hk, hkr, hr2⟩ := hm2
      obtain rfl := hjk jx r rfl
      subst hkr
      have hr3 := hrm _ _ hr2
      have HT : Hid (O = if skipL (tail S k) = [] then .ok j else .error 3) := HOo
      clear hLf hn2 hjk hrm hr2 hs2
      go_upto_region 5 with fail
      rw [HW3.out]
      (try rw [hGm])
      go_wp2_with fail
      refine (blanks_any R S k 0 0 w3 hr3 hs hk).mono ?_
      rintro e' w4 ⟨rfl, k4, hk41, hk42, hk4, hr4, hs4⟩
      have hst4 := hst3.trans hs4
      have hz4 := hz3.keep hs4 (by omega)
      have h0 := hr4.c0
      have h1 := hr4.c1
      have h3 := hr4.c3
      rcases Nat.lt_or_ge k4 S.size with hl | hl
      · have HE : Hid (O = .error 3) := by show O = _; rw [HT.out, hk4, if_neg (by rw [tail_cons hl]; intro h; cases h)]
        have gl : (k4 : Int) < S.size := by omega
        clear HT hk4 hn3
        go_wp2_with fail
        go_quiet (fail)
        go_wp2_with fail
        refine (fail_any R S (k4 : Int) 0 0 3 _ (hr4.drewN _)).mono ?_
        rintro e' w6 ⟨rfl, hr6, hs6⟩
        have hr6 : Rd R S (k4 : Int) 0 ((3 : Nat) : Int) w6 := by simpa using hr6
        have hst6 := (hst4.drewN _).trans hs6
        have hz6 := (hz4.drewN _).keep hs6 (by omega)
        have hb6 : Below Wz.heap.size Wz w6 := hst6.below hb1 (by rw [HRE.out]; exact Nat.le_refl _)
        have y3 := hr6.c3
        have q0 := hz6.p0
        have q1 := hz6.p1
        have q2 := hz6.p2
        have q3 := hz6.p3
        have q4 := hz6.p4
        have f0 := hz6.free 0
        have f1 := hz6.free 1
        have f2 := hz6.free 2
        have f3 := hz6.free 3
        have f4 := hz6.free 4
        go_wp2_with fail
        go_region_with (fail)
        all_goals
          go_wp2_with fail
          refine bodyPost_ret (rp_results _ rfl rfl (hz6.setAll _ _ _ _ _).drew) rfl ?_
          rw [HE.out]
          exact ⟨(below_putN (HBZ.out _ hb6) hNw _ _ _ _ _).drew, _, _, _, _, _, _, rfl, rfl, rfl⟩
      · have HE : Hid (O = .ok j) := by show O = _; rw [HT.out, hk4, if_pos (tail_end hl)]
        have gl : decide (k4 < S.size) = false := by rw [decide_eq_false_iff_not]; omega
        have gli : decide ((k4 : Int) < (S.size : Int)) = false := by rw [decide_eq_false_iff_not]; omega
        have hA4 := hA.keep hs4 (by omega)
        have hW1R : R < W1.heap.size := hRl
        have hn4 : NodeAt (fun g => W1.heap.size ≤ g) w4 j (.agg #[.int .i64 x0, .int .i64 x1, .string x2, .slice a3 l3 m3, .slice a4 l4 m4]) := hn3.keep (fun g hg hl => ⟨hg, hs4.block g hl (by have hg : W1.heap.size ≤ g := hg; omega)⟩)
        clear HT hk4 hn3
        go_wp2_with fail
        go_quiet (fail)
        go_upto_region 8 with fail
        have hr6 := hr4.drewN nq
        have hst6 := hst4.drewN nq
        have hz6 := hz4.drewN nq
        have hA6 := hA4.drewN nq
        have hn6 : NodeAt (fun g => W1.heap.size ≤ g) (w4.drewN nq) j (.agg #[.int .i64 x0, .int .i64 x1, .string x2, .slice a3 l3 m3, .slice a4 l4 m4]) := NodeAt.keep (P := fun g => W1.heap.size ≤ g) (P' := fun g => W1.heap.size ≤ g) (w := w4) (w' := w4.drewN nq) (fun g hg _ => ⟨hg, rfl⟩) hn4
        have hb6 : Below Wz.heap.size Wz (w4.drewN nq) := hst6.below hb1 (by rw [HRE.out]; exact Nat.le_refl _)
        obtain ⟨w6, hw6⟩ : ∃ w6, w4.drewN nq = w6 := ⟨_, rfl⟩
        rw [hw6] at hr6 hst6 hz6 hb6 hA6 hn6 ⊢
        clear hw6 h0 h1 h3
        have y3 := hr6.c3
        have p0 := hA6.p0
        have p1 := hA6.p1
        have p2 := hA6.p2
        have p3 := hA6.p3
        have p4 := hA6.p4
        have q0 := hz6.p0
        have q1 := hz6.p1
        have q2 := hz6.p2
        have q3 := hz6.p3
        have q4 := hz6.p4
        have f0 := hz6.free 0
        have f1 := hz6.free 1
        have f2 := hz6.free 2
        have f3 := hz6.free 3
        have f4 := hz6.free 4
        go_wp2_with fail
        refine bodyPost_ret (rp_results _ rfl rfl (hz6.setAll _ _ _ _ _)) rfl ?_
        rw [HE.out]
        refine ⟨below_putN (HBZ.out _ hb6) hNw _ _ _ _ _, _, _, _, _, _, _, rfl, rfl, ?_⟩
        exact hn6.keep (fun g hg hl => ⟨by have hg : W1.heap.size ≤ g := hg; show w.heap.size ≤ g; omega, (putN_block w6 N _ _ _ _ _ g (by have hg : W1.heap.size ≤ g := hg; omega))⟩)
end Go.Proofs.Ytpnffmimpkimeaa.J7
