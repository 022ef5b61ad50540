/-
  The reader of the document's answer for package json: arrays and objects that may stand there. Conditions: the text has at most 65536 bytes.
-/
import Derived.Test.YtpnffmimpkimeaaJ7Ls
import Derived.Deep.CutRange
namespace Go.Proofs.Ytpnffmimpkimeaa.J7
open Go Go.RowKit Go.Joins Kit

theorem set0_bx {G : Nat} {c0 c1 c2 c3 c4 : Value} {w : World} (h : Bx G c0 c1 c2 c3 c4 w) (k : Int) : Bx G (.int .i64 k) c1 c2 c3 c4 (w.setCell ⟨G, 0, none⟩ (.int .i64 k)) := ⟨by
  have := h.blk
  simp [World.setCell, Array.getElem?_modify, this]⟩

set_option maxHeartbeats 16000000 in
set_option maxRecDepth 100000 in
theorem rlist_any (R : Nat) (s : ByteArray) (i : Nat) (d : Int) (w : World) (obj : Bool) (val : List UInt8 → Out J) (hs : s.size ≤ 65536) (hi : i ≤ s.size) (d0 : 0 ≤ d) (d1 : d ≤ 23)
    (hval : ∀ (q : Nat) (w : World), Rd R s (q : Int) (d + 1) 0 w → q ≤ s.size → Calls Try.prog 24 #[.pointer (some ⟨R, 0, none⟩)] w fun e' w' => Left R s (d + 1) w (val (tail s q)) e' w')
    (hoff : ∀ (q c : Nat) (w : World), c ≠ 0 → Rd R s (q : Int) (d + 1) (c : Int) w → q ≤ s.size → Calls Try.prog 24 #[.pointer (some ⟨R, 0, none⟩)] w fun e' w' => Left R s (d + 1) w (.error c) e' w')
    (hsuf : ∀ l j r, val l = .ok (j, r) → r <:+ l) (h : Rd R s (i : Int) d 0 w) :
    Calls Try.prog 37 #[.pointer (some ⟨R, 0, none⟩), .bool obj] w fun e' w' => Left R s d w (listG val obj (tail s i)) e' w' := by
  have hsz : (s.size : Int) ≤ 65536 := by omega
  have hRl := h.lt
  have HVAL := Lib.hid hval
  have HOFF := Lib.hid hoff
  have HSUF := Lib.hid hsuf
  obtain ⟨O, hO⟩ : ∃ O, listG val obj (tail s i) = O := ⟨_, rfl⟩
  rw [hO]
  unfold listG at hO
  have HO := Lib.hid hO
  obtain ⟨G0, hG0⟩ : ∃ G, w.heap.size = G := ⟨_, rfl⟩
  obtain ⟨G1, hG1⟩ : ∃ G, G0 + 1 = G := ⟨_, rfl⟩
  obtain ⟨B, hB⟩ : ∃ B, G1 + 1 = B := ⟨_, rfl⟩
  have hd24 : decide ((24 : Int) ≤ d) = false := by rw [decide_eq_false_iff_not]; omega
  have hdd : d + 1 - 1 = d := by omega
  clear hO hval hoff hsuf
  go_enter Try.func37, Try.ntmps37
  go_upto_if 10 with fail
  go_cut [6] from 10 to 11 (fun x wx => ∃ W : World, x = .int .u8 ((endO obj).toNat : Int) ∧ Rd R s (i : Int) d 0 W ∧ Ls R w B G0 G1 (kindO obj) [] [] (.slice none 0 0) (.slice none 0 0) W ∧ W = wx)
  case first =>
    have z1 : ∀ K, Bx G0 (.int .i64 0) (.int .i64 0) (.string { data := #[] }) (.slice none 0 0) (.slice none 0 0) (newN (newZ w) K) := fun K => by rw [← hG0]; exact (newZ_bx w).same (newN_block _ _ _ (by rw [newZ_size]; omega))
    have z2 : ∀ K, Bx G1 (.int .i64 K) (.int .i64 0) (.string { data := #[] }) (.slice none 0 0) (.slice none 0 0) (newN (newZ w) K) := fun K => by have := newN_bx (newZ w) K; rw [newZ_size, hG0, hG1] at this; exact this
    have z3 : ∀ K, Rd R s (i : Int) d 0 (newN (newZ w) K) := fun K => (h.alloc _).alloc _
    have z4 : ∀ K, Step R w (newN (newZ w) K) := fun K => newN_step (newZ_step (Step.refl R w)) K
    have z5 : ∀ K, (newN (newZ w) K).heap.size = B := fun K => by rw [newN_size, newZ_size]; omega
    have hfin : ∀ K, Ls R w B G0 G1 K [] [] (.slice none 0 0) (.slice none 0 0) (newN (newZ w) K) := fun K => ⟨hRl, by omega, by omega, by omega, z4 K, by rw [z5 K]; exact Nat.le_refl _, z1 K, z2 K, World.ownsRow_nil _ _ _ _, kids_empty _ _ _⟩
    have HFIN := Lib.hid hfin
    have Z3 := Lib.hid z3
    clear z1 z2 z3 z4 z5 hfin
    cases obj with
    | false =>
      clear HO
      go_wp2_with fail
      go_meet
      exact ⟨_, rfl, Z3.out 6, HFIN.out 6, rfl⟩
    | true =>
      clear HO
      go_wp2_with fail
      (try rw [hG0])
      (try rw [hG1])
      go_wp2_with fail
      go_meet
      exact ⟨_, rfl, Z3.out 7, HFIN.out 7, rfl⟩
  case rest =>
    obtain ⟨W, rfl, hr, hL, rfl⟩ := hcut
    (try rw [hG0])
    (try rw [hG1])
    have c2 := hr.c2
    have c2f := hr.free 2
    have hr1 := hr.set2 (d + 1)
    have hL1 := hL.step ((Step.refl R W).set 2 (.int .i64 (d + 1)))
    clear hr hL h hG0 hG1 hB
    go_wp2_with fail
    refine (blanks_any R s i (d + 1) 0 _ hr1 hs hi).mono ?_
    rintro e' w2 ⟨rfl, k, hk1, hk2, hk, hr2, hs2⟩
    have hL2 := hL1.step hs2
    have hO1 := HO.out
    rw [hk] at hO1
    have HO1 := Lib.hid hO1
    clear hr1 hL1 hO1 HO hk c2 c2f hs2
    cases hc : eatL (endO obj) (tail s k) with
    | some r1 =>
      obtain ⟨hkl, -, hre⟩ := eat_place hc
      subst hre
      have HC := Lib.hid hc
      have HE : Hid (O = .ok (listJ obj [] [], tail s (k + 1))) := by show O = _; rw [← HO1.out, hc]
      clear hc HO1
      go_wp2_with fail
      refine (is_yes R s k (d + 1) (endO obj) w2 _ hr2 hs HC.out).mono ?_
      rintro e' w3 ⟨rfl, hr3, hs3⟩
      have hL3 := hL2.step hs3
      have hLx := hL3.step ((Step.refl R _).set 2 (.int .i64 d))
      have hrx := hr3.set2 d
      have x2 := hr3.c2
      have x2f := hr3.free 2
      have p0 := hLx.b1.p0
      have p1 := hLx.b1.p1
      have p2 := hLx.b1.p2
      have p3 := hLx.b1.p3
      have p4 := hLx.b1.p4
      have r0 := hLx.b0.p0
      have r1 := hLx.b0.p1
      have r2 := hLx.b0.p2
      have r3 := hLx.b0.p3
      have r4 := hLx.b0.p4
      have f0 := hLx.b0.free 0
      have f1 := hLx.b0.free 1
      have f2 := hLx.b0.free 2
      have f3 := hLx.b0.free 3
      have f4 := hLx.b0.free 4
      go_wp2_with fail
      refine bodyPost_ret (node_result rfl _ rfl (hLx.b0.setAll _ _ _ _ _)) rfl ?_
      obtain ⟨y1, y2, y3⟩ := hLx.done
      refine ⟨y1, _, rfl, ?_⟩
      rw [HE.out]
      exact ⟨y2, k + 1, by omega, rfl, y3 _ _ _ _ hrx⟩
    | none =>
      have HC := Lib.hid hc
      have HQ : Hid (itemsG val obj ((tail s i).length + 1) [] [] (tail s k) = O ∧ s.size - k < (tail s i).length + 1) := by show _ ∧ _; rw [← HO1.out, hc]; exact ⟨rfl, by rw [tail_length]; omega⟩
      obtain ⟨F, hF⟩ : ∃ F, (tail s i).length + 1 = F := ⟨_, rfl⟩
      rw [hF] at HQ
      clear hc HO1 hF
      go_wp2_with fail
      refine (is_no R s k (d + 1) (endO obj) w2 hr2 hs HC.out).mono ?_
      rintro e' w3 ⟨rfl, hr3, hs3⟩
      have hL3 := hL2.step hs3
      clear hr2 hL2 hs3 HC
      go_wp2_with fail
      go_loopg [] (s.size - k + 1) (fun m wr => ∃ (keys : List ByteArray) (kids : List J) (kv v : Value), Ls R w B G0 G1 (kindO obj) keys kids kv v wr ∧ ((∃ q f : Nat, m = s.size - q + 1 ∧ q ≤ s.size ∧ keys.length ≤ q ∧ kids.length ≤ q ∧ Hid (itemsG val obj f keys kids (tail s q) = O ∧ s.size - q < f) ∧ Rd R s (q : Int) (d + 1) 0 wr) ∨ (∃ q c : Nat, m = 0 ∧ q ≤ s.size ∧ c ≠ 0 ∧ Hid (O = .error c) ∧ Rd R s (q : Int) (d + 1) (c : Int) wr)))
      case atStart => exact ⟨[], [], _, _, hL3, Or.inl ⟨k, F, rfl, hk2, Nat.zero_le _, Nat.zero_le _, HQ, hr3⟩⟩
      case round =>
        clear hL3 hr3 HQ hk1 hk2 hi
        obtain ⟨keys, kids, kv, v, hL, hor⟩ := hrel
        rcases hor with ⟨q, f, hm, hq, hkl, hvl, HQ, hr⟩ | ⟨q, c, hm, hq, hc0, HE, hr⟩
        rotate_left 1
        · have h3 := hr.c3
          have gc : ((c : Int) == 0) = false := by rw [beq_eq_false_iff_ne]; omega
          obtain ⟨xo, xc, rfl⟩ := own_form hL.ky
          obtain ⟨zo, zc, rfl⟩ := hL.kd.form
          have hLx := hL.step ((Step.refl R _).set 2 (.int .i64 d))
          have hrx := hr.set2 d
          have x2 := hr.c2
          have x2f := hr.free 2
          have p0 := hLx.b1.p0
          have p1 := hLx.b1.p1
          have p2 := hLx.b1.p2
          have p3 := hLx.b1.p3
          have p4 := hLx.b1.p4
          have r0 := hLx.b0.p0
          have r1 := hLx.b0.p1
          have r2 := hLx.b0.p2
          have r3 := hLx.b0.p3
          have r4 := hLx.b0.p4
          have f0 := hLx.b0.free 0
          have f1 := hLx.b0.free 1
          have f2 := hLx.b0.free 2
          have f3 := hLx.b0.free 3
          have f4 := hLx.b0.free 4
          go_wp2_with fail
          refine bodyPost_ret (node_result rfl _ rfl (hLx.b0.setAll _ _ _ _ _)) rfl ?_
          obtain ⟨y1, y2, y3⟩ := hLx.done
          refine ⟨y1, _, rfl, ?_⟩
          rw [HE.out]
          exact ⟨⟨_, y2⟩, hc0, q, hq, y3 _ _ _ _ hrx⟩
        · subst hm
          obtain ⟨f, rfl⟩ : ∃ g, f = g + 1 := ⟨f - 1, by have := HQ.out.2; omega⟩
          have HQF : Hid (s.size - q < f + 1) := Lib.hid HQ.out.2
          have h3 := hr.c3
          go_upto_if 45 with fail
          go_cut [7, 8] from 45 to 107 (fun x y wx => ∃ (W : World) (ks : List ByteArray) (kv1 : Value) (st1 : Except Nat (List UInt8)), Ls R w B G0 G1 (kindO obj) ks kids kv1 v W ∧ ks.length ≤ q + 1 ∧ Hid (onS (bodyI val obj f ks kids) st1 = O) ∧ St R s (d + 1) q st1 W ∧ W = wx)
          case first =>
            clear h3
            cases obj with
            | false =>
              have HB : Hid (onS (bodyI val false f keys kids) (.ok (tail s q)) = O) := by show bodyI val false f keys kids (tail s q) = O; rw [← items_false]; exact HQ.out.1
              clear HQ
              go_wp2_with fail
              go_meet
              exact ⟨_, keys, kv, .ok (tail s q), hL, by omega, HB, ⟨q, Nat.le_refl _, hq, rfl, hr⟩, rfl⟩
            | true =>
              have HI := Lib.hid ((items_true val f keys kids (tail s q)).symm.trans HQ.out.1)
              clear HQ
              go_wp2_with fail
              refine (blanks_any R s q (d + 1) 0 wr hr hs hq).mono ?_
              rintro e' w2 ⟨rfl, k1, hk1, hk2, hk, hr2, hs2⟩
              have hL2 := hL.step hs2
              have HK := Lib.hid hk
              clear hr hL hs2 hk
              cases e1 : eatL 34 (tail s k1) with
              | none =>
                have HE : Hid (O = .error 3) := by show O = _; rw [← HI.out, key_none (by rw [HK.out]; exact e1)]
                have E1 := Lib.hid e1
                clear e1 HI HK
                go_wp2_with fail
                refine (is_no R s k1 (d + 1) 34 w2 hr2 hs E1.out).mono ?_
                rintro e' w3 ⟨rfl, hr3, hs3⟩
                go_wp2_with fail
                refine (fail_any R s k1 (d + 1) 0 3 w3 hr3).mono ?_
                rintro e' w4 ⟨rfl, hr4, hs4⟩
                have hL4 := (hL2.step hs3).step hs4
                have hr4 : Rd R s (k1 : Int) (d + 1) ((3 : Nat) : Int) w4 := by simpa using hr4
                clear hr2 hr3 hs3 hs4 hL2
                obtain ⟨xo, xc, rfl⟩ := own_form hL4.ky
                obtain ⟨zo, zc, rfl⟩ := hL4.kd.form
                have hLx := hL4.step ((Step.refl R _).set 2 (.int .i64 d))
                have hrx := hr4.set2 d
                have x2 := hr4.c2
                have x2f := hr4.free 2
                have p0 := hLx.b1.p0
                have p1 := hLx.b1.p1
                have p2 := hLx.b1.p2
                have p3 := hLx.b1.p3
                have p4 := hLx.b1.p4
                have r0 := hLx.b0.p0
                have r1 := hLx.b0.p1
                have r2 := hLx.b0.p2
                have r3 := hLx.b0.p3
                have r4 := hLx.b0.p4
                have f0 := hLx.b0.free 0
                have f1 := hLx.b0.free 1
                have f2 := hLx.b0.free 2
                have f3 := hLx.b0.free 3
                have f4 := hLx.b0.free 4
                go_wp2_with fail
                refine bodyPost_ret (node_result rfl _ rfl (hLx.b0.setAll _ _ _ _ _)) rfl ?_
                obtain ⟨y1, y2, y3⟩ := hLx.done
                refine ⟨y1, _, rfl, ?_⟩
                rw [HE.out]
                exact ⟨⟨_, y2⟩, by decide, k1, hk2, y3 _ _ _ _ hrx⟩
              | some r1 =>
                obtain ⟨hkl1, -, hre⟩ := eat_place e1
                subst hre
                have E1 := Lib.hid e1
                have ht := fun w0 h0 => rtext_any R s (k1 + 1) (d + 1) w0 h0 hs (by omega)
                cases e2 : textL (tail s (k1 + 1)) with
                | error er =>
                  have hO3 : O = .error er := by rw [← HI.out, key_err (by rw [HK.out]; exact e1) e2]
                  have HO3 := Lib.hid hO3
                  rw [e2] at ht
                  clear e1 e2 HI HK hO3
                  go_wp2_with fail
                  refine (is_yes R s k1 (d + 1) 34 w2 _ hr2 hs E1.out).mono ?_
                  rintro e' w3 ⟨rfl, hr3, hs3⟩
                  go_wp2_with fail
                  refine (ht w3 hr3).mono ?_
                  rintro e' w4 ⟨hs4, T, rfl, rfl, hT, k4, hk4, hr4⟩
                  have hL4 := (hL2.step hs3).step hs4
                  have HE : Hid (O = .error 3) := HO3
                  clear ht hr2 hr3 hs3 hs4 hL2 HO3
                  go_wp2_with fail
                  go_loopg [8] 0 (fun m x w5 => m = 0 ∧ x = .int .i64 0 ∧ Rd R s (k4 : Int) (d + 1) ((3 : Nat) : Int) w5 ∧ Ls R w B G0 G1 (kindO true) keys kids kv v w5)
                  case atStart => exact ⟨rfl, rfl, hr4, hL4⟩
                  case round =>
                    clear hr4 hL4
                    obtain ⟨-, rfl, hr5, hL5⟩ := hrel
                    obtain ⟨ao, cp, rfl⟩ := own_form hL5.ky
                    have y3 := hL5.b1.p3
                    have h3 := hr5.c3
                    rcases (show decide ((0 : Int) < (keys.length : Int)) = false ∧ decide (0 < keys.length) = false ∨ (0 : Int) < (keys.length : Int) ∧ 0 < keys.length by rcases Nat.eq_zero_or_pos keys.length with e | e; (left; rw [e]; exact ⟨rfl, rfl⟩); (right; exact ⟨by omega, e⟩)) with ⟨ga, gb⟩ | ⟨ga, gb⟩
                    all_goals
                      have hkyA := hL5.ky.alloc (Obj.cells #[.string T] 9)
                      have hle5 := hL5.le
                      go_wp2_with (at_builtin; refine key_list rfl _ _ rfl B _ _ keys hkyA T wr.heap.size _ (0, 0) (Kit.fresh_block wr _ _) rfl rfl (by omega) (by simp; omega) ?_)
                      intro g6 c6 w6 hk6 hg6 hat6
                      obtain ⟨hL7, hb7, hrd7⟩ := hL5.key (kb := T) (by rw [List.length_append, List.length_singleton]; exact hk6) hg6 (hat6.imp id (fun e => by simpa using e))
                      have y4 := hb7.p3
                      have y5 := hb7.free 3
                      have hr7 := hrd7 _ _ _ _ hr5
                      clear hkyA hk6 hg6 hat6 hrd7
                      go_wp2_with fail
                      refine (blanks_any R s k4 (d + 1) ((3 : Nat) : Int) _ hr7 hs hk4).mono ?_
                      rintro e' w8 ⟨rfl, k8, hk81, hk82, hk8, hr8, hs8⟩
                      have hL8 := hL7.step hs8
                      go_wp2_with fail
                      refine (is_off R s (k8 : Int) (d + 1) ((3 : Nat) : Int) 58 w8 hr8 (by decide)).mono ?_
                      rintro e' w9 ⟨rfl, hr9, hs9⟩
                      go_wp2_with fail
                      refine (fail_any R s (k8 : Int) (d + 1) ((3 : Nat) : Int) 3 w9 hr9).mono ?_
                      rintro e' w10 ⟨rfl, hr10, hs10⟩
                      have hL10 := (hL8.step hs9).step hs10
                      have hr10 : Rd R s (k8 : Int) (d + 1) ((3 : Nat) : Int) w10 := hr10
                      go_wp2_with fail
                      go_meet
                      exact ⟨_, _, _, .error 3, hL10, by rw [List.length_append, List.length_singleton]; omega, Lib.hid HE.out.symm, ⟨by decide, k8, hk82, hr10⟩, rfl⟩
                | ok x =>
                  obtain ⟨t, r2⟩ := x
                  have h5 : ∀ b, hasB keys t = b → Hid (O = if b then .error 5 else (match colonL (keys ++ [⟨t.toArray⟩]) r2 with | .error e => (.error e : Out J) | .ok (ks, l1) => bodyI val true f ks kids l1)) := fun b hb => by
                    show O = _
                    cases b with
                    | true => rw [← HI.out, key_dup (by rw [HK.out]; exact e1) e2 hb]; rfl
                    | false => rw [← HI.out, key_colon (by rw [HK.out]; exact e1) e2 hb]; rfl
                  have H5 := Lib.hid h5
                  have hsf := (text_suffix e2).1.length_le
                  rw [e2] at ht
                  clear e1 e2 HI HK h5
                  go_wp2_with fail
                  refine (is_yes R s k1 (d + 1) 34 w2 _ hr2 hs E1.out).mono ?_
                  rintro e' w3 ⟨rfl, hr3, hs3⟩
                  go_wp2_with fail
                  refine (ht w3 hr3).mono ?_
                  rintro e' w4 ⟨hs4, T, rfl, hT, k4, hk4, rfl, hr4⟩
                  rw [tail_length, tail_length] at hsf
                  have hkq4 : q ≤ k4 := by omega
                  have hL4 := (hL2.step hs3).step hs4
                  have hTe : (⟨t.toArray⟩ : ByteArray) = T := bytes_ext (by rw [hT])
                  have H6 : Hid ((hasB keys T.data.toList = true → O = .error 5) ∧ (hasB keys T.data.toList = false → (match colonL (keys ++ [T]) (tail s k4) with | .error e => (.error e : Out J) | .ok (ks, l1) => bodyI val true f ks kids l1) = O)) := by
                    show _ ∧ _
                    rw [hT]
                    exact ⟨fun hb => (H5.out true hb).out, fun hb => by have := (H5.out false hb).out; rw [hTe] at this; exact this.symm⟩
                  clear ht hr2 hr3 hs3 hs4 hL2 H5 hT hTe hsf
                  go_wp2_with fail
                  go_loopg [8] (keys.length + 1) (fun m x w5 => ∃ i2 : Nat, x = .int .i64 i2 ∧ i2 ≤ keys.length ∧ Ls R w B G0 G1 (kindO true) keys kids kv v w5 ∧ ((m = keys.length - i2 + 1 ∧ Hid (∀ z (hz : z < keys.length), z < i2 → keys[z] ≠ T) ∧ Rd R s (k4 : Int) (d + 1) 0 w5) ∨ (m = 0 ∧ Hid (hasB keys T.data.toList = true) ∧ Rd R s (k4 : Int) (d + 1) ((5 : Nat) : Int) w5)))
                  case atStart => exact ⟨0, rfl, Nat.zero_le _, hL4, Or.inl ⟨rfl, Lib.hid (fun z hz h => absurd h (Nat.not_lt_zero z)), hr4⟩⟩
                  case round =>
                    clear hr4 hL4
                    obtain ⟨i2, rfl, hi2, hL5, hor⟩ := hrel
                    obtain ⟨ao, cp, rfl⟩ := own_form hL5.ky
                    have y3 := hL5.b1.p3
                    rcases hor with ⟨hm, HNE, hr5⟩ | ⟨hm, HHAS, hr5⟩
                    · subst hm
                      have h3 := hr5.c3
                      by_cases hlt : i2 < keys.length
                      · obtain ⟨g8, o8, c8, hv8, t8⟩ := hL5.key_at i2 hlt
                        have gi : (i2 : Int) < (keys.length : Int) := by omega
                        rw [hv8] at y3
                        obtain ⟨kx, hkx⟩ : ∃ kx, keys[i2] = kx := ⟨_, rfl⟩
                        rw [hkx] at t8
                        by_cases heq : kx = T
                        · have gt := text_eq heq
                          have HH := Lib.hid (has_old hlt (hkx.trans heq))
                          clear heq hkx HNE
                          go_wp2_with fail
                          refine (fail_any R s (k4 : Int) (d + 1) 0 5 wr hr5).mono ?_
                          rintro e' w6 ⟨rfl, hr6, hs6⟩
                          have hL6 := hL5.step hs6
                          have hr6 : Rd R s (k4 : Int) (d + 1) ((5 : Nat) : Int) w6 := by simpa using hr6
                          go_wp2_with fail
                          go_roundg 0
                          case measure => omega
                          case rel => exact ⟨i2 + 1, by go_num, by omega, hL6, Or.inr ⟨rfl, HH, hr6⟩⟩
                        · have gt := text_ne heq
                          have HN2 : Hid (∀ z (hz : z < keys.length), z < i2 + 1 → keys[z] ≠ T) := Lib.hid (fun z hz hlt2 => by
                            rcases Nat.lt_or_ge z i2 with h | h
                            · exact HNE.out z hz h
                            · obtain rfl : z = i2 := by omega
                              rw [hkx]; exact heq)
                          clear heq hkx HNE
                          go_wp2_with fail
                          go_roundg (keys.length - (i2 + 1) + 1)
                          case measure => omega
                          case rel => exact ⟨i2 + 1, by go_num, by omega, hL5, Or.inl ⟨rfl, HN2, hr5⟩⟩
                      · have ga : decide ((i2 : Int) < (keys.length : Int)) = false := by rw [decide_eq_false_iff_not]; omega
                        have gb : decide (i2 < keys.length) = false := by rw [decide_eq_false_iff_not]; exact hlt
                        have HI2 := Lib.hid (H6.out.2 (has_new (fun z hz => HNE.out z hz (by omega))))
                        clear HNE H6 hlt
                        have hkyA := hL5.ky.alloc (Obj.cells #[.string T] 9)
                        have hle5 := hL5.le
                        go_wp2_with (at_builtin; refine key_list rfl _ _ rfl B _ _ keys hkyA T wr.heap.size _ (0, 0) (Kit.fresh_block wr _ _) rfl rfl (by omega) (by simp; omega) ?_)
                        intro g6 c6 w6 hk6 hg6 hat6
                        obtain ⟨hL7, hb7, hrd7⟩ := hL5.key (kb := T) (by rw [List.length_append, List.length_singleton]; exact hk6) hg6 (hat6.imp id (fun e => by simpa using e))
                        have y4 := hb7.p3
                        have y5 := hb7.free 3
                        have hr7 := hrd7 _ _ _ _ hr5
                        clear hkyA hk6 hg6 hat6 hrd7
                        go_wp2_with fail
                        refine (blanks_any R s k4 (d + 1) 0 _ hr7 hs hk4).mono ?_
                        rintro e' w8 ⟨rfl, k8, hk81, hk82, hk8, hr8, hs8⟩
                        have hL8 := hL7.step hs8
                        cases e3 : eatL 58 (tail s k8) with
                        | none =>
                          have HE : Hid (O = .error 3) := by show O = _; rw [← HI2.out, colon_none (by rw [hk8]; exact e3)]
                          have E3 := Lib.hid e3
                          clear e3 hk8 HI2
                          go_wp2_with fail
                          refine (is_no R s k8 (d + 1) 58 w8 hr8 hs E3.out).mono ?_
                          rintro e' w9 ⟨rfl, hr9, hs9⟩
                          go_wp2_with fail
                          refine (fail_any R s (k8 : Int) (d + 1) 0 3 w9 hr9).mono ?_
                          rintro e' w10 ⟨rfl, hr10, hs10⟩
                          have hL10 := (hL8.step hs9).step hs10
                          have hr10 : Rd R s (k8 : Int) (d + 1) ((3 : Nat) : Int) w10 := by simpa using hr10
                          go_wp2_with fail
                          go_meet
                          exact ⟨_, _, _, .error 3, hL10, by rw [List.length_append, List.length_singleton]; omega, Lib.hid HE.out.symm, ⟨by decide, k8, hk82, hr10⟩, rfl⟩
                        | some r3 =>
                          obtain ⟨hkl8, -, hre⟩ := eat_place e3
                          subst hre
                          have HB : Hid (onS (bodyI val true f (keys ++ [T]) kids) (.ok (tail s (k8 + 1))) = O) := by show bodyI val true f _ kids _ = O; rw [← HI2.out, colon_some (by rw [hk8]; exact e3)]
                          have E3 := Lib.hid e3
                          clear e3 hk8 HI2
                          go_wp2_with fail
                          refine (is_yes R s k8 (d + 1) 58 w8 _ hr8 hs E3.out).mono ?_
                          rintro e' w9 ⟨rfl, hr9, hs9⟩
                          have hL9 := hL8.step hs9
                          go_wp2_with fail
                          go_meet
                          exact ⟨_, _, _, .ok (tail s (k8 + 1)), hL9, by rw [List.length_append, List.length_singleton]; omega, HB, ⟨k8 + 1, by omega, by omega, rfl, hr9⟩, rfl⟩
                    · subst hm
                      have h3 := hr5.c3
                      have HE := Lib.hid (H6.out.1 HHAS.out)
                      clear HHAS H6
                      rcases (show (decide ((i2 : Int) < (keys.length : Int)) = false ∧ decide (i2 < keys.length) = false) ∨ ((i2 : Int) < (keys.length : Int) ∧ i2 < keys.length) by rcases Nat.lt_or_ge i2 keys.length with e | e; (right; exact ⟨by omega, e⟩); (left; exact ⟨by rw [decide_eq_false_iff_not]; omega, by rw [decide_eq_false_iff_not]; omega⟩)) with ⟨ga, gb⟩ | ⟨ga, gb⟩
                      all_goals
                        have hkyA := hL5.ky.alloc (Obj.cells #[.string T] 9)
                        have hle5 := hL5.le
                        go_wp2_with (at_builtin; refine key_list rfl _ _ rfl B _ _ keys hkyA T wr.heap.size _ (0, 0) (Kit.fresh_block wr _ _) rfl rfl (by omega) (by simp; omega) ?_)
                        intro g6 c6 w6 hk6 hg6 hat6
                        obtain ⟨hL7, hb7, hrd7⟩ := hL5.key (kb := T) (by rw [List.length_append, List.length_singleton]; exact hk6) hg6 (hat6.imp id (fun e => by simpa using e))
                        have y4 := hb7.p3
                        have y5 := hb7.free 3
                        have hr7 := hrd7 _ _ _ _ hr5
                        clear hkyA hk6 hg6 hat6 hrd7
                        go_wp2_with fail
                        refine (blanks_any R s k4 (d + 1) ((5 : Nat) : Int) _ hr7 hs hk4).mono ?_
                        rintro e' w8 ⟨rfl, k8, hk81, hk82, hk8, hr8, hs8⟩
                        have hL8 := hL7.step hs8
                        go_wp2_with fail
                        refine (is_off R s (k8 : Int) (d + 1) ((5 : Nat) : Int) 58 w8 hr8 (by decide)).mono ?_
                        rintro e' w9 ⟨rfl, hr9, hs9⟩
                        go_wp2_with fail
                        refine (fail_any R s (k8 : Int) (d + 1) ((5 : Nat) : Int) 3 w9 hr9).mono ?_
                        rintro e' w10 ⟨rfl, hr10, hs10⟩
                        have hL10 := (hL8.step hs9).step hs10
                        have hr10 : Rd R s (k8 : Int) (d + 1) ((5 : Nat) : Int) w10 := hr10
                        go_wp2_with fail
                        go_meet
                        exact ⟨_, _, _, .error 5, hL10, by rw [List.length_append, List.length_singleton]; omega, Lib.hid HE.out.symm, ⟨by decide, k8, hk82, hr10⟩, rfl⟩
          case rest =>
            clear hr hL h3 HQ
            obtain ⟨W1, ks, kv1, st1, hL1, hkl1, HB1, hst1, rfl⟩ := hcut
            obtain ⟨ao, cp, rfl⟩ := own_form hL1.ky
            obtain ⟨bo, bp, rfl⟩ := hL1.kd.form
            have hrdw : ∀ i e : Int, Rd R s i (d + 1) e W1 → Rd R s i (d + 1) e W1.drew := fun i e h => h.drew
            have hcall : Calls Try.prog 24 #[.pointer (some ⟨R, 0, none⟩)] W1.drew fun e' w' => Left R s (d + 1) W1.drew (onS val st1) e' w' := by
              cases st1 with
              | ok r => obtain ⟨k, g1, g2, rfl, g3⟩ := hst1; exact HVAL.out k _ (hrdw _ _ g3) g2
              | error c => obtain ⟨g0, k, g2, g3⟩ := hst1; exact HOFF.out k c _ g0 (hrdw _ _ g3) g2
            have HPL : Hid (∀ j k, k ≤ s.size → onS val st1 = .ok (j, tail s k) → q ≤ k) := Lib.hid (fun j k hk he => by
              cases st1 with
              | ok r => obtain ⟨k1, g1, g2, rfl, g3⟩ := hst1; have := tail_le hk g2 (HSUF.out _ _ _ he); omega
              | error c => cases he)
            have HBO : Hid (∀ j, (∀ k r, onS val st1 = .ok (k, r) → j = k) → onS (endI val obj f ks (kids ++ [j])) (outS (onS val st1)) = O) := Lib.hid (fun j hj => (body_on val obj f ks kids st1 j hj).symm.trans HB1.out)
            obtain ⟨ov, hov⟩ : ∃ ov, onS val st1 = ov := ⟨_, rfl⟩
            rw [hov] at hcall HPL HBO
            clear hst1 HB1 hrdw hov
            have hvn := fun g (hg : (Value.slice bo kids.length bp).ownBlock = some g) => hL1.v_lt g hg
            have hxn := fun g (hg : (Value.slice ao ks.length cp).ownBlock = some g) => hL1.kv_lt g hg
            have hBs := hL1.le
            have l4 : W1.drew.cell? ⟨G1, 4, none⟩ = some (.slice bo kids.length bp) := hL1.b1.p4
            go_upto_region 29 with fail
            go_cut [] from 91 to 107 (fun wx => ∃ (W : World) (kids2 : List J) (v2 : Value) (st2 : Except Nat (List UInt8)), Ls R w B G0 G1 (kindO obj) ks kids2 (.slice ao ks.length cp) v2 W ∧ kids2.length = kids.length + 1 ∧ Hid (onS (endI val obj f ks kids2) st2 = O) ∧ St R s (d + 1) q st2 W ∧ W = wx)
            case first =>
              refine wp_region_any (by kernel_rfl) ?_
              try (change wpAny _ _ _ _ _ _ _ (World.drew _))
              refine wpAny_take (i := 0) (v := ?_) rfl (by kernel_rfl) (by kernel_rfl) (by kernel_rfl) (fun _ _ _ h => h) (Or.inl ⟨by rfl, ?_⟩) ?_
              rotate_left 1
              · (intro w; go_simp) <;> with_reducible rfl
              refine wpAny_take (i := 2) (v := ?_) rfl (by kernel_rfl) (by kernel_rfl) (by kernel_rfl) (fun _ _ _ h => h) (Or.inl ⟨by rfl, ?_⟩) ?_
              rotate_left 1
              · (intro w; go_simp) <;> with_reducible rfl
              refine wpAny_ready (rs := [1, 3]) (by kernel_rfl) (by simp) ?_
              refine AllReady.cons rfl (fun K hK => ?_) (AllReady.cons rfl (fun K hK => ?_) AllReady.nil)
              · go_simp
                refine hK _ _ ?_
                clear hK K
                refine wpAny_ready (rs := [3]) (by kernel_rfl) (by simp) ?_
                refine AllReady.cons rfl (fun K hK => ?_) AllReady.nil
                go_simp
                go_wp2_with fail
                refine hcall.mono ?_
                intro e' w4 hLf
                obtain ⟨hs4, j, c0, c1, c2, c3, c4, rfl, hn4, hjk, hm4⟩ := hLf.on
                have hL4 := hL1.step (((Step.refl R W1).drew).trans hs4)
                have hz4 : W1.heap.size ≤ w4.heap.size := hs4.size
                have m4 : w4.cell? ⟨G1, 4, none⟩ = some (.slice bo kids.length bp) := hL4.b1.p4
                have m5 : (w4.alloc (Obj.cells #[c0, c1, c2, c3, c4] 27)).cell? ⟨G1, 4, none⟩ = some (.slice bo kids.length bp) := (hL4.b1.alloc _).p4
                go_wp2_with fail
                refine wpAny_ready (rs := [4]) (by kernel_rfl) (by simp) ?_
                refine AllReady.cons rfl (fun K hK => ?_) AllReady.nil
                go_simp
                refine hK _ _ ?_
                clear hK K
                refine wpAny_ready (rs := [5]) (by kernel_rfl) (by simp) ?_
                refine AllReady.cons rfl (fun K hK => ?_) AllReady.nil
                refine Kids.step rfl (.tmp 92) (.tmp 95) rfl B _ _ (.slice bo kids.length bp) kids (hL4.kd.same (fun g hg hl => Below.heap_alloc w4 (Obj.cells #[c0, c1, c2, c3, c4] 27) g hl)) j c0 c1 c2 c3 c4 W1.heap.size (hn4.keep (fun g hg hl => ⟨hg, Below.heap_alloc w4 _ g hl⟩)) hBs hvn hxn w4.heap.size _ (0, 0) (Kit.fresh_block w4 _ _) (by first | rfl | simp [Act.eval, Act.put]) (by first | rfl | simp [Act.eval, Act.put]) (by omega) (by simp; omega) ?_
                intro g5 cap5 w5 hkd5 hgr5 hat5
                obtain ⟨hL6, hb6, hrd6⟩ := hL4.kid hkd5 hgr5
                have m6 := hb6.p4
                have m7 := hb6.free 4
                refine hK _ _ ?_
                clear hK K
                refine wpAny_take (i := 6) (v := ?_) rfl (by kernel_rfl) (by kernel_rfl) (by kernel_rfl) (fun _ _ _ h => h) (Or.inl ⟨by rfl, ?_⟩) ?_
                rotate_left 1
                · (intro w; go_simp) <;> with_reducible rfl
                refine wpAny_ready (rs := [7]) (by kernel_rfl) (by simp) ?_
                refine AllReady.cons rfl (fun K hK => ?_) AllReady.nil
                go_simp
                refine hK _ _ ?_
                clear hK K
                refine wpAny_done (by kernel_rfl) ?_ _
                go_wp2_with fail
                go_meet
                exact ⟨_, _, _, _, hL6, by rw [List.length_append, List.length_singleton], Lib.hid (HBO.out j hjk), (st_out hm4 HPL.out).map (fun i e h => hrd6 _ _ _ _ h), rfl⟩
              · go_simp
                go_wp2_with fail
                refine hcall.mono ?_
                intro e' w4 hLf
                obtain ⟨hs4, j, c0, c1, c2, c3, c4, rfl, hn4, hjk, hm4⟩ := hLf.on
                have hL4 := hL1.step (((Step.refl R W1).drew).trans hs4)
                have hz4 : W1.heap.size ≤ w4.heap.size := hs4.size
                have m4 : w4.cell? ⟨G1, 4, none⟩ = some (.slice bo kids.length bp) := hL4.b1.p4
                have m5 : (w4.alloc (Obj.cells #[c0, c1, c2, c3, c4] 27)).cell? ⟨G1, 4, none⟩ = some (.slice bo kids.length bp) := (hL4.b1.alloc _).p4
                go_wp2_with fail
                refine wpAny_ready (rs := [1, 4]) (by kernel_rfl) (by simp) ?_
                refine AllReady.cons rfl (fun K hK => ?_) (AllReady.cons rfl (fun K hK => ?_) AllReady.nil)
                · go_simp
                  refine hK _ _ ?_
                  clear hK K
                  refine wpAny_ready (rs := [4]) (by kernel_rfl) (by simp) ?_
                  refine AllReady.cons rfl (fun K hK => ?_) AllReady.nil
                  go_simp
                  refine hK _ _ ?_
                  clear hK K
                  refine wpAny_ready (rs := [5]) (by kernel_rfl) (by simp) ?_
                  refine AllReady.cons rfl (fun K hK => ?_) AllReady.nil
                  refine Kids.step rfl (.tmp 92) (.tmp 95) rfl B _ _ (.slice bo kids.length bp) kids (hL4.kd.same (fun g hg hl => Below.heap_alloc w4 (Obj.cells #[c0, c1, c2, c3, c4] 27) g hl)) j c0 c1 c2 c3 c4 W1.heap.size (hn4.keep (fun g hg hl => ⟨hg, Below.heap_alloc w4 _ g hl⟩)) hBs hvn hxn w4.heap.size _ (0, 0) (Kit.fresh_block w4 _ _) (by first | rfl | simp [Act.eval, Act.put]) (by first | rfl | simp [Act.eval, Act.put]) (by omega) (by simp; omega) ?_
                  intro g5 cap5 w5 hkd5 hgr5 hat5
                  obtain ⟨hL6, hb6, hrd6⟩ := hL4.kid hkd5 hgr5
                  have m6 := hb6.p4
                  have m7 := hb6.free 4
                  refine hK _ _ ?_
                  clear hK K
                  refine wpAny_take (i := 6) (v := ?_) rfl (by kernel_rfl) (by kernel_rfl) (by kernel_rfl) (fun _ _ _ h => h) (Or.inl ⟨by rfl, ?_⟩) ?_
                  rotate_left 1
                  · (intro w; go_simp) <;> with_reducible rfl
                  refine wpAny_ready (rs := [7]) (by kernel_rfl) (by simp) ?_
                  refine AllReady.cons rfl (fun K hK => ?_) AllReady.nil
                  go_simp
                  refine hK _ _ ?_
                  clear hK K
                  refine wpAny_done (by kernel_rfl) ?_ _
                  go_wp2_with fail
                  go_meet
                  exact ⟨_, _, _, _, hL6, by rw [List.length_append, List.length_singleton], Lib.hid (HBO.out j hjk), (st_out hm4 HPL.out).map (fun i e h => hrd6 _ _ _ _ h), rfl⟩
                · go_simp
                  refine hK _ _ ?_
                  clear hK K
                  refine wpAny_ready (rs := [1]) (by kernel_rfl) (by simp) ?_
                  refine AllReady.cons rfl (fun K hK => ?_) AllReady.nil
                  go_simp
                  refine hK _ _ ?_
                  clear hK K
                  refine wpAny_ready (rs := [5]) (by kernel_rfl) (by simp) ?_
                  refine AllReady.cons rfl (fun K hK => ?_) AllReady.nil
                  refine Kids.step rfl (.tmp 92) (.tmp 95) rfl B _ _ (.slice bo kids.length bp) kids (hL4.kd.same (fun g hg hl => Below.heap_alloc w4 (Obj.cells #[c0, c1, c2, c3, c4] 27) g hl)) j c0 c1 c2 c3 c4 W1.heap.size (hn4.keep (fun g hg hl => ⟨hg, Below.heap_alloc w4 _ g hl⟩)) hBs hvn hxn w4.heap.size _ (0, 0) (Kit.fresh_block w4 _ _) (by first | rfl | simp [Act.eval, Act.put]) (by first | rfl | simp [Act.eval, Act.put]) (by omega) (by simp; omega) ?_
                  intro g5 cap5 w5 hkd5 hgr5 hat5
                  obtain ⟨hL6, hb6, hrd6⟩ := hL4.kid hkd5 hgr5
                  have m6 := hb6.p4
                  have m7 := hb6.free 4
                  refine hK _ _ ?_
                  clear hK K
                  refine wpAny_take (i := 6) (v := ?_) rfl (by kernel_rfl) (by kernel_rfl) (by kernel_rfl) (fun _ _ _ h => h) (Or.inl ⟨by rfl, ?_⟩) ?_
                  rotate_left 1
                  · (intro w; go_simp) <;> with_reducible rfl
                  refine wpAny_ready (rs := [7]) (by kernel_rfl) (by simp) ?_
                  refine AllReady.cons rfl (fun K hK => ?_) AllReady.nil
                  go_simp
                  refine hK _ _ ?_
                  clear hK K
                  refine wpAny_done (by kernel_rfl) ?_ _
                  go_wp2_with fail
                  go_meet
                  exact ⟨_, _, _, _, hL6, by rw [List.length_append, List.length_singleton], Lib.hid (HBO.out j hjk), (st_out hm4 HPL.out).map (fun i e h => hrd6 _ _ _ _ h), rfl⟩
            case rest =>
              clear hcall HPL HBO hvn hxn hBs l4 hL1
              obtain ⟨W2, kids2, v2, st2, hL2, hkl2, HE2, hst2, rfl⟩ := hcut
              have HKL2 := Lib.hid hkl2
              clear hkl2
              cases st2 with
              | error c =>
                obtain ⟨hc0, k, hk, hr⟩ := hst2
                have HE : Hid (O = .error c) := Lib.hid HE2.out.symm
                have hc0i : (c : Int) ≠ 0 := by omega
                clear HE2
                go_wp2_with fail
                refine (blanks_any R s k (d + 1) (c : Int) W2 hr hs hk).mono ?_
                rintro e' w3 ⟨rfl, k3, hk31, hk32, hk3, hr3, hs3⟩
                go_wp2_with fail
                refine (is_off R s (k3 : Int) (d + 1) (c : Int) (endO obj) w3 hr3 hc0i).mono ?_
                rintro e' w4 ⟨rfl, hr4, hs4⟩
                go_wp2_with fail
                refine (is_off R s (k3 : Int) (d + 1) (c : Int) 44 w4 hr4 hc0i).mono ?_
                rintro e' w5 ⟨rfl, hr5, hs5⟩
                go_wp2_with fail
                refine (fail_any R s (k3 : Int) (d + 1) (c : Int) 3 w5 hr5).mono ?_
                rintro e' w6 ⟨rfl, hr6, hs6⟩
                have hL6 := (((hL2.step hs3).step hs4).step hs5).step hs6
                rw [if_neg hc0i] at hr6
                go_wp2_with fail
                go_roundg 0
                case measure => omega
                case rel => exact ⟨_, _, _, _, hL6, Or.inr ⟨k3, c, rfl, hk32, hc0, HE, hr6⟩⟩
              | ok r2 =>
                obtain ⟨k, hqk, hk, rfl, hr⟩ := hst2
                have HE3 : Hid (endI val obj f ks kids2 (tail s k) = O) := HE2
                clear HE2
                go_wp2_with fail
                refine (blanks_any R s k (d + 1) 0 W2 hr hs hk).mono ?_
                rintro e' w3 ⟨rfl, k3, hk31, hk32, hk3, hr3, hs3⟩
                have hL3 := hL2.step hs3
                have hE4 := HE3.out
                unfold endI at hE4
                rw [hk3] at hE4
                have HE4 := Lib.hid hE4
                clear hr hL2 HE3 hE4 hk3 hs3
                cases e4 : eatL (endO obj) (tail s k3) with
                | some r4 =>
                  obtain ⟨hkl4, -, hre⟩ := eat_place e4
                  subst hre
                  have HE : Hid (O = .ok (listJ obj ks kids2, tail s (k3 + 1))) := by show O = _; rw [← HE4.out, e4]
                  have E4 := Lib.hid e4
                  clear e4 HE4
                  go_wp2_with fail
                  refine (is_yes R s k3 (d + 1) (endO obj) w3 _ hr3 hs E4.out).mono ?_
                  rintro e' w4 ⟨rfl, hr4, hs4⟩
                  have hL4 := hL3.step hs4
                  clear hr3 hL3 hs4
                  obtain ⟨zo, zc, rfl⟩ := hL4.kd.form
                  have hLx := hL4.step ((Step.refl R _).set 2 (.int .i64 d))
                  have hrx := hr4.set2 d
                  have x2 := hr4.c2
                  have x2f := hr4.free 2
                  have p0 := hLx.b1.p0
                  have p1 := hLx.b1.p1
                  have p2 := hLx.b1.p2
                  have p3 := hLx.b1.p3
                  have p4 := hLx.b1.p4
                  have r0 := hLx.b0.p0
                  have r1 := hLx.b0.p1
                  have r2 := hLx.b0.p2
                  have r3 := hLx.b0.p3
                  have r4 := hLx.b0.p4
                  have f0 := hLx.b0.free 0
                  have f1 := hLx.b0.free 1
                  have f2 := hLx.b0.free 2
                  have f3 := hLx.b0.free 3
                  have f4 := hLx.b0.free 4
                  go_wp2_with fail
                  refine bodyPost_ret (node_result rfl _ rfl (hLx.b0.setAll _ _ _ _ _)) rfl ?_
                  obtain ⟨y1, y2, y3⟩ := hLx.done
                  refine ⟨y1, _, rfl, ?_⟩
                  rw [HE.out]
                  exact ⟨y2, k3 + 1, by omega, rfl, y3 _ _ _ _ hrx⟩
                | none =>
                  have E4 := Lib.hid e4
                  cases e5 : eatL 44 (tail s k3) with
                  | none =>
                    have HE : Hid (O = .error 3) := by show O = _; rw [← HE4.out, e4]; simp only; rw [e5]
                    have E5 := Lib.hid e5
                    clear e4 e5 HE4
                    go_wp2_with fail
                    refine (is_no R s k3 (d + 1) (endO obj) w3 hr3 hs E4.out).mono ?_
                    rintro e' w4 ⟨rfl, hr4, hs4⟩
                    go_wp2_with fail
                    refine (is_no R s k3 (d + 1) 44 w4 hr4 hs E5.out).mono ?_
                    rintro e' w5 ⟨rfl, hr5, hs5⟩
                    go_wp2_with fail
                    refine (fail_any R s (k3 : Int) (d + 1) 0 3 w5 hr5).mono ?_
                    rintro e' w6 ⟨rfl, hr6, hs6⟩
                    have hL6 := ((hL3.step hs4).step hs5).step hs6
                    have hr6 : Rd R s (k3 : Int) (d + 1) ((3 : Nat) : Int) w6 := by simpa using hr6
                    go_wp2_with fail
                    go_roundg 0
                    case measure => omega
                    case rel => exact ⟨_, _, _, _, hL6, Or.inr ⟨k3, 3, rfl, hk32, by decide, HE, hr6⟩⟩
                  | some r5 =>
                    obtain ⟨hkl5, -, hre⟩ := eat_place e5
                    subst hre
                    have HI5 : Hid (itemsG val obj f ks kids2 (tail s (k3 + 1)) = O ∧ s.size - (k3 + 1) < f) := by show _ ∧ _; refine ⟨?_, by have := HQF.out; omega⟩; rw [← HE4.out, e4]; simp only; rw [e5]
                    have E5 := Lib.hid e5
                    clear e4 e5 HE4
                    go_wp2_with fail
                    refine (is_no R s k3 (d + 1) (endO obj) w3 hr3 hs E4.out).mono ?_
                    rintro e' w4 ⟨rfl, hr4, hs4⟩
                    go_wp2_with fail
                    refine (is_yes R s k3 (d + 1) 44 w4 _ hr4 hs E5.out).mono ?_
                    rintro e' w5 ⟨rfl, hr5, hs5⟩
                    have hL5 := (hL3.step hs4).step hs5
                    go_wp2_with fail
                    go_roundg (s.size - (k3 + 1) + 1)
                    case measure => omega
                    case rel => exact ⟨_, _, _, _, hL5, Or.inl ⟨k3 + 1, f, rfl, by omega, by omega, by rw [HKL2.out]; omega, HI5, hr5⟩⟩
end Go.Proofs.Ytpnffmimpkimeaa.J7
