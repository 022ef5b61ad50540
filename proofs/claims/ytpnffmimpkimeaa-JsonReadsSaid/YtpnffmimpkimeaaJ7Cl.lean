/-
  The program's reader of JSON: arrays. Conditions: the text has at most 65536 bytes.
-/
import Derived.Test.YtpnffmimpkimeaaJ7Kids
namespace Go.Proofs.Ytpnffmimpkimeaa.J7
open Go Go.RowKit Go.Joins Kit

set_option maxHeartbeats 4000000 in
set_option maxRecDepth 100000 in
theorem array_any (s : ByteArray) (n a : Nat) (hs : s.size ≤ 65536) (ha : a < 24) (hv : ValOk s n (a + 1)) (R i : Nat) (w : World) (h : Rc R s i w) (hi : i < s.size) :
    Calls Try.prog 32 #[.pointer (some ⟨R, 0, none⟩), .int .i64 (a : Int)] w fun e' w' => ValLeft R s w (listG (valueG numC n) false (tail s (i + 1))) e' w' := by
  have hsz : (s.size : Int) ≤ 65536 := by omega
  have hai : (a : Int) < 24 := by omega
  have hRl := h.lt
  obtain ⟨G0, hG0⟩ : ∃ G, w.heap.size = G := ⟨_, rfl⟩
  obtain ⟨O, hO⟩ : ∃ O, listG (valueG numC n) false (tail s (i + 1)) = O := ⟨_, rfl⟩
  rw [hO]
  unfold listG at hO
  have HO := Lib.hid hO
  clear hO
  have hz0 := newZ_bx w
  rw [hG0] at hz0
  have hr0 : Rc R s i (newZ w) := h.alloc _
  have hst0 : Step R w (newZ w) := newZ_step (Step.refl R w)
  go_enter Try.func32, Try.ntmps32
  go_wp2_with fail
  refine (enter_any R s i a (newZ w) hr0 hs (by omega) ha).mono ?_
  rintro e' w1 ⟨rfl, hs1, hr1⟩
  have hst1 := hst0.trans hs1
  have hb01 := hz0.keep hs1 (by omega)
  obtain ⟨G1, hG1⟩ : ∃ G, w1.heap.size = G := ⟨_, rfl⟩
  have h01 : G0 < G1 := by rw [← hG1]; exact hb01.lt
  have hr2 : Rc R s (i + 1) (newN w1 6) := ⟨by rw [newN_block _ _ _ hr1.lt]; exact hr1.blk⟩
  have hst2 := newN_step hst1 6
  have hb02 := hb01.same (newN_block w1 6 G0 (by omega))
  have hb12 := newN_bx w1 6
  have hs2 := newN_size w1 6
  rw [hG1] at hb12 hs2
  clear hr0 hst0 hz0 hr1 hst1 hb01 hs1
  cases hc : eatL 93 (skipL (tail s (i + 1))) with
  | some r =>
    have HE : Hid (O = .ok (listJ false [] [], r)) := by
      show O = _
      rw [← HO.out]
      show (match eatL 93 (skipL (tail s (i + 1))) with
        | some r => (.ok (listJ false [] [], r) : Out J)
        | none => _) = _
      rw [hc]
    have HC := Lib.hid hc
    clear hc HO
    go_wp2_with fail
    (try rw [hG1])
    refine (found_yes R s (i + 1) 93 r (newN w1 6) hr2 hs (by omega) HC.out).mono ?_
    rintro e' w3 ⟨rfl, hs3, k, hk1, hk2, hk, hr3⟩
    have hst3 := hst2.trans hs3
    have hb03 := hb02.keep hs3 (by omega)
    have hb13 := hb12.keep hs3 (by omega)
    have p0 := hb13.p0
    have p1 := hb13.p1
    have p2 := hb13.p2
    have p3 := hb13.p3
    have p4 := hb13.p4
    have q0 := hb03.p0
    have q1 := hb03.p1
    have q2 := hb03.p2
    have q3 := hb03.p3
    have q4 := hb03.p4
    have f0 := hb03.free 0
    have f1 := hb03.free 1
    have f2 := hb03.free 2
    have f3 := hb03.free 3
    have f4 := hb03.free 4
    go_wp2_with fail
    refine bodyPost_ret (node_result rfl _ rfl (hb03.setAll _ _ _ _ _)) rfl ?_
    rw [HE.out]
    exact ⟨putN_step hst3 (by omega) _ _ _ _ _, _, _, _, _, _, rfl, node_plain _ _ _ _ _, k, hk2, hk, ⟨(putN_block w3 G0 _ _ _ _ _ R (by omega)).trans hr3.blk⟩⟩
  | none =>
    have HC := Lib.hid hc
    have HQ : Hid (itemsG (valueG numC n) false ((tail s (i + 1)).length + 1) [] [] (skipL (tail s (i + 1))) = O) := by
      show _ = O
      rw [← HO.out]
      show _ = (match eatL 93 (skipL (tail s (i + 1))) with
        | some r => (.ok (listJ false [] [], r) : Out J)
        | none => _)
      rw [hc]
    clear hc HO
    go_wp2_with fail
    (try rw [hG1])
    refine (found_no R s (i + 1) 93 (newN w1 6) hr2 hs (by omega) (by decide) HC.out).mono ?_
    rintro e' w3 ⟨rfl, hs3, k, hk1, hk2, hk, hr3⟩
    have hst3 := hst2.trans hs3
    have hb03 := hb02.keep hs3 (by omega)
    have hb13 := hb12.keep hs3 (by omega)
    have HQ3 : Hid (itemsG (valueG numC n) false ((tail s (i + 1)).length + 1) [] [] (tail s k) = O) := by
      show _ = O
      rw [← hk]; exact HQ.out
    have hl3 : (tail s k).length < (tail s (i + 1)).length + 1 := by rw [tail_length, tail_length]; omega
    obtain ⟨B, hB⟩ : ∃ B, w3.heap.size = B := ⟨_, rfl⟩
    have h1B : G1 < B := by rw [← hB]; exact hb13.lt
    clear hst2 hb02 hb12 hs2 hr2 HQ HC hs3 hk
    go_wp2_with fail
    go_loopg [] (s.size - k) (fun m wr => ∃ (q f : Nat) (kids : List J) (v : Value), m = s.size - q ∧ q ≤ s.size ∧ kids.length ≤ q ∧ (tail s q).length < f ∧ Hid (itemsG (valueG numC n) false f [] kids (tail s q) = O) ∧ Rc R s q wr ∧ Step R w wr ∧ B ≤ wr.heap.size ∧ Bx G0 (.int .i64 0) (.int .i64 0) (.string { data := #[] }) (.slice none 0 0) (.slice none 0 0) wr ∧ Bx G1 (.int .i64 6) (.int .i64 0) (.string { data := #[] }) (.slice none 0 0) v wr ∧ Kids B none v kids wr)
    case atStart => exact ⟨k, _, [], _, rfl, hk2, Nat.zero_le _, hl3, HQ3, hr3, hst3, by omega, hb03, hb13, kids_empty _ _ _⟩
    case round =>
      clear hst3 hb03 hb13 hr3 HQ3 hl3
      obtain ⟨q, f, kids, v, rfl, hq, hkl, hf, HQ, hr, hst, hBs, hb0, hb1, hkd⟩ := hrel
      have hval := hv R q wr.drew ⟨hr.blk⟩ hq
      rw [show ((a + 1 : Nat) : Int) = (a : Int) + 1 by omega] at hval
      have hwr : IntKind.i64.wrap ((a : Int) + 1) = (a : Int) + 1 := by rw [IntKind.wrap_i64]; omega
      have hvn := fun g (hg : v.ownBlock = some g) => show g < wr.heap.size from ((hkd.choose_spec.1).lt g hg).2
      have l4 : wr.drew.cell? ⟨G1, 4, none⟩ = some v := hb1.p4
      obtain ⟨o, ho⟩ : ∃ o, valueG numC n (tail s q) = o := ⟨_, rfl⟩
      rw [ho] at hval
      match o, ho, hval with
      | .error c, ho, hval =>
        have HE := Lib.hid (show O = .error c by rw [← HQ.out]; exact items_err ho hf)
        clear HQ ho
        go_upto_region 5 with fail
        refine wp_region_any (by kernel_rfl) ?_
        try (change wpAny _ _ _ _ _ _ _ (World.drew _))
        refine wpAny_take (i := 0) (v := ?_) rfl (by kernel_rfl) (by kernel_rfl) (by kernel_rfl) (fun _ _ _ h => h) (Or.inl ⟨by rfl, ?_⟩) ?_
        rotate_left 1
        · (intro w; go_simp) <;> with_reducible rfl
        refine wpAny_take (i := 2) (v := ?_) rfl (by kernel_rfl) (by kernel_rfl) (by kernel_rfl) (fun _ _ _ h => h) (Or.inl ⟨by rfl, ?_⟩) ?_
        rotate_left 1
        · (intro w; go_simp) <;> with_reducible rfl
        refine wpAny_take (i := 3) (v := ?_) rfl (by kernel_rfl) (by kernel_rfl) (by kernel_rfl) (fun _ _ _ h => h) (Or.inl ⟨by rfl, ?_⟩) ?_
        rotate_left 1
        · (intro w; go_simp) <;> with_reducible rfl
        refine wpAny_take (i := 4) (v := ?_) rfl (by kernel_rfl) (by kernel_rfl) (by kernel_rfl) (fun _ _ _ h => h) (Or.inl ⟨by rfl, ?_⟩) ?_
        rotate_left 1
        · (intro w; go_simp) <;> with_reducible rfl
        refine wpAny_ready (rs := [1, 5]) (by kernel_rfl) (by simp) ?_
        refine AllReady.cons rfl (fun K hK => ?_) (AllReady.cons rfl (fun K hK => ?_) AllReady.nil)
        · go_simp
          refine hK _ _ ?_
          clear hK K
          refine wpAny_ready (rs := [5]) (by kernel_rfl) (by simp) ?_
          refine AllReady.cons rfl (fun K hK => ?_) AllReady.nil
          go_simp
          go_wp2_with fail
          refine hval.mono ?_
          rintro e' w3 ⟨hs3, hL⟩
          obtain rfl : e' = Errs c := hL
          have hst4 : Step R w w3 := Step.trans (w' := wr.drew) hst.drew hs3
          go_wp2_with fail
          rw [HE.out]
          exact ⟨rfl, hst4, rfl⟩
        · go_simp
          go_wp2_with fail
          refine hval.mono ?_
          rintro e' w3 ⟨hs3, hL⟩
          obtain rfl : e' = Errs c := hL
          have hst4 : Step R w w3 := Step.trans (w' := wr.drew) hst.drew hs3
          go_wp2_with fail
          rw [HE.out]
          exact ⟨rfl, hst4, rfl⟩
      | .ok (j, r), ho, hval =>
        obtain ⟨f, rfl⟩ : ∃ g, f = g + 1 := ⟨f - 1, by omega⟩
        have HQ2 := Lib.hid ((items_ok (f := f) (kids := kids) ho).symm.trans HQ.out)
        have HV := Lib.hid ho
        clear HQ ho
        go_upto_region 5 with fail
        go_cut [] from 13 (fun wx => ∃ k4 v4, Hid (r = tail s k4) ∧ k4 ≤ s.size ∧ Rc R s k4 wx ∧ Step R w wx ∧ B ≤ wx.heap.size ∧ Bx G0 (.int .i64 0) (.int .i64 0) (.string { data := #[] }) (.slice none 0 0) (.slice none 0 0) wx ∧ Bx G1 (.int .i64 6) (.int .i64 0) (.string { data := #[] }) (.slice none 0 0) v4 wx ∧ Kids B none v4 (kids ++ [j]) wx)
        case first =>
          refine wp_region_any (by kernel_rfl) ?_
          try (change wpAny _ _ _ _ _ _ _ (World.drew _))
          refine wpAny_take (i := 0) (v := ?_) rfl (by kernel_rfl) (by kernel_rfl) (by kernel_rfl) (fun _ _ _ h => h) (Or.inl ⟨by rfl, ?_⟩) ?_
          rotate_left 1
          · (intro w; go_simp) <;> with_reducible rfl
          refine wpAny_take (i := 2) (v := ?_) rfl (by kernel_rfl) (by kernel_rfl) (by kernel_rfl) (fun _ _ _ h => h) (Or.inl ⟨by rfl, ?_⟩) ?_
          rotate_left 1
          · (intro w; go_simp) <;> with_reducible rfl
          refine wpAny_take (i := 3) (v := ?_) rfl (by kernel_rfl) (by kernel_rfl) (by kernel_rfl) (fun _ _ _ h => h) (Or.inl ⟨by rfl, ?_⟩) ?_
          rotate_left 1
          · (intro w; go_simp) <;> with_reducible rfl
          refine wpAny_take (i := 4) (v := ?_) rfl (by kernel_rfl) (by kernel_rfl) (by kernel_rfl) (fun _ _ _ h => h) (Or.inl ⟨by rfl, ?_⟩) ?_
          rotate_left 1
          · (intro w; go_simp) <;> with_reducible rfl
          refine wpAny_ready (rs := [1, 5]) (by kernel_rfl) (by simp) ?_
          refine AllReady.cons rfl (fun K hK => ?_) (AllReady.cons rfl (fun K hK => ?_) AllReady.nil)
          · go_simp
            refine hK _ _ ?_
            clear hK K
            refine wpAny_ready (rs := [5]) (by kernel_rfl) (by simp) ?_
            refine AllReady.cons rfl (fun K hK => ?_) AllReady.nil
            go_simp
            go_wp2_with fail
            refine hval.mono ?_
            rintro e' w4 ⟨hs4, c0, c1, c2, c3, c4, rfl, hn4, k4, hk4, hk4e, hr4⟩
            have hst4 : Step R w w4 := Step.trans (w' := wr.drew) hst.drew hs4
            have hb04 : Bx G0 _ _ _ _ _ w4 := hb0.drew.keep hs4 (by omega)
            have hb14 : Bx G1 _ _ _ _ _ w4 := hb1.drew.keep hs4 (by omega)
            have hkd4 : Kids B none v kids w4 := hkd.same (fun g hg hl => hs4.block g hl (by omega))
            have hz4 : wr.heap.size ≤ w4.heap.size := hs4.size
            have m4 : w4.cell? ⟨G1, 4, none⟩ = some v := hb14.p4
            have m5 : (w4.alloc (Obj.cells #[c0, c1, c2, c3, c4] 27)).cell? ⟨G1, 4, none⟩ = some v := (hb14.alloc _).p4
            go_wp2_with fail
            refine wpAny_ready (rs := [6]) (by kernel_rfl) (by simp) ?_
            refine AllReady.cons rfl (fun K hK => ?_) AllReady.nil
            go_simp
            refine hK _ _ ?_
            clear hK K
            refine wpAny_ready (rs := [7]) (by kernel_rfl) (by simp) ?_
            refine AllReady.cons rfl (fun K hK => ?_) AllReady.nil
            refine Kids.step rfl (.tmp 14) (.tmp 19) rfl B none _ v kids (hkd4.same (fun g hg hl => Below.heap_alloc w4 (Obj.cells #[c0, c1, c2, c3, c4] 27) g hl)) j c0 c1 c2 c3 c4 wr.heap.size (hn4.keep (fun g hg hl => ⟨hg, Below.heap_alloc w4 _ g hl⟩)) hBs hvn (fun g e => by cases e) w4.heap.size _ (0, 0) (Kit.fresh_block w4 _ _) (by first | rfl | simp [Act.eval, Act.put]) (by first | rfl | simp [Act.eval, Act.put]) (by omega) (by simp; omega) ?_
            intro g5 cap5 w5 hkd5 hgr5 hat5
            have hsz5 : w4.heap.size + 1 ≤ w5.heap.size := by have := hgr5.size; simpa using this
            have hne0 : v.ownBlock ≠ some G0 := fun e => by have := (hkd4.choose_spec.1.lt G0 e).1; omega
            have hne1 : v.ownBlock ≠ some G1 := fun e => by have := (hkd4.choose_spec.1.lt G1 e).1; omega
            have hneR : v.ownBlock ≠ some R := fun e => by have := (hkd4.choose_spec.1.lt R e).1; omega
            have hold5 : ∀ g, g < w4.heap.size → v.ownBlock ≠ some g → w5.heap[g]? = w4.heap[g]? := fun g hg hn => (hgr5.block g (by simp; omega) (fun e => hn e.symm)).trans (Below.heap_alloc w4 _ g hg)
            have hb05 := hb04.same (hold5 G0 hb04.lt hne0)
            have hb15 := hb14.same (hold5 G1 hb14.lt hne1)
            have hr5 : Rc R s k4 w5 := ⟨by rw [hold5 R hr4.lt hneR]; exact hr4.blk⟩
            have hst5 : Step R w w5 := ⟨hgr5.os.trans hst4.os, hgr5.tape.trans hst4.tape, hgr5.output.trans hst4.output, by have := hst4.size; omega, fun g hg hn => (hold5 g (by have := hst4.size; omega) (fun e => by have := (hkd4.choose_spec.1.lt g e).1; omega)).trans (hst4.block g hg hn)⟩
            have m6 := hb15.p4
            have m7 := hb15.free 4
            refine hK _ _ ?_
            clear hK K
            refine wpAny_take (i := 8) (v := ?_) rfl (by kernel_rfl) (by kernel_rfl) (by kernel_rfl) (fun _ _ _ h => h) (Or.inl ⟨by rfl, ?_⟩) ?_
            rotate_left 1
            · (intro w; go_simp) <;> with_reducible rfl
            refine wpAny_ready (rs := [9]) (by kernel_rfl) (by simp) ?_
            refine AllReady.cons rfl (fun K hK => ?_) AllReady.nil
            go_simp
            refine hK _ _ ?_
            clear hK K
            refine wpAny_done (by kernel_rfl) ?_ _
            go_wp2_with fail
            go_meet
            exact ⟨k4, _, hk4e, hk4, ⟨by rw [Below.heap_setCell _ _ _ _ (by show R ≠ G1; omega)]; exact hr5.blk⟩, hst5.setNew (by omega) _ _, by simp [World.setCell]; omega, hb05.same (Below.heap_setCell _ _ _ _ (by show G0 ≠ G1; omega)), hb15.set4 _, hkd5.same (fun g hg hl => Below.heap_setCell _ _ _ _ (by show g ≠ G1; omega))⟩
          · go_simp
            go_wp2_with fail
            refine hval.mono ?_
            rintro e' w4 ⟨hs4, c0, c1, c2, c3, c4, rfl, hn4, k4, hk4, hk4e, hr4⟩
            have hst4 : Step R w w4 := Step.trans (w' := wr.drew) hst.drew hs4
            have hb04 : Bx G0 _ _ _ _ _ w4 := hb0.drew.keep hs4 (by omega)
            have hb14 : Bx G1 _ _ _ _ _ w4 := hb1.drew.keep hs4 (by omega)
            have hkd4 : Kids B none v kids w4 := hkd.same (fun g hg hl => hs4.block g hl (by omega))
            have hz4 : wr.heap.size ≤ w4.heap.size := hs4.size
            have m4 : w4.cell? ⟨G1, 4, none⟩ = some v := hb14.p4
            have m5 : (w4.alloc (Obj.cells #[c0, c1, c2, c3, c4] 27)).cell? ⟨G1, 4, none⟩ = some v := (hb14.alloc _).p4
            go_wp2_with fail
            refine wpAny_ready (rs := [1, 6]) (by kernel_rfl) (by simp) ?_
            refine AllReady.cons rfl (fun K hK => ?_) (AllReady.cons rfl (fun K hK => ?_) AllReady.nil)
            · go_simp
              refine hK _ _ ?_
              clear hK K
              refine wpAny_ready (rs := [6]) (by kernel_rfl) (by simp) ?_
              refine AllReady.cons rfl (fun K hK => ?_) AllReady.nil
              go_simp
              refine hK _ _ ?_
              clear hK K
              refine wpAny_ready (rs := [7]) (by kernel_rfl) (by simp) ?_
              refine AllReady.cons rfl (fun K hK => ?_) AllReady.nil
              refine Kids.step rfl (.tmp 14) (.tmp 19) rfl B none _ v kids (hkd4.same (fun g hg hl => Below.heap_alloc w4 (Obj.cells #[c0, c1, c2, c3, c4] 27) g hl)) j c0 c1 c2 c3 c4 wr.heap.size (hn4.keep (fun g hg hl => ⟨hg, Below.heap_alloc w4 _ g hl⟩)) hBs hvn (fun g e => by cases e) w4.heap.size _ (0, 0) (Kit.fresh_block w4 _ _) (by first | rfl | simp [Act.eval, Act.put]) (by first | rfl | simp [Act.eval, Act.put]) (by omega) (by simp; omega) ?_
              intro g5 cap5 w5 hkd5 hgr5 hat5
              have hsz5 : w4.heap.size + 1 ≤ w5.heap.size := by have := hgr5.size; simpa using this
              have hne0 : v.ownBlock ≠ some G0 := fun e => by have := (hkd4.choose_spec.1.lt G0 e).1; omega
              have hne1 : v.ownBlock ≠ some G1 := fun e => by have := (hkd4.choose_spec.1.lt G1 e).1; omega
              have hneR : v.ownBlock ≠ some R := fun e => by have := (hkd4.choose_spec.1.lt R e).1; omega
              have hold5 : ∀ g, g < w4.heap.size → v.ownBlock ≠ some g → w5.heap[g]? = w4.heap[g]? := fun g hg hn => (hgr5.block g (by simp; omega) (fun e => hn e.symm)).trans (Below.heap_alloc w4 _ g hg)
              have hb05 := hb04.same (hold5 G0 hb04.lt hne0)
              have hb15 := hb14.same (hold5 G1 hb14.lt hne1)
              have hr5 : Rc R s k4 w5 := ⟨by rw [hold5 R hr4.lt hneR]; exact hr4.blk⟩
              have hst5 : Step R w w5 := ⟨hgr5.os.trans hst4.os, hgr5.tape.trans hst4.tape, hgr5.output.trans hst4.output, by have := hst4.size; omega, fun g hg hn => (hold5 g (by have := hst4.size; omega) (fun e => by have := (hkd4.choose_spec.1.lt g e).1; omega)).trans (hst4.block g hg hn)⟩
              have m6 := hb15.p4
              have m7 := hb15.free 4
              refine hK _ _ ?_
              clear hK K
              refine wpAny_take (i := 8) (v := ?_) rfl (by kernel_rfl) (by kernel_rfl) (by kernel_rfl) (fun _ _ _ h => h) (Or.inl ⟨by rfl, ?_⟩) ?_
              rotate_left 1
              · (intro w; go_simp) <;> with_reducible rfl
              refine wpAny_ready (rs := [9]) (by kernel_rfl) (by simp) ?_
              refine AllReady.cons rfl (fun K hK => ?_) AllReady.nil
              go_simp
              refine hK _ _ ?_
              clear hK K
              refine wpAny_done (by kernel_rfl) ?_ _
              go_wp2_with fail
              go_meet
              exact ⟨k4, _, hk4e, hk4, ⟨by rw [Below.heap_setCell _ _ _ _ (by show R ≠ G1; omega)]; exact hr5.blk⟩, hst5.setNew (by omega) _ _, by simp [World.setCell]; omega, hb05.same (Below.heap_setCell _ _ _ _ (by show G0 ≠ G1; omega)), hb15.set4 _, hkd5.same (fun g hg hl => Below.heap_setCell _ _ _ _ (by show g ≠ G1; omega))⟩
            · go_simp
              refine hK _ _ ?_
              clear hK K
              refine wpAny_ready (rs := [1]) (by kernel_rfl) (by simp) ?_
              refine AllReady.cons rfl (fun K hK => ?_) AllReady.nil
              go_simp
              refine hK _ _ ?_
              clear hK K
              refine wpAny_ready (rs := [7]) (by kernel_rfl) (by simp) ?_
              refine AllReady.cons rfl (fun K hK => ?_) AllReady.nil
              refine Kids.step rfl (.tmp 14) (.tmp 19) rfl B none _ v kids (hkd4.same (fun g hg hl => Below.heap_alloc w4 (Obj.cells #[c0, c1, c2, c3, c4] 27) g hl)) j c0 c1 c2 c3 c4 wr.heap.size (hn4.keep (fun g hg hl => ⟨hg, Below.heap_alloc w4 _ g hl⟩)) hBs hvn (fun g e => by cases e) w4.heap.size _ (0, 0) (Kit.fresh_block w4 _ _) (by first | rfl | simp [Act.eval, Act.put]) (by first | rfl | simp [Act.eval, Act.put]) (by omega) (by simp; omega) ?_
              intro g5 cap5 w5 hkd5 hgr5 hat5
              have hsz5 : w4.heap.size + 1 ≤ w5.heap.size := by have := hgr5.size; simpa using this
              have hne0 : v.ownBlock ≠ some G0 := fun e => by have := (hkd4.choose_spec.1.lt G0 e).1; omega
              have hne1 : v.ownBlock ≠ some G1 := fun e => by have := (hkd4.choose_spec.1.lt G1 e).1; omega
              have hneR : v.ownBlock ≠ some R := fun e => by have := (hkd4.choose_spec.1.lt R e).1; omega
              have hold5 : ∀ g, g < w4.heap.size → v.ownBlock ≠ some g → w5.heap[g]? = w4.heap[g]? := fun g hg hn => (hgr5.block g (by simp; omega) (fun e => hn e.symm)).trans (Below.heap_alloc w4 _ g hg)
              have hb05 := hb04.same (hold5 G0 hb04.lt hne0)
              have hb15 := hb14.same (hold5 G1 hb14.lt hne1)
              have hr5 : Rc R s k4 w5 := ⟨by rw [hold5 R hr4.lt hneR]; exact hr4.blk⟩
              have hst5 : Step R w w5 := ⟨hgr5.os.trans hst4.os, hgr5.tape.trans hst4.tape, hgr5.output.trans hst4.output, by have := hst4.size; omega, fun g hg hn => (hold5 g (by have := hst4.size; omega) (fun e => by have := (hkd4.choose_spec.1.lt g e).1; omega)).trans (hst4.block g hg hn)⟩
              have m6 := hb15.p4
              have m7 := hb15.free 4
              refine hK _ _ ?_
              clear hK K
              refine wpAny_take (i := 8) (v := ?_) rfl (by kernel_rfl) (by kernel_rfl) (by kernel_rfl) (fun _ _ _ h => h) (Or.inl ⟨by rfl, ?_⟩) ?_
              rotate_left 1
              · (intro w; go_simp) <;> with_reducible rfl
              refine wpAny_ready (rs := [9]) (by kernel_rfl) (by simp) ?_
              refine AllReady.cons rfl (fun K hK => ?_) AllReady.nil
              go_simp
              refine hK _ _ ?_
              clear hK K
              refine wpAny_done (by kernel_rfl) ?_ _
              go_wp2_with fail
              go_meet
              exact ⟨k4, _, hk4e, hk4, ⟨by rw [Below.heap_setCell _ _ _ _ (by show R ≠ G1; omega)]; exact hr5.blk⟩, hst5.setNew (by omega) _ _, by simp [World.setCell]; omega, hb05.same (Below.heap_setCell _ _ _ _ (by show G0 ≠ G1; omega)), hb15.set4 _, hkd5.same (fun g hg hl => Below.heap_setCell _ _ _ _ (by show g ≠ G1; omega))⟩
        case rest =>
          obtain ⟨k4, v4, hre, hk4, hr4, hst4, hB4, hb04, hb14, hkd4⟩ := hcut
          have hqk : q ≤ k4 := val_place (by rw [HV.out, hre.out]) hk4 hq
          rw [hre.out] at HQ2
          clear hr hst hBs hb0 hb1 hkd hval hvn l4 HV hre
          cases hc : eatL 93 (skipL (tail s k4)) with
          | some r1 =>
            have HE := Lib.hid (show O = .ok (listJ false [] (kids ++ [j]), r1) by rw [← HQ2.out, hc])
            have HC := Lib.hid hc
            clear hc HQ2
            go_wp2_with fail
            refine (found_yes R s k4 93 r1 _ hr4 hs hk4 HC.out).mono ?_
            rintro e' w5 ⟨rfl, hs5, k5, hk51, hk52, hk5, hr5⟩
            have hst5 := hst4.trans hs5
            have hb05 := hb04.keep hs5 (by omega)
            have hb15 := hb14.keep hs5 (by omega)
            have hkd5 : Kids B none v4 (kids ++ [j]) w5 := hkd4.same (fun g hg hl => hs5.block g hl (by omega))
            clear hr4 hst4 hB4 hb04 hb14 hkd4 hs5
            obtain ⟨ao, cp, rfl⟩ := hkd5.form
            have p0 := hb15.p0
            have p1 := hb15.p1
            have p2 := hb15.p2
            have p3 := hb15.p3
            have p4 := hb15.p4
            have q0 := hb05.p0
            have q1 := hb05.p1
            have q2 := hb05.p2
            have q3 := hb05.p3
            have q4 := hb05.p4
            have f0 := hb05.free 0
            have f1 := hb05.free 1
            have f2 := hb05.free 2
            have f3 := hb05.free 3
            have f4 := hb05.free 4
            go_wp2_with fail
            refine bodyPost_ret (node_result rfl _ rfl (hb05.setAll _ _ _ _ _)) rfl ?_
            rw [HE.out]
            refine ⟨putN_step hst5 (by omega) _ _ _ _ _, _, _, _, _, _, rfl, ?_, k5, hk52, hk5, ⟨(putN_block w5 G0 _ _ _ _ _ R (by omega)).trans hr5.blk⟩⟩
            refine NodeAt.keep (putN_kept (P := fun g => B ≤ g) (fun g hg => by have : B ≤ g := hg; omega) _ _ _ _ _ |>.trans (P' := fun g => B ≤ g) (kept_mono (fun g hg => by have : B ≤ g := hg; show w.heap.size ≤ g; omega)) (by rw [putN_size]; exact Nat.le_refl _)) ?_
            obtain ⟨cs, q1, q2⟩ := hkd5.read (fun g => B ≤ g) (fun g hg => hg)
            rw [listJ, NodeAt]
            rw [show (kids ++ [j]).length = kids.length + 1 by simp] at q1 ⊢
            exact ⟨_, _, rfl, Or.inl ⟨rfl, rfl, rfl⟩, cs, q1, q2⟩
          | none =>
            have HC := Lib.hid hc
            have HQ3 : Hid ((match eatL 44 (skipL (tail s k4)) with
              | some r1 => itemsG (valueG numC n) false f [] (kids ++ [j]) r1
              | none => .error 3) = O) := by
              have h9 := HQ2.out
              rw [hc] at h9
              exact h9
            clear hc HQ2
            go_wp2_with fail
            refine (found_no R s k4 93 _ hr4 hs hk4 (by decide) HC.out).mono ?_
            rintro e' w5 ⟨rfl, hs5, k5, hk51, hk52, hk5, hr5⟩
            have hst5 := hst4.trans hs5
            have hb05 := hb04.keep hs5 (by omega)
            have hb15 := hb14.keep hs5 (by omega)
            have hkd5 : Kids B none v4 (kids ++ [j]) w5 := hkd4.same (fun g hg hl => hs5.block g hl (by omega))
            have hB5 : B ≤ w5.heap.size := by have := hs5.size; omega
            have hw := want_any R s k5 44 w5 hr5 hs hk52 (by decide)
            have hwl : wantL 44 (tail s k5) = wordO (eatL 44 (skipL (tail s k4))) := by
              show wordO (eatL 44 (skipL (tail s k5))) = _
              rw [← hk5, skip_skip]
            rw [hwl] at hw
            have HQ4 := HQ3.out
            clear hwl HQ3 hr4 hst4 hB4 hb04 hb14 hkd4
            cases he : eatL 44 (skipL (tail s k4)) with
            | none =>
              rw [he] at hw HQ4
              have HE := Lib.hid (show O = .error 3 from HQ4.symm)
              clear HQ4 he
              go_wp2_with fail
              refine hw.mono ?_
              rintro e' w6 ⟨hs6, hL⟩
              obtain rfl : e' = Errs 3 := hL
              go_wp2_with fail
              rw [HE.out]
              exact ⟨rfl, hst5.trans hs6, rfl⟩
            | some r1 =>
              rw [he] at hw HQ4
              have HQ5 : Hid (itemsG (valueG numC n) false f [] (kids ++ [j]) r1 = O) := HQ4
              have hlt := eat_lt he
              have hsl := (skip_suffix (tail s k4)).length_le
              rw [tail_length] at hsl
              have hfl := tail_length s q
              clear HQ4 he
              go_wp2_with fail
              refine hw.mono ?_
              rintro e' w6 ⟨hs6, hL⟩
              obtain ⟨rfl, k6, hk6, rfl, hr6⟩ := hL
              have hst6 := hst5.trans hs6
              have hb06 := hb05.keep hs6 (by omega)
              have hb16 := hb15.keep hs6 (by omega)
              have hkd6 : Kids B none v4 (kids ++ [j]) w6 := hkd5.same (fun g hg hl => hs6.block g hl (by omega))
              have hB6 : B ≤ w6.heap.size := by have := hs6.size; omega
              rw [tail_length] at hlt
              go_wp2_with fail
              go_roundg (s.size - k6)
              case measure => omega
              case rel => exact ⟨k6, f, kids ++ [j], v4, rfl, hk6, by rw [List.length_append, List.length_singleton]; omega, by rw [tail_length]; omega, HQ5, hr6, hst6, hB6, hb06, hb16, hkd6⟩
end Go.Proofs.Ytpnffmimpkimeaa.J7
