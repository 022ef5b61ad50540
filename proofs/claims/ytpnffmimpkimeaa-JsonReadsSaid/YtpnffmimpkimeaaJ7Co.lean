/-
  The program's reader of JSON: objects. Conditions: the text has at most 65536 bytes.
-/
import Derived.Test.YtpnffmimpkimeaaJ7Key
namespace Go.Proofs.Ytpnffmimpkimeaa.J7
open Go Go.RowKit Go.Joins Kit Go.Maps

theorem items_key_err {val : List UInt8 → Out J} {f : Nat} {keys : List ByteArray} {kids : List J} {l : List UInt8} {c : Nat} (h : keyC keys l = .error c) (hf : l.length < f) : itemsG val true f keys kids l = .error c := by
  obtain ⟨f, rfl⟩ : ∃ g, f = g + 1 := ⟨f - 1, by omega⟩
  rw [itemsG]
  show (match keyL keys l with
    | .error e => (.error e : Out J)
    | .ok (ks, l1) => _) = _
  rw [keyL_C, h]
/-- What stands behind a key. -/
def afterKey (val : List UInt8 → Out J) (f : Nat) (ks : List ByteArray) (kids : List J) (o : Out Unit) : Out J := match o with
  | .error e => .error e
  | .ok (_, r1) => match val r1 with
    | .error e => .error e
    | .ok (j, r2) => match eatL 125 (skipL r2) with
      | some r3 => .ok (listJ true ks (kids ++ [j]), r3)
      | none => match eatL 44 (skipL r2) with
        | some r3 => itemsG val true f ks (kids ++ [j]) r3
        | none => .error 3
theorem items_key_ok {val : List UInt8 → Out J} {f : Nat} {keys ks : List ByteArray} {kids : List J} {l r : List UInt8} (h : keyC keys l = .ok (ks, r)) : itemsG val true (f + 1) keys kids l = afterKey val f ks kids (wantL 58 r) := by
  rw [itemsG]
  show (match keyL keys l with
    | .error e => (.error e : Out J)
    | .ok (ks, l1) => _) = _
  rw [keyL_C, h]
  simp only
  unfold afterKey
  cases wantL 58 r with
  | error e => rfl
  | ok x =>
    obtain ⟨u, r1⟩ := x
    simp only
    cases val r1 with
    | error e => rfl
    | ok y => rfl
theorem keyC_place {s : ByteArray} {keys ks : List ByteArray} {k q : Nat} (h : keyC keys (tail s q) = .ok (ks, tail s k)) (hk : k ≤ s.size) (hq : q ≤ s.size) : q ≤ k := by
  unfold keyC at h
  split at h
  · cases h
  · rename_i t r e
    have h1 := quoL_len e
    have h2 := (skip_suffix (tail s q)).length_le
    split at h
    · cases h
    · have e2 := congrArg Prod.snd (Except.ok.inj h)
      simp only at e2
      rw [e2, tail_length] at h1
      rw [tail_length] at h2
      omega

set_option maxHeartbeats 8000000 in
set_option maxRecDepth 100000 in
theorem object_any (s : ByteArray) (n a : Nat) (hs : s.size ≤ 65536) (ha : a < 24) (hv : ValOk s n (a + 1)) (R i : Nat) (w : World) (h : Rc R s i w) (hi : i < s.size) :
    Calls Try.prog 33 #[.pointer (some ⟨R, 0, none⟩), .int .i64 (a : Int)] w fun e' w' => ValLeft R s w (listG (valueG numC n) true (tail s (i + 1))) e' w' := by
  have hsz : (s.size : Int) ≤ 65536 := by omega
  have hai : (a : Int) < 24 := by omega
  have hmm := @run_makeMap Try.prog
  have hRl := h.lt
  obtain ⟨G0, hG0⟩ : ∃ G, w.heap.size = G := ⟨_, rfl⟩
  obtain ⟨O, hO⟩ : ∃ O, listG (valueG numC n) true (tail s (i + 1)) = O := ⟨_, rfl⟩
  rw [hO]
  unfold listG at hO
  have HO := Lib.hid hO
  clear hO
  have hz0 := newZ_bx w
  rw [hG0] at hz0
  have hr0 : Rc R s i (newZ w) := h.alloc _
  have hst0 : Step R w (newZ w) := newZ_step (Step.refl R w)
  go_enter Try.func33, Try.ntmps33
  go_wp2_with fail
  refine (enter_any R s i a (newZ w) hr0 hs (by omega) ha).mono ?_
  rintro e' w1 ⟨rfl, hs1, hr1⟩
  have hst1 := hst0.trans hs1
  have hb01 := hz0.keep hs1 (by omega)
  obtain ⟨G1, hG1⟩ : ∃ G, w1.heap.size = G := ⟨_, rfl⟩
  have h01 : G0 < G1 := by rw [← hG1]; exact hb01.lt
  have hr2 : Rc R s (i + 1) (newN w1 7) := ⟨by rw [newN_block _ _ _ hr1.lt]; exact hr1.blk⟩
  have hst2 := newN_step hst1 7
  have hb02 := hb01.same (newN_block w1 7 G0 (by omega))
  have hb12 := newN_bx w1 7
  have hs2 := newN_size w1 7
  rw [hG1] at hb12 hs2
  clear hr0 hst0 hz0 hr1 hst1 hb01 hs1
  cases hc : eatL 125 (skipL (tail s (i + 1))) with
  | some r =>
    have HE : Hid (O = .ok (listJ true [] [], r)) := by
      show O = _
      rw [← HO.out]
      show (match eatL 125 (skipL (tail s (i + 1))) with
        | some r => (.ok (listJ true [] [], r) : Out J)
        | none => _) = _
      rw [hc]
    have HC := Lib.hid hc
    clear hc HO
    go_wp2_with fail
    (try rw [hG1])
    refine (found_yes R s (i + 1) 125 r (newN w1 7) hr2 hs (by omega) HC.out).mono ?_
    rintro e' w3 ⟨rfl, hs3, k, hk1, hk2, hk, hr3⟩
    have hst3 := hst2.trans hs3
    have hb03 := hb02.keep hs3 (by omega)
    have hb13 := hb12.keep hs3 (by omega)
    have p0 := hb13.p0
    have p1 := hb13.p1
    have p2 := hb13.p2
    have p3 := hb13.p3
    have p4 := hb13.p4
    have q0 := hb03.p0
    have q1 := hb03.p1
    have q2 := hb03.p2
    have q3 := hb03.p3
    have q4 := hb03.p4
    have f0 := hb03.free 0
    have f1 := hb03.free 1
    have f2 := hb03.free 2
    have f3 := hb03.free 3
    have f4 := hb03.free 4
    go_wp2_with fail
    refine bodyPost_ret (node_result rfl _ rfl (hb03.setAll _ _ _ _ _)) rfl ?_
    rw [HE.out]
    exact ⟨putN_step hst3 (by omega) _ _ _ _ _, _, _, _, _, _, rfl, node_plain _ _ _ _ _, k, hk2, hk, ⟨(putN_block w3 G0 _ _ _ _ _ R (by omega)).trans hr3.blk⟩⟩
  | none =>
    have HC := Lib.hid hc
    have HQ : Hid (itemsG (valueG numC n) true ((tail s (i + 1)).length + 1) [] [] (skipL (tail s (i + 1))) = O) := by
      show _ = O
      rw [← HO.out]
      show _ = (match eatL 125 (skipL (tail s (i + 1))) with
        | some r => (.ok (listJ true [] [], r) : Out J)
        | none => _)
      rw [hc]
    clear hc HO
    go_wp2_with fail
    (try rw [hG1])
    refine (found_no R s (i + 1) 125 (newN w1 7) hr2 hs (by omega) (by decide) HC.out).mono ?_
    rintro e' w2 ⟨rfl, hs3, k, hk1, hk2, hk, hr3'⟩
    have hst3' := hst2.trans hs3
    have hb03' := hb02.keep hs3 (by omega)
    have hb13' := hb12.keep hs3 (by omega)
    have HQ3 : Hid (itemsG (valueG numC n) true ((tail s (i + 1)).length + 1) [] [] (tail s k) = O) := by
      show _ = O
      rw [← hk]; exact HQ.out
    have hl3 : (tail s k).length < (tail s (i + 1)).length + 1 := by rw [tail_length, tail_length]; omega
    obtain ⟨M, hM⟩ : ∃ M, w2.heap.size = M := ⟨_, rfl⟩
    have h1M : G1 < M := by rw [← hM]; exact hb13'.lt
    have hst3 : Step R w (w2.alloc (.map #[] 0)) := hst3'.alloc _
    have hr3 : Rc R s k (w2.alloc (.map #[] 0)) := hr3'.alloc _
    have hb03 := hb03'.alloc (.map #[] 0)
    have hb13 := hb13'.alloc (.map #[] 0)
    have hm3 : Seen M [] (w2.alloc (.map #[] 0)) := by rw [← hM]; exact World.ownsMap_made w2 _ _ _
    have hB : (w2.alloc (.map #[] 0)).heap.size = M + 1 := by rw [← hM]; simp
    clear hst2 hb02 hb12 hs2 hr2 HQ HC hs3 hk hst3' hb03' hb13' hr3'
    go_wp2_with fail
    (try rw [hM])
    obtain ⟨w3, hw3⟩ : ∃ w3, w2.alloc (.map #[] 0) = w3 := ⟨_, rfl⟩
    rw [hw3] at hst3 hr3 hb03 hb13 hm3 hB
    (try rw [hw3])
    clear hw3
    obtain ⟨B, hBe⟩ : ∃ B, M + 1 = B := ⟨_, rfl⟩
    rw [hBe] at hB
    have hMB : M < B := by omega
    go_loopg [] (s.size - k) (fun m wr => ∃ (q f : Nat) (keys : List ByteArray) (kids : List J) (kv v : Value), m = s.size - q ∧ q ≤ s.size ∧ kids.length ≤ q ∧ keys.length ≤ q ∧ (tail s q).length < f ∧ Hid (itemsG (valueG numC n) true f keys kids (tail s q) = O) ∧ Rc R s q wr ∧ Step R w wr ∧ B ≤ wr.heap.size ∧ Bx G0 (.int .i64 0) (.int .i64 0) (.string { data := #[] }) (.slice none 0 0) (.slice none 0 0) wr ∧ Bx G1 (.int .i64 7) (.int .i64 0) (.string { data := #[] }) kv v wr ∧ wr.ownsRow B 9 1 kv keys.length (strs keys) ∧ Kids B kv.ownBlock v kids wr ∧ Seen M keys wr)
    case atStart => exact ⟨k, _, [], [], _, _, rfl, hk2, Nat.zero_le _, Nat.zero_le _, hl3, HQ3, hr3, hst3, by omega, hb03, hb13, World.ownsRow_nil _ _ _ _, kids_empty _ _ _, hm3⟩
    case round =>
      clear hst3 hb03 hb13 hr3 HQ3 hl3 hm3 hmm
      obtain ⟨q, f, keys, kids, kv, v, rfl, hq, hkl, hyl, hf, HQ, hr, hst, hBs, hb0, hb1, hky, hkd, hsm⟩ := hrel
      have hkey := key_any R M s q keys wr.drew ⟨hr.blk⟩ hs hq (hsm.same rfl) (by omega) (by omega)
      have l3 : wr.drew.cell? ⟨G1, 3, none⟩ = some kv := hb1.p3
      obtain ⟨o, ho⟩ : ∃ o, keyC keys (tail s q) = o := ⟨_, rfl⟩
      rw [ho] at hkey
      match o, ho, hkey with
      | .error c, ho, hkey =>
        have HE := Lib.hid (show O = .error c by rw [← HQ.out]; exact items_key_err ho hf)
        clear HQ ho
        go_upto_region 6 with fail
        refine wp_region_any (by kernel_rfl) ?_
        try (change wpAny _ _ _ _ _ _ _ (World.drew _))
        refine wpAny_take (i := 0) (v := ?_) rfl (by kernel_rfl) (by kernel_rfl) (by kernel_rfl) (fun _ _ _ h => h) (Or.inl ⟨by rfl, ?_⟩) ?_
        rotate_left 1
        · (intro w; go_simp) <;> with_reducible rfl
        refine wpAny_take (i := 2) (v := ?_) rfl (by kernel_rfl) (by kernel_rfl) (by kernel_rfl) (fun _ _ _ h => h) (Or.inl ⟨by rfl, ?_⟩) ?_
        rotate_left 1
        · (intro w; go_simp) <;> with_reducible rfl
        refine wpAny_take (i := 3) (v := ?_) rfl (by kernel_rfl) (by kernel_rfl) (by kernel_rfl) (fun _ _ _ h => h) (Or.inl ⟨by rfl, ?_⟩) ?_
        rotate_left 1
        · (intro w; go_simp) <;> with_reducible rfl
        refine wpAny_ready (rs := [1, 4]) (by kernel_rfl) (by simp) ?_
        refine AllReady.cons rfl (fun K hK => ?_) (AllReady.cons rfl (fun K hK => ?_) AllReady.nil)
        · go_simp
          refine hK _ _ ?_
          clear hK K
          refine wpAny_ready (rs := [4]) (by kernel_rfl) (by simp) ?_
          refine AllReady.cons rfl (fun K hK => ?_) AllReady.nil
          go_simp
          go_wp2_with fail
          refine hkey.mono ?_
          rintro e' w4 ⟨hs4, hL⟩
          obtain rfl : e' = Errs c := hL
          have hst4 : Step R w w4 := ⟨hs4.os.trans hst.os, hs4.tape.trans hst.tape, hs4.output.trans hst.output, Nat.le_trans hst.size hs4.size, fun g hg hn => (hs4.block g (by have := hst.size; show g < wr.heap.size; omega) hn (by omega)).trans (hst.block g hg hn)⟩
          go_wp2_with fail
          rw [HE.out]
          exact ⟨rfl, hst4, rfl⟩
        · go_simp
          go_wp2_with fail
          refine hkey.mono ?_
          rintro e' w4 ⟨hs4, hL⟩
          obtain rfl : e' = Errs c := hL
          have hst4 : Step R w w4 := ⟨hs4.os.trans hst.os, hs4.tape.trans hst.tape, hs4.output.trans hst.output, Nat.le_trans hst.size hs4.size, fun g hg hn => (hs4.block g (by have := hst.size; show g < wr.heap.size; omega) hn (by omega)).trans (hst.block g hg hn)⟩
          go_wp2_with fail
          rw [HE.out]
          exact ⟨rfl, hst4, rfl⟩
      | .ok (ks, r), ho, hkey =>
        obtain ⟨f, rfl⟩ : ∃ g, f = g + 1 := ⟨f - 1, by omega⟩
        have HQ2 := Lib.hid ((items_key_ok (val := valueG numC n) (f := f) (kids := kids) ho).symm.trans HQ.out)
        have HV := Lib.hid ho
        clear HQ ho
        go_upto_region 6 with fail
        go_cut [] from 15 (fun wx => ∃ k4 kv4, Hid (r = tail s k4) ∧ k4 ≤ s.size ∧ ks.length = keys.length + 1 ∧ Rc R s k4 wx ∧ Step R w wx ∧ B ≤ wx.heap.size ∧ Bx G0 (.int .i64 0) (.int .i64 0) (.string { data := #[] }) (.slice none 0 0) (.slice none 0 0) wx ∧ Bx G1 (.int .i64 7) (.int .i64 0) (.string { data := #[] }) kv4 v wx ∧ wx.ownsRow B 9 1 kv4 ks.length (strs ks) ∧ Kids B kv4.ownBlock v kids wx ∧ Seen M ks wx)
        case first =>
          refine wp_region_any (by kernel_rfl) ?_
          try (change wpAny _ _ _ _ _ _ _ (World.drew _))
          refine wpAny_take (i := 0) (v := ?_) rfl (by kernel_rfl) (by kernel_rfl) (by kernel_rfl) (fun _ _ _ h => h) (Or.inl ⟨by rfl, ?_⟩) ?_
          rotate_left 1
          · (intro w; go_simp) <;> with_reducible rfl
          refine wpAny_take (i := 2) (v := ?_) rfl (by kernel_rfl) (by kernel_rfl) (by kernel_rfl) (fun _ _ _ h => h) (Or.inl ⟨by rfl, ?_⟩) ?_
          rotate_left 1
          · (intro w; go_simp) <;> with_reducible rfl
          refine wpAny_take (i := 3) (v := ?_) rfl (by kernel_rfl) (by kernel_rfl) (by kernel_rfl) (fun _ _ _ h => h) (Or.inl ⟨by rfl, ?_⟩) ?_
          rotate_left 1
          · (intro w; go_simp) <;> with_reducible rfl
          refine wpAny_ready (rs := [1, 4]) (by kernel_rfl) (by simp) ?_
          refine AllReady.cons rfl (fun K hK => ?_) (AllReady.cons rfl (fun K hK => ?_) AllReady.nil)
          · go_simp
            refine hK _ _ ?_
            clear hK K
            refine wpAny_ready (rs := [4]) (by kernel_rfl) (by simp) ?_
            refine AllReady.cons rfl (fun K hK => ?_) AllReady.nil
            go_simp
            go_wp2_with fail
            refine hkey.mono ?_
            rintro e' w4 ⟨hs4, kb, rfl, rfl, hm4, k4, hk4, hk4e, hr4⟩
            have hst4 : Step R w w4 := ⟨hs4.os.trans hst.os, hs4.tape.trans hst.tape, hs4.output.trans hst.output, Nat.le_trans hst.size hs4.size, fun g hg hn => (hs4.block g (by have := hst.size; show g < wr.heap.size; omega) hn (by omega)).trans (hst.block g hg hn)⟩
            have hblk4 : ∀ g, g < wr.heap.size → g ≠ R → g ≠ M → w4.heap[g]? = wr.heap[g]? := hs4.block
            have hb04 := hb0.same (hblk4 G0 hb0.lt (by omega) (by omega))
            have hb14 := hb1.same (hblk4 G1 hb1.lt (by omega) (by omega))
            have hky4 : w4.ownsRow B 9 1 kv keys.length (strs keys) := own_keep5 hky (fun g hg hl => hblk4 g hl (by have := (hky.lt g hg).1; omega) (by have := (hky.lt g hg).1; omega))
            have hkd4 : Kids B kv.ownBlock v kids w4 := hkd.same (fun g hg hl => hblk4 g hl (by omega) (by omega))
            have hz4 : wr.heap.size ≤ w4.heap.size := hs4.size
            have m4 : w4.cell? ⟨G1, 3, none⟩ = some kv := hb14.p3
            have m5 : (w4.alloc (Obj.cells #[.string kb] 9)).cell? ⟨G1, 3, none⟩ = some kv := (hb14.alloc _).p3
            go_wp2_with fail
            refine wpAny_ready (rs := [5]) (by kernel_rfl) (by simp) ?_
            refine AllReady.cons rfl (fun K hK => ?_) AllReady.nil
            go_simp
            refine hK _ _ ?_
            clear hK K
            refine wpAny_ready (rs := [6]) (by kernel_rfl) (by simp) ?_
            refine AllReady.cons rfl (fun K hK => ?_) AllReady.nil
            refine key_step rfl (.tmp 16) (.tmp 20) rfl B _ kv keys (hky4.alloc _) kb w4.heap.size _ (0, 0) (Kit.fresh_block w4 _ _) (by first | rfl | simp [Act.eval, Act.put]) (by first | rfl | simp [Act.eval, Act.put]) (by omega) (by simp; omega) ?_
            intro g5 cap5 w5 hky5 hgr5 hat5
            have hsz5 : w4.heap.size + 1 ≤ w5.heap.size := by have := hgr5.size; simpa using this
            have hold5 : ∀ g, g < w4.heap.size → kv.ownBlock ≠ some g → w5.heap[g]? = w4.heap[g]? := fun g hg hn => (hgr5.block g (by simp; omega) (fun e => hn e.symm)).trans (Below.heap_alloc w4 _ g hg)
            have hne : ∀ g, g < B → kv.ownBlock ≠ some g := fun g hg e => by have := (hky4.lt g e).1; omega
            have hb05 := hb04.same (hold5 G0 hb04.lt (hne G0 (by omega)))
            have hb15 := hb14.same (hold5 G1 hb14.lt (hne G1 (by omega)))
            have hr5 : Rc R s k4 w5 := ⟨by rw [hold5 R hr4.lt (hne R (by omega))]; exact hr4.blk⟩
            have hm5 : Seen M (keys ++ [kb]) w5 := hm4.same (hold5 M (World.ownsMap.lt hm4) (hne M hMB))
            have hst5 : Step R w w5 := ⟨hgr5.os.trans hst4.os, hgr5.tape.trans hst4.tape, hgr5.output.trans hst4.output, by have := hst4.size; omega, fun g hg hn => (hold5 g (by have := hst4.size; omega) (hne g (by omega))).trans (hst4.block g hg hn)⟩
            have hkd5 : Kids B (some g5) v kids w5 := (hkd4.same (w' := w4.alloc (Obj.cells #[.string kb] 9)) (fun g hg hl => Below.heap_alloc w4 _ g hl)).beside hgr5 (fun g hg => own_ne (hkd4.choose_spec.1) hky4 (by decide) hg) (fun g e => by have e' : g5 = g := Option.some.inj e; subst e'; exact hat5)
            have m6 := hb15.p3
            have m7 := hb15.free 3
            refine hK _ _ ?_
            clear hK K
            refine wpAny_take (i := 7) (v := ?_) rfl (by kernel_rfl) (by kernel_rfl) (by kernel_rfl) (fun _ _ _ h => h) (Or.inl ⟨by rfl, ?_⟩) ?_
            rotate_left 1
            · (intro w; go_simp) <;> with_reducible rfl
            refine wpAny_ready (rs := [8]) (by kernel_rfl) (by simp) ?_
            refine AllReady.cons rfl (fun K hK => ?_) AllReady.nil
            go_simp
            refine hK _ _ ?_
            clear hK K
            refine wpAny_done (by kernel_rfl) ?_ _
            go_wp2_with fail
            go_meet
            exact ⟨k4, _, hk4e, hk4, by simp, ⟨(Below.heap_setCell _ _ _ _ (by show R ≠ G1; omega)).trans hr5.blk⟩, hst5.setNew (by omega) _ _, by simp [World.setCell]; omega, hb05.same (Below.heap_setCell _ _ _ _ (by show G0 ≠ G1; omega)), hb15.set3 _, own_keep5 hky5 (fun g hg hl => Below.heap_setCell _ _ _ _ (by have := (hky5.lt g hg).1; show g ≠ G1; omega)), hkd5.same (fun g hg hl => Below.heap_setCell _ _ _ _ (by show g ≠ G1; omega)), hm5.same (Below.heap_setCell _ _ _ _ (by show M ≠ G1; omega))⟩
          · go_simp
            go_wp2_with fail
            refine hkey.mono ?_
            rintro e' w4 ⟨hs4, kb, rfl, rfl, hm4, k4, hk4, hk4e, hr4⟩
            have hst4 : Step R w w4 := ⟨hs4.os.trans hst.os, hs4.tape.trans hst.tape, hs4.output.trans hst.output, Nat.le_trans hst.size hs4.size, fun g hg hn => (hs4.block g (by have := hst.size; show g < wr.heap.size; omega) hn (by omega)).trans (hst.block g hg hn)⟩
            have hblk4 : ∀ g, g < wr.heap.size → g ≠ R → g ≠ M → w4.heap[g]? = wr.heap[g]? := hs4.block
            have hb04 := hb0.same (hblk4 G0 hb0.lt (by omega) (by omega))
            have hb14 := hb1.same (hblk4 G1 hb1.lt (by omega) (by omega))
            have hky4 : w4.ownsRow B 9 1 kv keys.length (strs keys) := own_keep5 hky (fun g hg hl => hblk4 g hl (by have := (hky.lt g hg).1; omega) (by have := (hky.lt g hg).1; omega))
            have hkd4 : Kids B kv.ownBlock v kids w4 := hkd.same (fun g hg hl => hblk4 g hl (by omega) (by omega))
            have hz4 : wr.heap.size ≤ w4.heap.size := hs4.size
            have m4 : w4.cell? ⟨G1, 3, none⟩ = some kv := hb14.p3
            have m5 : (w4.alloc (Obj.cells #[.string kb] 9)).cell? ⟨G1, 3, none⟩ = some kv := (hb14.alloc _).p3
            go_wp2_with fail
            refine wpAny_ready (rs := [1, 5]) (by kernel_rfl) (by simp) ?_
            refine AllReady.cons rfl (fun K hK => ?_) (AllReady.cons rfl (fun K hK => ?_) AllReady.nil)
            · go_simp
              refine hK _ _ ?_
              clear hK K
              refine wpAny_ready (rs := [5]) (by kernel_rfl) (by simp) ?_
              refine AllReady.cons rfl (fun K hK => ?_) AllReady.nil
              go_simp
              refine hK _ _ ?_
              clear hK K
              refine wpAny_ready (rs := [6]) (by kernel_rfl) (by simp) ?_
              refine AllReady.cons rfl (fun K hK => ?_) AllReady.nil
              refine key_step rfl (.tmp 16) (.tmp 20) rfl B _ kv keys (hky4.alloc _) kb w4.heap.size _ (0, 0) (Kit.fresh_block w4 _ _) (by first | rfl | simp [Act.eval, Act.put]) (by first | rfl | simp [Act.eval, Act.put]) (by omega) (by simp; omega) ?_
              intro g5 cap5 w5 hky5 hgr5 hat5
              have hsz5 : w4.heap.size + 1 ≤ w5.heap.size := by have := hgr5.size; simpa using this
              have hold5 : ∀ g, g < w4.heap.size → kv.ownBlock ≠ some g → w5.heap[g]? = w4.heap[g]? := fun g hg hn => (hgr5.block g (by simp; omega) (fun e => hn e.symm)).trans (Below.heap_alloc w4 _ g hg)
              have hne : ∀ g, g < B → kv.ownBlock ≠ some g := fun g hg e => by have := (hky4.lt g e).1; omega
              have hb05 := hb04.same (hold5 G0 hb04.lt (hne G0 (by omega)))
              have hb15 := hb14.same (hold5 G1 hb14.lt (hne G1 (by omega)))
              have hr5 : Rc R s k4 w5 := ⟨by rw [hold5 R hr4.lt (hne R (by omega))]; exact hr4.blk⟩
              have hm5 : Seen M (keys ++ [kb]) w5 := hm4.same (hold5 M (World.ownsMap.lt hm4) (hne M hMB))
              have hst5 : Step R w w5 := ⟨hgr5.os.trans hst4.os, hgr5.tape.trans hst4.tape, hgr5.output.trans hst4.output, by have := hst4.size; omega, fun g hg hn => (hold5 g (by have := hst4.size; omega) (hne g (by omega))).trans (hst4.block g hg hn)⟩
              have hkd5 : Kids B (some g5) v kids w5 := (hkd4.same (w' := w4.alloc (Obj.cells #[.string kb] 9)) (fun g hg hl => Below.heap_alloc w4 _ g hl)).beside hgr5 (fun g hg => own_ne (hkd4.choose_spec.1) hky4 (by decide) hg) (fun g e => by have e' : g5 = g := Option.some.inj e; subst e'; exact hat5)
              have m6 := hb15.p3
              have m7 := hb15.free 3
              refine hK _ _ ?_
              clear hK K
              refine wpAny_take (i := 7) (v := ?_) rfl (by kernel_rfl) (by kernel_rfl) (by kernel_rfl) (fun _ _ _ h => h) (Or.inl ⟨by rfl, ?_⟩) ?_
              rotate_left 1
              · (intro w; go_simp) <;> with_reducible rfl
              refine wpAny_ready (rs := [8]) (by kernel_rfl) (by simp) ?_
              refine AllReady.cons rfl (fun K hK => ?_) AllReady.nil
              go_simp
              refine hK _ _ ?_
              clear hK K
              refine wpAny_done (by kernel_rfl) ?_ _
              go_wp2_with fail
              go_meet
              exact ⟨k4, _, hk4e, hk4, by simp, ⟨(Below.heap_setCell _ _ _ _ (by show R ≠ G1; omega)).trans hr5.blk⟩, hst5.setNew (by omega) _ _, by simp [World.setCell]; omega, hb05.same (Below.heap_setCell _ _ _ _ (by show G0 ≠ G1; omega)), hb15.set3 _, own_keep5 hky5 (fun g hg hl => Below.heap_setCell _ _ _ _ (by have := (hky5.lt g hg).1; show g ≠ G1; omega)), hkd5.same (fun g hg hl => Below.heap_setCell _ _ _ _ (by show g ≠ G1; omega)), hm5.same (Below.heap_setCell _ _ _ _ (by show M ≠ G1; omega))⟩
            · go_simp
              refine hK _ _ ?_
              clear hK K
              refine wpAny_ready (rs := [1]) (by kernel_rfl) (by simp) ?_
              refine AllReady.cons rfl (fun K hK => ?_) AllReady.nil
              go_simp
              refine hK _ _ ?_
              clear hK K
              refine wpAny_ready (rs := [6]) (by kernel_rfl) (by simp) ?_
              refine AllReady.cons rfl (fun K hK => ?_) AllReady.nil
              refine key_step rfl (.tmp 16) (.tmp 20) rfl B _ kv keys (hky4.alloc _) kb w4.heap.size _ (0, 0) (Kit.fresh_block w4 _ _) (by first | rfl | simp [Act.eval, Act.put]) (by first | rfl | simp [Act.eval, Act.put]) (by omega) (by simp; omega) ?_
              intro g5 cap5 w5 hky5 hgr5 hat5
              have hsz5 : w4.heap.size + 1 ≤ w5.heap.size := by have := hgr5.size; simpa using this
              have hold5 : ∀ g, g < w4.heap.size → kv.ownBlock ≠ some g → w5.heap[g]? = w4.heap[g]? := fun g hg hn => (hgr5.block g (by simp; omega) (fun e => hn e.symm)).trans (Below.heap_alloc w4 _ g hg)
              have hne : ∀ g, g < B → kv.ownBlock ≠ some g := fun g hg e => by have := (hky4.lt g e).1; omega
              have hb05 := hb04.same (hold5 G0 hb04.lt (hne G0 (by omega)))
              have hb15 := hb14.same (hold5 G1 hb14.lt (hne G1 (by omega)))
              have hr5 : Rc R s k4 w5 := ⟨by rw [hold5 R hr4.lt (hne R (by omega))]; exact hr4.blk⟩
              have hm5 : Seen M (keys ++ [kb]) w5 := hm4.same (hold5 M (World.ownsMap.lt hm4) (hne M hMB))
              have hst5 : Step R w w5 := ⟨hgr5.os.trans hst4.os, hgr5.tape.trans hst4.tape, hgr5.output.trans hst4.output, by have := hst4.size; omega, fun g hg hn => (hold5 g (by have := hst4.size; omega) (hne g (by omega))).trans (hst4.block g hg hn)⟩
              have hkd5 : Kids B (some g5) v kids w5 := (hkd4.same (w' := w4.alloc (Obj.cells #[.string kb] 9)) (fun g hg hl => Below.heap_alloc w4 _ g hl)).beside hgr5 (fun g hg => own_ne (hkd4.choose_spec.1) hky4 (by decide) hg) (fun g e => by have e' : g5 = g := Option.some.inj e; subst e'; exact hat5)
              have m6 := hb15.p3
              have m7 := hb15.free 3
              refine hK _ _ ?_
              clear hK K
              refine wpAny_take (i := 7) (v := ?_) rfl (by kernel_rfl) (by kernel_rfl) (by kernel_rfl) (fun _ _ _ h => h) (Or.inl ⟨by rfl, ?_⟩) ?_
              rotate_left 1
              · (intro w; go_simp) <;> with_reducible rfl
              refine wpAny_ready (rs := [8]) (by kernel_rfl) (by simp) ?_
              refine AllReady.cons rfl (fun K hK => ?_) AllReady.nil
              go_simp
              refine hK _ _ ?_
              clear hK K
              refine wpAny_done (by kernel_rfl) ?_ _
              go_wp2_with fail
              go_meet
              exact ⟨k4, _, hk4e, hk4, by simp, ⟨(Below.heap_setCell _ _ _ _ (by show R ≠ G1; omega)).trans hr5.blk⟩, hst5.setNew (by omega) _ _, by simp [World.setCell]; omega, hb05.same (Below.heap_setCell _ _ _ _ (by show G0 ≠ G1; omega)), hb15.set3 _, own_keep5 hky5 (fun g hg hl => Below.heap_setCell _ _ _ _ (by have := (hky5.lt g hg).1; show g ≠ G1; omega)), hkd5.same (fun g hg hl => Below.heap_setCell _ _ _ _ (by show g ≠ G1; omega)), hm5.same (Below.heap_setCell _ _ _ _ (by show M ≠ G1; omega))⟩
        case rest =>
          obtain ⟨k4, kv4, hre, hk4, hkn, hr4, hst4, hB4, hb04, hb14, hky4, hkd4, hm4⟩ := hcut
          have hqk : q ≤ k4 := keyC_place (by rw [HV.out, hre.out]) hk4 hq
          rw [hre.out] at HQ2
          clear hr hst hBs hb0 hb1 hkd hky hsm hkey l3 HV hre
          have hw := want_any R s k4 58 _ hr4 hs hk4 (by decide)
          obtain ⟨o1, ho1⟩ : ∃ o1, wantL 58 (tail s k4) = o1 := ⟨_, rfl⟩
          have HQ3 := HQ2.out
          rw [ho1] at hw HQ3
          match o1, ho1, hw, HQ3 with
          | .error c, _, hw, HQ3 =>
            have HE := Lib.hid (show O = .error c from HQ3.symm)
            clear HQ3 HQ2
            go_wp2_with fail
            refine hw.mono ?_
            rintro e' w5 ⟨hs5, hL⟩
            obtain rfl : e' = Errs c := hL
            go_wp2_with fail
            rw [HE.out]
            exact ⟨rfl, hst4.trans hs5, rfl⟩
          | .ok (u, r1), ho1, hw, HQ3 =>
            have HQ4 := Lib.hid HQ3
            have HO1 := Lib.hid ho1
            clear HQ3 HQ2 ho1
            go_upto_region 8 with fail
            refine hw.mono ?_
            rintro e' w5 ⟨hs5, hL⟩
            obtain ⟨rfl, k5, hk5, rfl, hr5⟩ := hL
            have hst5 := hst4.trans hs5
            have hb05 := hb04.keep hs5 (by omega)
            have hb15 := hb14.keep hs5 (by omega)
            have hky5 : w5.ownsRow B 9 1 kv4 ks.length (strs ks) := own_keep5 hky4 (fun g hg hl => hs5.block g hl (by have := (hky4.lt g hg).1; omega))
            have hkd5 : Kids B kv4.ownBlock v kids w5 := hkd4.same (fun g hg hl => hs5.block g hl (by omega))
            have hm5 : Seen M ks w5 := hm4.same (hs5.block M (World.ownsMap.lt hm4) (by omega))
            have hB5 : B ≤ w5.heap.size := by have := hs5.size; omega
            have hkk : k4 < k5 := by
              have h9 := HO1.out
              unfold wantL at h9
              split at h9
              · rename_i rr er
                have e9 := congrArg Prod.snd (Except.ok.inj h9)
                simp only at e9
                have h10 := eat_lt er
                have h11 := (skip_suffix (tail s k4)).length_le
                rw [e9, tail_length] at h10
                rw [tail_length] at h11
                omega
              · cases h9
            clear hr4 hst4 hB4 hb04 hb14 hky4 hkd4 hm4 hs5 hw HO1
            have hval := hv R k5 w5.drew ⟨hr5.blk⟩ hk5
            rw [show ((a + 1 : Nat) : Int) = (a : Int) + 1 by omega] at hval
            have hwr : IntKind.i64.wrap ((a : Int) + 1) = (a : Int) + 1 := by rw [IntKind.wrap_i64]; omega
            have hvn := fun g (hg : v.ownBlock = some g) => show g < w5.heap.size from ((hkd5.choose_spec.1).lt g hg).2
            have hxn := fun g (hg : kv4.ownBlock = some g) => show g < w5.heap.size from (hky5.lt g hg).2
            have l4 : w5.drew.cell? ⟨G1, 4, none⟩ = some v := hb15.p4
            obtain ⟨o, ho⟩ : ∃ o, valueG numC n (tail s k5) = o := ⟨_, rfl⟩
            rw [ho] at hval
            match o, ho, hval with
            | .error c, ho, hval =>
              have HE : Hid (O = .error c) := by
                show O = _
                rw [← HQ4.out]
                unfold afterKey
                simp only [ho]
              clear HQ4 ho
              go_upto_region 8 with fail
              refine wp_region_any (by kernel_rfl) ?_
              try (change wpAny _ _ _ _ _ _ _ (World.drew _))
              refine wpAny_take (i := 0) (v := ?_) rfl (by kernel_rfl) (by kernel_rfl) (by kernel_rfl) (fun _ _ _ h => h) (Or.inl ⟨by rfl, ?_⟩) ?_
              rotate_left 1
              · (intro w; go_simp) <;> with_reducible rfl
              refine wpAny_take (i := 2) (v := ?_) rfl (by kernel_rfl) (by kernel_rfl) (by kernel_rfl) (fun _ _ _ h => h) (Or.inl ⟨by rfl, ?_⟩) ?_
              rotate_left 1
              · (intro w; go_simp) <;> with_reducible rfl
              refine wpAny_take (i := 3) (v := ?_) rfl (by kernel_rfl) (by kernel_rfl) (by kernel_rfl) (fun _ _ _ h => h) (Or.inl ⟨by rfl, ?_⟩) ?_
              rotate_left 1
              · (intro w; go_simp) <;> with_reducible rfl
              refine wpAny_take (i := 4) (v := ?_) rfl (by kernel_rfl) (by kernel_rfl) (by kernel_rfl) (fun _ _ _ h => h) (Or.inl ⟨by rfl, ?_⟩) ?_
              rotate_left 1
              · (intro w; go_simp) <;> with_reducible rfl
              refine wpAny_ready (rs := [1, 5]) (by kernel_rfl) (by simp) ?_
              refine AllReady.cons rfl (fun K hK => ?_) (AllReady.cons rfl (fun K hK => ?_) AllReady.nil)
              · go_simp
                refine hK _ _ ?_
                clear hK K
                refine wpAny_ready (rs := [5]) (by kernel_rfl) (by simp) ?_
                refine AllReady.cons rfl (fun K hK => ?_) AllReady.nil
                go_simp
                go_wp2_with fail
                refine hval.mono ?_
                rintro e' w6 ⟨hs6, hL⟩
                obtain rfl : e' = Errs c := hL
                have hst6 : Step R w w6 := Step.trans (w' := w5.drew) hst5.drew hs6
                go_wp2_with fail
                rw [HE.out]
                exact ⟨rfl, hst6, rfl⟩
              · go_simp
                go_wp2_with fail
                refine hval.mono ?_
                rintro e' w6 ⟨hs6, hL⟩
                obtain rfl : e' = Errs c := hL
                have hst6 : Step R w w6 := Step.trans (w' := w5.drew) hst5.drew hs6
                go_wp2_with fail
                rw [HE.out]
                exact ⟨rfl, hst6, rfl⟩
            | .ok (j, r), ho, hval =>
              have HQ5 : Hid ((match eatL 125 (skipL r) with
                | some r3 => (.ok (listJ true ks (kids ++ [j]), r3) : Out J)
                | none => match eatL 44 (skipL r) with
                  | some r3 => itemsG (valueG numC n) true f ks (kids ++ [j]) r3
                  | none => .error 3) = O) := by
                have h9 := HQ4.out
                unfold afterKey at h9
                simp only [ho] at h9
                exact h9
              have HV := Lib.hid ho
              clear HQ4 ho
              go_upto_region 8 with fail
              go_cut [] from 25 (fun wx => ∃ k6 v6, Hid (r = tail s k6) ∧ k6 ≤ s.size ∧ Rc R s k6 wx ∧ Step R w wx ∧ B ≤ wx.heap.size ∧ Bx G0 (.int .i64 0) (.int .i64 0) (.string { data := #[] }) (.slice none 0 0) (.slice none 0 0) wx ∧ Bx G1 (.int .i64 7) (.int .i64 0) (.string { data := #[] }) kv4 v6 wx ∧ wx.ownsRow B 9 1 kv4 ks.length (strs ks) ∧ Kids B kv4.ownBlock v6 (kids ++ [j]) wx ∧ Seen M ks wx)
              case first =>
                refine wp_region_any (by kernel_rfl) ?_
                try (change wpAny _ _ _ _ _ _ _ (World.drew _))
                refine wpAny_take (i := 0) (v := ?_) rfl (by kernel_rfl) (by kernel_rfl) (by kernel_rfl) (fun _ _ _ h => h) (Or.inl ⟨by rfl, ?_⟩) ?_
                rotate_left 1
                · (intro w; go_simp) <;> with_reducible rfl
                refine wpAny_take (i := 2) (v := ?_) rfl (by kernel_rfl) (by kernel_rfl) (by kernel_rfl) (fun _ _ _ h => h) (Or.inl ⟨by rfl, ?_⟩) ?_
                rotate_left 1
                · (intro w; go_simp) <;> with_reducible rfl
                refine wpAny_take (i := 3) (v := ?_) rfl (by kernel_rfl) (by kernel_rfl) (by kernel_rfl) (fun _ _ _ h => h) (Or.inl ⟨by rfl, ?_⟩) ?_
                rotate_left 1
                · (intro w; go_simp) <;> with_reducible rfl
                refine wpAny_take (i := 4) (v := ?_) rfl (by kernel_rfl) (by kernel_rfl) (by kernel_rfl) (fun _ _ _ h => h) (Or.inl ⟨by rfl, ?_⟩) ?_
                rotate_left 1
                · (intro w; go_simp) <;> with_reducible rfl
                refine wpAny_ready (rs := [1, 5]) (by kernel_rfl) (by simp) ?_
                refine AllReady.cons rfl (fun K hK => ?_) (AllReady.cons rfl (fun K hK => ?_) AllReady.nil)
                · go_simp
                  refine hK _ _ ?_
                  clear hK K
                  refine wpAny_ready (rs := [5]) (by kernel_rfl) (by simp) ?_
                  refine AllReady.cons rfl (fun K hK => ?_) AllReady.nil
                  go_simp
                  go_wp2_with fail
                  refine hval.mono ?_
                  rintro e' w6 ⟨hs6, c0, c1, c2, c3, c4, rfl, hn6, k6, hk6, hk6e, hr6⟩
                  have hst6 : Step R w w6 := Step.trans (w' := w5.drew) hst5.drew hs6
                  have hb06 : Bx G0 _ _ _ _ _ w6 := hb05.drew.keep hs6 (by omega)
                  have hb16 : Bx G1 _ _ _ _ _ w6 := hb15.drew.keep hs6 (by omega)
                  have hky6 : w6.ownsRow B 9 1 kv4 ks.length (strs ks) := own_keep5 hky5 (fun g hg hl => hs6.block g hl (by have := (hky5.lt g hg).1; omega))
                  have hkd6 : Kids B kv4.ownBlock v kids w6 := hkd5.same (fun g hg hl => hs6.block g hl (by omega))
                  have hm6 : Seen M ks w6 := hm5.same (hs6.block M (World.ownsMap.lt hm5) (by omega))
                  have hz6 : w5.heap.size ≤ w6.heap.size := hs6.size
                  have m4 : w6.cell? ⟨G1, 4, none⟩ = some v := hb16.p4
                  have m5 : (w6.alloc (Obj.cells #[c0, c1, c2, c3, c4] 27)).cell? ⟨G1, 4, none⟩ = some v := (hb16.alloc _).p4
                  go_wp2_with fail
                  refine wpAny_ready (rs := [6]) (by kernel_rfl) (by simp) ?_
                  refine AllReady.cons rfl (fun K hK => ?_) AllReady.nil
                  go_simp
                  refine hK _ _ ?_
                  clear hK K
                  refine wpAny_ready (rs := [7]) (by kernel_rfl) (by simp) ?_
                  refine AllReady.cons rfl (fun K hK => ?_) AllReady.nil
                  refine Kids.step rfl (.tmp 26) (.tmp 31) rfl B kv4.ownBlock _ v kids (hkd6.same (fun g hg hl => Below.heap_alloc w6 (Obj.cells #[c0, c1, c2, c3, c4] 27) g hl)) j c0 c1 c2 c3 c4 w5.heap.size (hn6.keep (fun g hg hl => ⟨hg, Below.heap_alloc w6 _ g hl⟩)) hB5 hvn hxn w6.heap.size _ (0, 0) (Kit.fresh_block w6 _ _) (by first | rfl | simp [Act.eval, Act.put]) (by first | rfl | simp [Act.eval, Act.put]) (by omega) (by simp; omega) ?_
                  intro g7 cap7 w7 hkd7 hgr7 hat7
                  have hsz7 : w6.heap.size + 1 ≤ w7.heap.size := by have := hgr7.size; simpa using this
                  have hne : ∀ g, g < B → v.ownBlock ≠ some g := fun g hg e => by have := (hkd6.choose_spec.1.lt g e).1; omega
                  have hold7 : ∀ g, g < w6.heap.size → v.ownBlock ≠ some g → w7.heap[g]? = w6.heap[g]? := fun g hg hn => (hgr7.block g (by simp; omega) (fun e => hn e.symm)).trans (Below.heap_alloc w6 _ g hg)
                  have hb07 := hb06.same (hold7 G0 hb06.lt (hne G0 (by omega)))
                  have hb17 := hb16.same (hold7 G1 hb16.lt (hne G1 (by omega)))
                  have hr7 : Rc R s k6 w7 := ⟨by rw [hold7 R hr6.lt (hne R (by omega))]; exact hr6.blk⟩
                  have hm7 : Seen M ks w7 := hm6.same (hold7 M (World.ownsMap.lt hm6) (hne M hMB))
                  have hky7 : w7.ownsRow B 9 1 kv4 ks.length (strs ks) := own_keep5 hky6 (fun g hg hl => hold7 g hl (own_ne hky6 (hkd6.choose_spec.1) (by decide) hg))
                  have hst7 : Step R w w7 := ⟨hgr7.os.trans hst6.os, hgr7.tape.trans hst6.tape, hgr7.output.trans hst6.output, by have := hst6.size; omega, fun g hg hn => (hold7 g (by have := hst6.size; omega) (hne g (by omega))).trans (hst6.block g hg hn)⟩
                  have m6 := hb17.p4
                  have m7 := hb17.free 4
                  refine hK _ _ ?_
                  clear hK K
                  refine wpAny_take (i := 8) (v := ?_) rfl (by kernel_rfl) (by kernel_rfl) (by kernel_rfl) (fun _ _ _ h => h) (Or.inl ⟨by rfl, ?_⟩) ?_
                  rotate_left 1
                  · (intro w; go_simp) <;> with_reducible rfl
                  refine wpAny_ready (rs := [9]) (by kernel_rfl) (by simp) ?_
                  refine AllReady.cons rfl (fun K hK => ?_) AllReady.nil
                  go_simp
                  refine hK _ _ ?_
                  clear hK K
                  refine wpAny_done (by kernel_rfl) ?_ _
                  go_wp2_with fail
                  go_meet
                  exact ⟨k6, _, hk6e, hk6, ⟨(Below.heap_setCell _ _ _ _ (by show R ≠ G1; omega)).trans hr7.blk⟩, hst7.setNew (by omega) _ _, by simp [World.setCell]; omega, hb07.same (Below.heap_setCell _ _ _ _ (by show G0 ≠ G1; omega)), hb17.set4 _, own_keep5 hky7 (fun g hg hl => Below.heap_setCell _ _ _ _ (by have := (hky7.lt g hg).1; show g ≠ G1; omega)), hkd7.same (fun g hg hl => Below.heap_setCell _ _ _ _ (by show g ≠ G1; omega)), hm7.same (Below.heap_setCell _ _ _ _ (by show M ≠ G1; omega))⟩
                · go_simp
                  go_wp2_with fail
                  refine hval.mono ?_
                  rintro e' w6 ⟨hs6, c0, c1, c2, c3, c4, rfl, hn6, k6, hk6, hk6e, hr6⟩
                  have hst6 : Step R w w6 := Step.trans (w' := w5.drew) hst5.drew hs6
                  have hb06 : Bx G0 _ _ _ _ _ w6 := hb05.drew.keep hs6 (by omega)
                  have hb16 : Bx G1 _ _ _ _ _ w6 := hb15.drew.keep hs6 (by omega)
                  have hky6 : w6.ownsRow B 9 1 kv4 ks.length (strs ks) := own_keep5 hky5 (fun g hg hl => hs6.block g hl (by have := (hky5.lt g hg).1; omega))
                  have hkd6 : Kids B kv4.ownBlock v kids w6 := hkd5.same (fun g hg hl => hs6.block g hl (by omega))
                  have hm6 : Seen M ks w6 := hm5.same (hs6.block M (World.ownsMap.lt hm5) (by omega))
                  have hz6 : w5.heap.size ≤ w6.heap.size := hs6.size
                  have m4 : w6.cell? ⟨G1, 4, none⟩ = some v := hb16.p4
                  have m5 : (w6.alloc (Obj.cells #[c0, c1, c2, c3, c4] 27)).cell? ⟨G1, 4, none⟩ = some v := (hb16.alloc _).p4
                  go_wp2_with fail
                  refine wpAny_ready (rs := [1, 6]) (by kernel_rfl) (by simp) ?_
                  refine AllReady.cons rfl (fun K hK => ?_) (AllReady.cons rfl (fun K hK => ?_) AllReady.nil)
                  · go_simp
                    refine hK _ _ ?_
                    clear hK K
                    refine wpAny_ready (rs := [6]) (by kernel_rfl) (by simp) ?_
                    refine AllReady.cons rfl (fun K hK => ?_) AllReady.nil
                    go_simp
                    refine hK _ _ ?_
                    clear hK K
                    refine wpAny_ready (rs := [7]) (by kernel_rfl) (by simp) ?_
                    refine AllReady.cons rfl (fun K hK => ?_) AllReady.nil
                    refine Kids.step rfl (.tmp 26) (.tmp 31) rfl B kv4.ownBlock _ v kids (hkd6.same (fun g hg hl => Below.heap_alloc w6 (Obj.cells #[c0, c1, c2, c3, c4] 27) g hl)) j c0 c1 c2 c3 c4 w5.heap.size (hn6.keep (fun g hg hl => ⟨hg, Below.heap_alloc w6 _ g hl⟩)) hB5 hvn hxn w6.heap.size _ (0, 0) (Kit.fresh_block w6 _ _) (by first | rfl | simp [Act.eval, Act.put]) (by first | rfl | simp [Act.eval, Act.put]) (by omega) (by simp; omega) ?_
                    intro g7 cap7 w7 hkd7 hgr7 hat7
                    have hsz7 : w6.heap.size + 1 ≤ w7.heap.size := by have := hgr7.size; simpa using this
                    have hne : ∀ g, g < B → v.ownBlock ≠ some g := fun g hg e => by have := (hkd6.choose_spec.1.lt g e).1; omega
                    have hold7 : ∀ g, g < w6.heap.size → v.ownBlock ≠ some g → w7.heap[g]? = w6.heap[g]? := fun g hg hn => (hgr7.block g (by simp; omega) (fun e => hn e.symm)).trans (Below.heap_alloc w6 _ g hg)
                    have hb07 := hb06.same (hold7 G0 hb06.lt (hne G0 (by omega)))
                    have hb17 := hb16.same (hold7 G1 hb16.lt (hne G1 (by omega)))
                    have hr7 : Rc R s k6 w7 := ⟨by rw [hold7 R hr6.lt (hne R (by omega))]; exact hr6.blk⟩
                    have hm7 : Seen M ks w7 := hm6.same (hold7 M (World.ownsMap.lt hm6) (hne M hMB))
                    have hky7 : w7.ownsRow B 9 1 kv4 ks.length (strs ks) := own_keep5 hky6 (fun g hg hl => hold7 g hl (own_ne hky6 (hkd6.choose_spec.1) (by decide) hg))
                    have hst7 : Step R w w7 := ⟨hgr7.os.trans hst6.os, hgr7.tape.trans hst6.tape, hgr7.output.trans hst6.output, by have := hst6.size; omega, fun g hg hn => (hold7 g (by have := hst6.size; omega) (hne g (by omega))).trans (hst6.block g hg hn)⟩
                    have m6 := hb17.p4
                    have m7 := hb17.free 4
                    refine hK _ _ ?_
                    clear hK K
                    refine wpAny_take (i := 8) (v := ?_) rfl (by kernel_rfl) (by kernel_rfl) (by kernel_rfl) (fun _ _ _ h => h) (Or.inl ⟨by rfl, ?_⟩) ?_
                    rotate_left 1
                    · (intro w; go_simp) <;> with_reducible rfl
                    refine wpAny_ready (rs := [9]) (by kernel_rfl) (by simp) ?_
                    refine AllReady.cons rfl (fun K hK => ?_) AllReady.nil
                    go_simp
                    refine hK _ _ ?_
                    clear hK K
                    refine wpAny_done (by kernel_rfl) ?_ _
                    go_wp2_with fail
                    go_meet
                    exact ⟨k6, _, hk6e, hk6, ⟨(Below.heap_setCell _ _ _ _ (by show R ≠ G1; omega)).trans hr7.blk⟩, hst7.setNew (by omega) _ _, by simp [World.setCell]; omega, hb07.same (Below.heap_setCell _ _ _ _ (by show G0 ≠ G1; omega)), hb17.set4 _, own_keep5 hky7 (fun g hg hl => Below.heap_setCell _ _ _ _ (by have := (hky7.lt g hg).1; show g ≠ G1; omega)), hkd7.same (fun g hg hl => Below.heap_setCell _ _ _ _ (by show g ≠ G1; omega)), hm7.same (Below.heap_setCell _ _ _ _ (by show M ≠ G1; omega))⟩
                  · go_simp
                    refine hK _ _ ?_
                    clear hK K
                    refine wpAny_ready (rs := [1]) (by kernel_rfl) (by simp) ?_
                    refine AllReady.cons rfl (fun K hK => ?_) AllReady.nil
                    go_simp
                    refine hK _ _ ?_
                    clear hK K
                    refine wpAny_ready (rs := [7]) (by kernel_rfl) (by simp) ?_
                    refine AllReady.cons rfl (fun K hK => ?_) AllReady.nil
                    refine Kids.step rfl (.tmp 26) (.tmp 31) rfl B kv4.ownBlock _ v kids (hkd6.same (fun g hg hl => Below.heap_alloc w6 (Obj.cells #[c0, c1, c2, c3, c4] 27) g hl)) j c0 c1 c2 c3 c4 w5.heap.size (hn6.keep (fun g hg hl => ⟨hg, Below.heap_alloc w6 _ g hl⟩)) hB5 hvn hxn w6.heap.size _ (0, 0) (Kit.fresh_block w6 _ _) (by first | rfl | simp [Act.eval, Act.put]) (by first | rfl | simp [Act.eval, Act.put]) (by omega) (by simp; omega) ?_
                    intro g7 cap7 w7 hkd7 hgr7 hat7
                    have hsz7 : w6.heap.size + 1 ≤ w7.heap.size := by have := hgr7.size; simpa using this
                    have hne : ∀ g, g < B → v.ownBlock ≠ some g := fun g hg e => by have := (hkd6.choose_spec.1.lt g e).1; omega
                    have hold7 : ∀ g, g < w6.heap.size → v.ownBlock ≠ some g → w7.heap[g]? = w6.heap[g]? := fun g hg hn => (hgr7.block g (by simp; omega) (fun e => hn e.symm)).trans (Below.heap_alloc w6 _ g hg)
                    have hb07 := hb06.same (hold7 G0 hb06.lt (hne G0 (by omega)))
                    have hb17 := hb16.same (hold7 G1 hb16.lt (hne G1 (by omega)))
                    have hr7 : Rc R s k6 w7 := ⟨by rw [hold7 R hr6.lt (hne R (by omega))]; exact hr6.blk⟩
                    have hm7 : Seen M ks w7 := hm6.same (hold7 M (World.ownsMap.lt hm6) (hne M hMB))
                    have hky7 : w7.ownsRow B 9 1 kv4 ks.length (strs ks) := own_keep5 hky6 (fun g hg hl => hold7 g hl (own_ne hky6 (hkd6.choose_spec.1) (by decide) hg))
                    have hst7 : Step R w w7 := ⟨hgr7.os.trans hst6.os, hgr7.tape.trans hst6.tape, hgr7.output.trans hst6.output, by have := hst6.size; omega, fun g hg hn => (hold7 g (by have := hst6.size; omega) (hne g (by omega))).trans (hst6.block g hg hn)⟩
                    have m6 := hb17.p4
                    have m7 := hb17.free 4
                    refine hK _ _ ?_
                    clear hK K
                    refine wpAny_take (i := 8) (v := ?_) rfl (by kernel_rfl) (by kernel_rfl) (by kernel_rfl) (fun _ _ _ h => h) (Or.inl ⟨by rfl, ?_⟩) ?_
                    rotate_left 1
                    · (intro w; go_simp) <;> with_reducible rfl
                    refine wpAny_ready (rs := [9]) (by kernel_rfl) (by simp) ?_
                    refine AllReady.cons rfl (fun K hK => ?_) AllReady.nil
                    go_simp
                    refine hK _ _ ?_
                    clear hK K
                    refine wpAny_done (by kernel_rfl) ?_ _
                    go_wp2_with fail
                    go_meet
                    exact ⟨k6, _, hk6e, hk6, ⟨(Below.heap_setCell _ _ _ _ (by show R ≠ G1; omega)).trans hr7.blk⟩, hst7.setNew (by omega) _ _, by simp [World.setCell]; omega, hb07.same (Below.heap_setCell _ _ _ _ (by show G0 ≠ G1; omega)), hb17.set4 _, own_keep5 hky7 (fun g hg hl => Below.heap_setCell _ _ _ _ (by have := (hky7.lt g hg).1; show g ≠ G1; omega)), hkd7.same (fun g hg hl => Below.heap_setCell _ _ _ _ (by show g ≠ G1; omega)), hm7.same (Below.heap_setCell _ _ _ _ (by show M ≠ G1; omega))⟩
              case rest =>
                obtain ⟨k6, v6, hre, hk6, hr6, hst6, hB6, hb06, hb16, hky6, hkd6, hm6⟩ := hcut
                have hkk6 : k5 ≤ k6 := val_place (by rw [HV.out, hre.out]) hk6 hk5
                rw [hre.out] at HQ5
                clear hr5 hst5 hB5 hb05 hb15 hkd5 hky5 hm5 hval hvn hxn l4 HV hre
                cases hc : eatL 125 (skipL (tail s k6)) with
                | some r1 =>
                  have HE := Lib.hid (show O = .ok (listJ true ks (kids ++ [j]), r1) by rw [← HQ5.out, hc])
                  have HC := Lib.hid hc
                  clear hc HQ5
                  go_wp2_with fail
                  refine (found_yes R s k6 125 r1 _ hr6 hs hk6 HC.out).mono ?_
                  rintro e' w7 ⟨rfl, hs7, k7, hk71, hk72, hk7, hr7⟩
                  have hst7 := hst6.trans hs7
                  have hb07 := hb06.keep hs7 (by omega)
                  have hb17 := hb16.keep hs7 (by omega)
                  have hky7 : w7.ownsRow B 9 1 kv4 ks.length (strs ks) := own_keep5 hky6 (fun g hg hl => hs7.block g hl (by have := (hky6.lt g hg).1; omega))
                  have hkd7 : Kids B kv4.ownBlock v6 (kids ++ [j]) w7 := hkd6.same (fun g hg hl => hs7.block g hl (by omega))
                  clear hr6 hst6 hB6 hb06 hb16 hky6 hkd6 hm6 hs7
                  obtain ⟨bo, bp, rfl⟩ := own_form hky7
                  obtain ⟨ao, cp, rfl⟩ := hkd7.form
                  have p0 := hb17.p0
                  have p1 := hb17.p1
                  have p2 := hb17.p2
                  have p3 := hb17.p3
                  have p4 := hb17.p4
                  have z0 := hb07.p0
                  have z1 := hb07.p1
                  have z2 := hb07.p2
                  have z3 := hb07.p3
                  have z4 := hb07.p4
                  have f0 := hb07.free 0
                  have f1 := hb07.free 1
                  have f2 := hb07.free 2
                  have f3 := hb07.free 3
                  have f4 := hb07.free 4
                  go_wp2_with fail
                  refine bodyPost_ret (node_result rfl _ rfl (hb07.setAll _ _ _ _ _)) rfl ?_
                  rw [HE.out]
                  refine ⟨putN_step hst7 (by omega) _ _ _ _ _, _, _, _, _, _, rfl, ?_, k7, hk72, hk7, ⟨(putN_block w7 G0 _ _ _ _ _ R (by omega)).trans hr7.blk⟩⟩
                  refine NodeAt.keep (putN_kept (P := fun g => B ≤ g) (fun g hg => by have : B ≤ g := hg; omega) _ _ _ _ _ |>.trans (P' := fun g => B ≤ g) (kept_mono (fun g hg => by have : B ≤ g := hg; show w.heap.size ≤ g; omega)) (by rw [putN_size]; exact Nat.le_refl _)) ?_
                  obtain ⟨cs, y1, y2⟩ := hkd7.read (fun g => B ≤ g) (fun g hg => hg)
                  have y3 := cells_own (P := fun g => B ≤ g) hky7 (fun g hg => hg)
                  rw [listJ, NodeAt]
                  rw [show (kids ++ [j]).length = kids.length + 1 by simp] at y1 ⊢
                  rw [hkn] at y3 ⊢
                  exact ⟨_, _, rfl, y3, cs, y1, y2⟩
                | none =>
                  have HC := Lib.hid hc
                  have HQ6 : Hid ((match eatL 44 (skipL (tail s k6)) with
                    | some r1 => itemsG (valueG numC n) true f ks (kids ++ [j]) r1
                    | none => .error 3) = O) := by
                    have h9 := HQ5.out
                    rw [hc] at h9
                    exact h9
                  clear hc HQ5
                  go_wp2_with fail
                  refine (found_no R s k6 125 _ hr6 hs hk6 (by decide) HC.out).mono ?_
                  rintro e' w7 ⟨rfl, hs7, k7, hk71, hk72, hk7, hr7⟩
                  have hst7 := hst6.trans hs7
                  have hb07 := hb06.keep hs7 (by omega)
                  have hb17 := hb16.keep hs7 (by omega)
                  have hky7 : w7.ownsRow B 9 1 kv4 ks.length (strs ks) := own_keep5 hky6 (fun g hg hl => hs7.block g hl (by have := (hky6.lt g hg).1; omega))
                  have hkd7 : Kids B kv4.ownBlock v6 (kids ++ [j]) w7 := hkd6.same (fun g hg hl => hs7.block g hl (by omega))
                  have hm7 : Seen M ks w7 := hm6.same (hs7.block M (World.ownsMap.lt hm6) (by omega))
                  have hB7 : B ≤ w7.heap.size := by have := hs7.size; omega
                  have hw := want_any R s k7 44 w7 hr7 hs hk72 (by decide)
                  have hwl : wantL 44 (tail s k7) = wordO (eatL 44 (skipL (tail s k6))) := by
                    show wordO (eatL 44 (skipL (tail s k7))) = _
                    rw [← hk7, skip_skip]
                  rw [hwl] at hw
                  have HQ7 := HQ6.out
                  clear hwl HQ6 hr6 hst6 hB6 hb06 hb16 hky6 hkd6 hm6
                  cases he : eatL 44 (skipL (tail s k6)) with
                  | none =>
                    rw [he] at hw HQ7
                    have HE := Lib.hid (show O = .error 3 from HQ7.symm)
                    clear HQ7 he
                    go_wp2_with fail
                    refine hw.mono ?_
                    rintro e' w8 ⟨hs8, hL⟩
                    obtain rfl : e' = Errs 3 := hL
                    go_wp2_with fail
                    rw [HE.out]
                    exact ⟨rfl, hst7.trans hs8, rfl⟩
                  | some r1 =>
                    rw [he] at hw HQ7
                    have HQ8 : Hid (itemsG (valueG numC n) true f ks (kids ++ [j]) r1 = O) := HQ7
                    have hlt := eat_lt he
                    have hsl := (skip_suffix (tail s k6)).length_le
                    rw [tail_length] at hsl
                    have hfl := tail_length s q
                    clear HQ7 he
                    go_wp2_with fail
                    refine hw.mono ?_
                    rintro e' w8 ⟨hs8, hL⟩
                    obtain ⟨rfl, k8, hk8, rfl, hr8⟩ := hL
                    have hst8 := hst7.trans hs8
                    have hb08 := hb07.keep hs8 (by omega)
                    have hb18 := hb17.keep hs8 (by omega)
                    have hky8 : w8.ownsRow B 9 1 kv4 ks.length (strs ks) := own_keep5 hky7 (fun g hg hl => hs8.block g hl (by have := (hky7.lt g hg).1; omega))
                    have hkd8 : Kids B kv4.ownBlock v6 (kids ++ [j]) w8 := hkd7.same (fun g hg hl => hs8.block g hl (by omega))
                    have hm8 : Seen M ks w8 := hm7.same (hs8.block M (World.ownsMap.lt hm7) (by omega))
                    have hB8 : B ≤ w8.heap.size := by have := hs8.size; omega
                    rw [tail_length] at hlt
                    go_wp2_with fail
                    go_roundg (s.size - k8)
                    case measure => omega
                    case rel => exact ⟨k8, f, ks, kids ++ [j], kv4, v6, rfl, hk8, by rw [List.length_append, List.length_singleton]; omega, by omega, by rw [tail_length]; omega, HQ8, hr8, hst8, hB8, hb08, hb18, hky8, hkd8, hm8⟩
end Go.Proofs.Ytpnffmimpkimeaa.J7
