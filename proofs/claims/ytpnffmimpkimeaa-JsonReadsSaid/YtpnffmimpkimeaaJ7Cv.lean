/-
  The program's reader of JSON: a value. Conditions: the text has at most 65536 bytes.
-/
import Derived.Test.YtpnffmimpkimeaaJ7Cl
import Derived.Test.YtpnffmimpkimeaaJ7Co
namespace Go.Proofs.Ytpnffmimpkimeaa.J7
open Go Go.RowKit Go.Joins Kit

/-- The contract of what reads an array, an object, within a others. -/
def LstOk (s : ByteArray) (f : FuncId) (a : Nat) (lst : List UInt8 → Out J) : Prop := ∀ (R i : Nat) (w : World), Rc R s i w → i < s.size →
  Calls Try.prog f #[.pointer (some ⟨R, 0, none⟩), .int .i64 (a : Int)] w fun e' w' => ValLeft R s w (lst (tail s (i + 1))) e' w'
set_option maxHeartbeats 1000000 in
theorem array_deep (s : ByteArray) : LstOk s 32 24 (fun _ => .error 4) := by
  intro R i w h hi
  go_enter Try.func32, Try.ntmps32
  go_wp2_with fail
  refine (enter_deep R (newZ w)).mono ?_
  rintro e' w1 ⟨rfl, hs1⟩
  go_wp2_with fail
  exact ⟨rfl, (newZ_step (Step.refl R w)).trans hs1, rfl⟩
set_option maxHeartbeats 1000000 in
theorem object_deep (s : ByteArray) : LstOk s 33 24 (fun _ => .error 4) := by
  intro R i w h hi
  go_enter Try.func33, Try.ntmps33
  go_wp2_with fail
  refine (enter_deep R (newZ w)).mono ?_
  rintro e' w1 ⟨rfl, hs1⟩
  go_wp2_with fail
  exact ⟨rfl, (newZ_step (Step.refl R w)).trans hs1, rfl⟩
def wordJO (k : Int) (o : Out Unit) : Out J := match o with
  | .error e => .error e
  | .ok (_, r) => .ok (leafJ k, r)
theorem wordJ_O (W l : List UInt8) (k : Int) : wordJ W k l = wordJO k (wantWordL W l) := by
  unfold wordJ wordJO wantWordL
  cases wordL W l <;> rfl
def strJO (o : Out (List UInt8)) : Out J := match o with
  | .error e => .error e
  | .ok (t, r) => .ok (strJ t, r)
theorem textJ_O (r : List UInt8) : textJ r = strJO (quoL (34 :: r)) := by
  unfold textJ strJO quoL
  rw [eatL, if_pos rfl]
  rfl
theorem CellsAt.slice {P : Nat → Prop} {w : World} {n : Nat} {v : Value} {cs : List Value} (h : CellsAt P w n v cs) : ∃ a l m, v = .slice a l m := by
  rcases h with ⟨rfl, _⟩ | ⟨g, o, cap, rfl, _⟩ <;> exact ⟨_, _, _, rfl⟩
theorem NodeAt.forms {P : Nat → Prop} {w : World} {j : J} {c0 c1 c2 c3 c4 : Value} (h : NodeAt P w j (.agg #[c0, c1, c2, c3, c4])) :
    ∃ x0 x1 x2 a3 l3 m3 a4 l4 m4, c0 = .int .i64 x0 ∧ c1 = .int .i64 x1 ∧ c2 = .string x2 ∧ c3 = .slice a3 l3 m3 ∧ c4 = .slice a4 l4 m4 := by
  obtain ⟨k, n, t, keys, kids⟩ := j
  rw [NodeAt] at h
  obtain ⟨kv, vv, e, h2, cs, h3, _⟩ := h
  obtain ⟨a3, l3, m3, rfl⟩ := h2.slice
  obtain ⟨a4, l4, m4, rfl⟩ := h3.slice
  injection e with e
  injection e with e
  injection e with e0 e
  injection e with e1 e
  injection e with e2 e
  injection e with e3 e
  injection e with e4 e
  exact ⟨_, _, _, _, _, _, _, _, _, e0, e1, e2, e3, e4⟩
/-- Which way a value goes, by the byte that is next. -/
theorem valueH_at {num : List UInt8 → Out J} (lst : Bool → List UInt8 → Out J) (h0 : num [] = .error 3) (l m : List UInt8) (hm : skipL l = m) (x : UInt8) (hx : pk m = x) :
    (x = 110 ∧ valueH num lst l = wordJO 1 (wantWordL nullW m)) ∨ (x = 102 ∧ valueH num lst l = wordJO 2 (wantWordL falseW m)) ∨ (x = 116 ∧ valueH num lst l = wordJO 3 (wantWordL trueW m)) ∨ (x = 34 ∧ valueH num lst l = strJO (quoL m)) ∨
    (x = 91 ∧ ∃ r, m = 91 :: r ∧ valueH num lst l = lst false r) ∨ (x = 123 ∧ ∃ r, m = 123 :: r ∧ valueH num lst l = lst true r) ∨
    ((x ≠ 110 ∧ x ≠ 102 ∧ x ≠ 116 ∧ x ≠ 34 ∧ x ≠ 91 ∧ x ≠ 123) ∧ valueH num lst l = num m) := by
  unfold valueH
  rw [hm]
  cases m with
  | nil =>
    obtain rfl : x = 0 := hx.symm
    refine Or.inr (Or.inr (Or.inr (Or.inr (Or.inr (Or.inr ⟨by decide, h0.symm⟩)))))
  | cons c r =>
    obtain rfl : c = x := hx
    simp only
    by_cases h1 : c = 110
    · rw [if_pos h1, wordJ_O]; exact Or.inl ⟨h1, rfl⟩
    rw [if_neg h1]
    by_cases h2 : c = 102
    · rw [if_pos h2, wordJ_O]; exact Or.inr (Or.inl ⟨h2, rfl⟩)
    rw [if_neg h2]
    by_cases h3 : c = 116
    · rw [if_pos h3, wordJ_O]; exact Or.inr (Or.inr (Or.inl ⟨h3, rfl⟩))
    rw [if_neg h3]
    by_cases h4 : c = 34
    · rw [if_pos h4, textJ_O]; subst h4; exact Or.inr (Or.inr (Or.inr (Or.inl ⟨rfl, rfl⟩)))
    rw [if_neg h4]
    by_cases h5 : c = 91
    · rw [if_pos h5]; subst h5; exact Or.inr (Or.inr (Or.inr (Or.inr (Or.inl ⟨rfl, r, rfl, rfl⟩))))
    rw [if_neg h5]
    by_cases h6 : c = 123
    · rw [if_pos h6]; subst h6; exact Or.inr (Or.inr (Or.inr (Or.inr (Or.inr (Or.inl ⟨rfl, r, rfl, rfl⟩)))))
    rw [if_neg h6]
    exact Or.inr (Or.inr (Or.inr (Or.inr (Or.inr (Or.inr ⟨⟨h1, h2, h3, h4, h5, h6⟩, rfl⟩)))))
theorem kept_new {P : Nat → Prop} {w w1 : World} {G : Nat} (hP : ∀ g, P g → w.heap.size ≤ g ∧ g ≠ G) (d0 d1 d2 d3 d4 : Value) : Kept P (fun g => w.heap.size ≤ g) w1 (putN w1 G d0 d1 d2 d3 d4) := fun g hg _ => ⟨(hP g hg).1, putN_block w1 G _ _ _ _ _ g (hP g hg).2⟩

set_option maxHeartbeats 8000000 in
set_option maxRecDepth 100000 in
theorem value_of (s : ByteArray) (a : Nat) (hs : s.size ≤ 65536) (ha : a ≤ 24) (lst : Bool → List UInt8 → Out J) (hA : LstOk s 32 a (lst false)) (hB : LstOk s 33 a (lst true)) (R i : Nat) (w : World) (h : Rc R s i w) (hi : i ≤ s.size) :
    Calls Try.prog 22 #[.pointer (some ⟨R, 0, none⟩), .int .i64 (a : Int)] w fun e' w' => ValLeft R s w (valueH numC lst (tail s i)) e' w' := by
  have hsz : (s.size : Int) ≤ 65536 := by omega
  have hai : (a : Int) ≤ 24 := by omega
  have hRl := h.lt
  obtain ⟨G, hG⟩ : ∃ G, w.heap.size = G := ⟨_, rfl⟩
  have hGR : G ≠ R := by omega
  have hgs : w.heap.size ≤ G := by omega
  obtain ⟨O, hO⟩ : ∃ O, valueH numC lst (tail s i) = O := ⟨_, rfl⟩
  rw [hO]
  have HO := Lib.hid hO
  clear hO
  have hz0 := newZ_bx w
  rw [hG] at hz0
  have hr0 : Rc R s i (newZ w) := h.alloc _
  have hst0 : Step R w (newZ w) := newZ_step (Step.refl R w)
  go_enter Try.func22, Try.ntmps22
  go_wp2_with fail
  refine (skip_any R s i (newZ w) hr0 hs hi).mono ?_
  rintro e' w1 ⟨rfl, k, hk1, hk2, hk, hr1, hs1⟩
  (try rw [hG])
  have hst1 := hst0.trans hs1
  have hb1 := hz0.keep hs1 hGR
  clear hst0 hr0 hz0 hs1
  have hpeek := peek_any R s k w1 hr1 hs
  obtain ⟨x, hx⟩ : ∃ x, pk (tail s k) = x := ⟨_, rfl⟩
  rw [hx] at hpeek
  have hway := valueH_at (num := numC) lst rfl (tail s i) (tail s k) hk x hx
  rw [HO.out] at hway
  clear HO hk hx
  rcases hway with ⟨rfl, e⟩ | ⟨rfl, e⟩ | ⟨rfl, e⟩ | ⟨rfl, e⟩ | ⟨rfl, r, hm, e⟩ | ⟨rfl, r, hm, e⟩ | ⟨⟨n1, n2, n3, n4, n5, n6⟩, e⟩
  · have hw := fun w0 h0 => wantWord_any R s ⟨#[110, 117, 108, 108]⟩ k w0 h0 hs hk2 (by decide)
    obtain ⟨o, ho⟩ : ∃ o, wantWordL nullW (tail s k) = o := ⟨_, rfl⟩
    have hwl : wantWordL (ByteArray.mk #[110, 117, 108, 108]).data.toList (tail s k) = o := ho
    rw [hwl] at hw
    rw [ho] at e
    have HE := Lib.hid e
    clear ho hwl e
    go_wp2_with fail
    refine hpeek.mono ?_
    rintro e' w2 ⟨rfl, hr2, hs2⟩
    have hst2 := hst1.trans hs2
    have hb2 := hb1.keep hs2 hGR
    go_wp2_with fail
    refine (hw _ hr2).mono ?_
    rintro e' w3 ⟨hs3, hL⟩
    have hst3 := hst2.trans hs3
    have hb3 := hb2.keep hs3 hGR
    clear hpeek hw hst1 hb1 hst2 hb2
    have HE2 := HE.out
    clear HE
    match o, hL, HE2 with
    | .error c, hL, HE2 =>
      obtain rfl : e' = Errs c := hL
      have HE := Lib.hid (show O = .error c from HE2)
      clear HE2
      go_wp2_with fail
      rw [HE.out]
      exact ⟨rfl, hst3, rfl⟩
    | .ok (u, r), hL, HE2 =>
      obtain ⟨rfl, k3, hk3, rfl, hr3⟩ := hL
      have HE := Lib.hid (show O = .ok (leafJ 1, tail s k3) from HE2)
      clear HE2
      have q0 := hb3.p0
      have q1 := hb3.p1
      have q2 := hb3.p2
      have q3 := hb3.p3
      have q4 := hb3.p4
      have f0 := hb3.free 0
      have f1 := hb3.free 1
      have f2 := hb3.free 2
      have f3 := hb3.free 3
      have f4 := hb3.free 4
      go_wp2_with fail
      refine bodyPost_ret (node_result rfl _ rfl (hb3.setAll _ _ _ _ _)) rfl ?_
      rw [HE.out]
      exact ⟨putN_step hst3 hgs _ _ _ _ _, _, _, _, _, _, rfl, node_plain _ _ _ _ _, k3, hk3, rfl, ⟨(putN_block w3 G _ _ _ _ _ R hGR.symm).trans hr3.blk⟩⟩
  · have hw := fun w0 h0 => wantWord_any R s ⟨#[102, 97, 108, 115, 101]⟩ k w0 h0 hs hk2 (by decide)
    obtain ⟨o, ho⟩ : ∃ o, wantWordL falseW (tail s k) = o := ⟨_, rfl⟩
    have hwl : wantWordL (ByteArray.mk #[102, 97, 108, 115, 101]).data.toList (tail s k) = o := ho
    rw [hwl] at hw
    rw [ho] at e
    have HE := Lib.hid e
    clear ho hwl e
    go_wp2_with fail
    refine hpeek.mono ?_
    rintro e' w2 ⟨rfl, hr2, hs2⟩
    have hst2 := hst1.trans hs2
    have hb2 := hb1.keep hs2 hGR
    go_wp2_with fail
    refine (hw _ hr2).mono ?_
    rintro e' w3 ⟨hs3, hL⟩
    have hst3 := hst2.trans hs3
    have hb3 := hb2.keep hs3 hGR
    clear hpeek hw hst1 hb1 hst2 hb2
    have HE2 := HE.out
    clear HE
    match o, hL, HE2 with
    | .error c, hL, HE2 =>
      obtain rfl : e' = Errs c := hL
      have HE := Lib.hid (show O = .error c from HE2)
      clear HE2
      go_wp2_with fail
      rw [HE.out]
      exact ⟨rfl, hst3, rfl⟩
    | .ok (u, r), hL, HE2 =>
      obtain ⟨rfl, k3, hk3, rfl, hr3⟩ := hL
      have HE := Lib.hid (show O = .ok (leafJ 2, tail s k3) from HE2)
      clear HE2
      have q0 := hb3.p0
      have q1 := hb3.p1
      have q2 := hb3.p2
      have q3 := hb3.p3
      have q4 := hb3.p4
      have f0 := hb3.free 0
      have f1 := hb3.free 1
      have f2 := hb3.free 2
      have f3 := hb3.free 3
      have f4 := hb3.free 4
      go_wp2_with fail
      refine bodyPost_ret (node_result rfl _ rfl (hb3.setAll _ _ _ _ _)) rfl ?_
      rw [HE.out]
      exact ⟨putN_step hst3 hgs _ _ _ _ _, _, _, _, _, _, rfl, node_plain _ _ _ _ _, k3, hk3, rfl, ⟨(putN_block w3 G _ _ _ _ _ R hGR.symm).trans hr3.blk⟩⟩
  · have hw := fun w0 h0 => wantWord_any R s ⟨#[116, 114, 117, 101]⟩ k w0 h0 hs hk2 (by decide)
    obtain ⟨o, ho⟩ : ∃ o, wantWordL trueW (tail s k) = o := ⟨_, rfl⟩
    have hwl : wantWordL (ByteArray.mk #[116, 114, 117, 101]).data.toList (tail s k) = o := ho
    rw [hwl] at hw
    rw [ho] at e
    have HE := Lib.hid e
    clear ho hwl e
    go_wp2_with fail
    refine hpeek.mono ?_
    rintro e' w2 ⟨rfl, hr2, hs2⟩
    have hst2 := hst1.trans hs2
    have hb2 := hb1.keep hs2 hGR
    go_wp2_with fail
    refine (hw _ hr2).mono ?_
    rintro e' w3 ⟨hs3, hL⟩
    have hst3 := hst2.trans hs3
    have hb3 := hb2.keep hs3 hGR
    clear hpeek hw hst1 hb1 hst2 hb2
    have HE2 := HE.out
    clear HE
    match o, hL, HE2 with
    | .error c, hL, HE2 =>
      obtain rfl : e' = Errs c := hL
      have HE := Lib.hid (show O = .error c from HE2)
      clear HE2
      go_wp2_with fail
      rw [HE.out]
      exact ⟨rfl, hst3, rfl⟩
    | .ok (u, r), hL, HE2 =>
      obtain ⟨rfl, k3, hk3, rfl, hr3⟩ := hL
      have HE := Lib.hid (show O = .ok (leafJ 3, tail s k3) from HE2)
      clear HE2
      have q0 := hb3.p0
      have q1 := hb3.p1
      have q2 := hb3.p2
      have q3 := hb3.p3
      have q4 := hb3.p4
      have f0 := hb3.free 0
      have f1 := hb3.free 1
      have f2 := hb3.free 2
      have f3 := hb3.free 3
      have f4 := hb3.free 4
      go_wp2_with fail
      refine bodyPost_ret (node_result rfl _ rfl (hb3.setAll _ _ _ _ _)) rfl ?_
      rw [HE.out]
      exact ⟨putN_step hst3 hgs _ _ _ _ _, _, _, _, _, _, rfl, node_plain _ _ _ _ _, k3, hk3, rfl, ⟨(putN_block w3 G _ _ _ _ _ R hGR.symm).trans hr3.blk⟩⟩
  · have htext := fun w0 h0 => text_any R s k w0 h0 hs hk2
    obtain ⟨o, ho⟩ : ∃ o, quoL (tail s k) = o := ⟨_, rfl⟩
    rw [ho] at htext e
    have HE := Lib.hid e
    clear ho e
    go_wp2_with fail
    refine hpeek.mono ?_
    rintro e' w2 ⟨rfl, hr2, hs2⟩
    have hst2 := hst1.trans hs2
    have hb2 := hb1.keep hs2 hGR
    go_wp2_with fail
    refine (htext _ hr2).mono ?_
    rintro e' w3 ⟨hs3, hL⟩
    have hst3 := hst2.trans hs3
    have hb3 := hb2.keep hs3 hGR
    clear hpeek htext hst1 hb1 hst2 hb2
    have HE2 := HE.out
    clear HE
    match o, hL, HE2 with
    | .error c, hL, HE2 =>
      obtain rfl : e' = Errs c := hL
      have HE := Lib.hid (show O = .error c from HE2)
      clear HE2
      go_wp2_with fail
      rw [HE.out]
      exact ⟨rfl, hst3, rfl⟩
    | .ok (t, r), hL, HE2 =>
      obtain ⟨rfl, k3, hk3, rfl, hr3⟩ := hL
      have HE := Lib.hid (show O = .ok (strJ t, tail s k3) from HE2)
      clear HE2
      have q0 := hb3.p0
      have q1 := hb3.p1
      have q2 := hb3.p2
      have q3 := hb3.p3
      have q4 := hb3.p4
      have f0 := hb3.free 0
      have f1 := hb3.free 1
      have f2 := hb3.free 2
      have f3 := hb3.free 3
      have f4 := hb3.free 4
      go_wp2_with fail
      refine bodyPost_ret (node_result rfl _ rfl (hb3.setAll _ _ _ _ _)) rfl ?_
      rw [HE.out]
      exact ⟨putN_step hst3 hgs _ _ _ _ _, _, _, _, _, _, rfl, node_plain _ _ _ _ _, k3, hk3, rfl, ⟨(putN_block w3 G _ _ _ _ _ R hGR.symm).trans hr3.blk⟩⟩
  · have hkl : k < s.size := by
      rcases Nat.lt_or_ge k s.size with h' | h'
      · exact h'
      · rw [tail_end h'] at hm; cases hm
    have hre : r = tail s (k + 1) := by rw [tail_cons hkl] at hm; exact (List.cons.inj hm).2.symm
    have hlst := fun w0 h0 => hA R k w0 h0 hkl
    obtain ⟨o, ho⟩ : ∃ o, lst false (tail s (k + 1)) = o := ⟨_, rfl⟩
    rw [hre, ho] at e
    rw [ho] at hlst
    have HE := Lib.hid e
    clear ho e hm hre
    go_wp2_with fail
    refine hpeek.mono ?_
    rintro e' w2 ⟨rfl, hr2, hs2⟩
    have hst2 := hst1.trans hs2
    have hb2 := hb1.keep hs2 hGR
    have hG2 := hb2.lt
    go_wp2_with fail
    refine (hlst _ hr2).mono ?_
    rintro e' w3 ⟨hs3, hL⟩
    have hst3 := hst2.trans hs3
    have hb3 := hb2.keep hs3 hGR
    have hz2 := hst2.size
    clear hpeek hlst hst1 hb1 hst2 hb2
    have HE2 := HE.out
    clear HE
    match o, hL, HE2 with
    | .error c, hL, HE2 =>
      obtain rfl : e' = Errs c := hL
      have HE := Lib.hid (show O = .error c from HE2)
      clear HE2
      go_wp2_with fail
      rw [HE.out]
      exact ⟨rfl, hst3, rfl⟩
    | .ok (j, r), hL, HE2 =>
      obtain ⟨c0, c1, c2, c3, c4, rfl, hn3, k3, hk3, rfl, hr3⟩ := hL
      obtain ⟨x0, x1, x2, a3, l3, m3, a4, l4, m4, rfl, rfl, rfl, rfl, rfl⟩ := hn3.forms
      have HE := Lib.hid (show O = .ok (j, tail s k3) from HE2)
      clear HE2
      have q0 := hb3.p0
      have q1 := hb3.p1
      have q2 := hb3.p2
      have q3 := hb3.p3
      have q4 := hb3.p4
      have f0 := hb3.free 0
      have f1 := hb3.free 1
      have f2 := hb3.free 2
      have f3 := hb3.free 3
      have f4 := hb3.free 4
      go_wp2_with fail
      refine bodyPost_ret (node_result rfl _ rfl (hb3.setAll _ _ _ _ _)) rfl ?_
      rw [HE.out]
      exact ⟨putN_step hst3 hgs _ _ _ _ _, _, _, _, _, _, rfl, hn3.keep (kept_new (fun g hg => by have : w2.heap.size ≤ g := hg; omega) _ _ _ _ _), k3, hk3, rfl, ⟨(putN_block w3 G _ _ _ _ _ R hGR.symm).trans hr3.blk⟩⟩
  · have hkl : k < s.size := by
      rcases Nat.lt_or_ge k s.size with h' | h'
      · exact h'
      · rw [tail_end h'] at hm; cases hm
    have hre : r = tail s (k + 1) := by rw [tail_cons hkl] at hm; exact (List.cons.inj hm).2.symm
    have hlst := fun w0 h0 => hB R k w0 h0 hkl
    obtain ⟨o, ho⟩ : ∃ o, lst true (tail s (k + 1)) = o := ⟨_, rfl⟩
    rw [hre, ho] at e
    rw [ho] at hlst
    have HE := Lib.hid e
    clear ho e hm hre
    go_wp2_with fail
    refine hpeek.mono ?_
    rintro e' w2 ⟨rfl, hr2, hs2⟩
    have hst2 := hst1.trans hs2
    have hb2 := hb1.keep hs2 hGR
    have hG2 := hb2.lt
    go_wp2_with fail
    refine (hlst _ hr2).mono ?_
    rintro e' w3 ⟨hs3, hL⟩
    have hst3 := hst2.trans hs3
    have hb3 := hb2.keep hs3 hGR
    have hz2 := hst2.size
    clear hpeek hlst hst1 hb1 hst2 hb2
    have HE2 := HE.out
    clear HE
    match o, hL, HE2 with
    | .error c, hL, HE2 =>
      obtain rfl : e' = Errs c := hL
      have HE := Lib.hid (show O = .error c from HE2)
      clear HE2
      go_wp2_with fail
      rw [HE.out]
      exact ⟨rfl, hst3, rfl⟩
    | .ok (j, r), hL, HE2 =>
      obtain ⟨c0, c1, c2, c3, c4, rfl, hn3, k3, hk3, rfl, hr3⟩ := hL
      obtain ⟨x0, x1, x2, a3, l3, m3, a4, l4, m4, rfl, rfl, rfl, rfl, rfl⟩ := hn3.forms
      have HE := Lib.hid (show O = .ok (j, tail s k3) from HE2)
      clear HE2
      have q0 := hb3.p0
      have q1 := hb3.p1
      have q2 := hb3.p2
      have q3 := hb3.p3
      have q4 := hb3.p4
      have f0 := hb3.free 0
      have f1 := hb3.free 1
      have f2 := hb3.free 2
      have f3 := hb3.free 3
      have f4 := hb3.free 4
      go_wp2_with fail
      refine bodyPost_ret (node_result rfl _ rfl (hb3.setAll _ _ _ _ _)) rfl ?_
      rw [HE.out]
      exact ⟨putN_step hst3 hgs _ _ _ _ _, _, _, _, _, _, rfl, hn3.keep (kept_new (fun g hg => by have : w2.heap.size ≤ g := hg; omega) _ _ _ _ _), k3, hk3, rfl, ⟨(putN_block w3 G _ _ _ _ _ R hGR.symm).trans hr3.blk⟩⟩
  · have hnum := fun w0 h0 => cnumber_any R s k w0 h0 hs hk2
    obtain ⟨o, ho⟩ : ∃ o, numC (tail s k) = o := ⟨_, rfl⟩
    rw [ho] at hnum e
    have HE := Lib.hid e
    have HN := Lib.hid ho
    have g1 : ((x.toNat : Int) == 110) = false := by rw [beq_eq_false_iff_ne]; exact fun e => n1 (byte_eq e)
    have g2 : ((x.toNat : Int) == 102) = false := by rw [beq_eq_false_iff_ne]; exact fun e => n2 (byte_eq e)
    have g3 : ((x.toNat : Int) == 116) = false := by rw [beq_eq_false_iff_ne]; exact fun e => n3 (byte_eq e)
    have g4 : ((x.toNat : Int) == 34) = false := by rw [beq_eq_false_iff_ne]; exact fun e => n4 (byte_eq e)
    have g5 : ((x.toNat : Int) == 91) = false := by rw [beq_eq_false_iff_ne]; exact fun e => n5 (byte_eq e)
    have g6 : ((x.toNat : Int) == 123) = false := by rw [beq_eq_false_iff_ne]; exact fun e => n6 (byte_eq e)
    clear ho e n1 n2 n3 n4 n5 n6
    go_wp2_with fail
    refine hpeek.mono ?_
    rintro e' w2 ⟨rfl, hr2, hs2⟩
    have hst2 := hst1.trans hs2
    have hb2 := hb1.keep hs2 hGR
    go_wp2_with fail
    refine (hnum _ hr2).mono ?_
    rintro e' w3 ⟨hs3, hL⟩
    have hst3 := hst2.trans hs3
    have hb3 := hb2.keep hs3 hGR
    clear hpeek hnum hst1 hb1 hst2 hb2
    have HE2 := HE.out
    have HN2 := HN.out
    clear HE HN
    match o, hL, HE2, HN2 with
    | .error c, hL, HE2, _ =>
      obtain rfl : e' = Errs c := hL
      have HE := Lib.hid (show O = .error c from HE2)
      clear HE2
      go_wp2_with fail
      rw [HE.out]
      exact ⟨rfl, hst3, rfl⟩
    | .ok (j, r), hL, HE2, HN2 =>
      obtain ⟨hret, k3, hk3, rfl, hr3⟩ := hL
      obtain rfl : e' = .returned (.int .i64 j.num) := hret
      have HE := Lib.hid (show O = .ok (numJ j.num, tail s k3) by rw [HE2, ← numC_num HN2])
      clear HE2 HN2
      obtain ⟨m, hm⟩ : ∃ m, j.num = m := ⟨_, rfl⟩
      rw [hm] at HE ⊢
      clear hm
      have q0 := hb3.p0
      have q1 := hb3.p1
      have q2 := hb3.p2
      have q3 := hb3.p3
      have q4 := hb3.p4
      have f0 := hb3.free 0
      have f1 := hb3.free 1
      have f2 := hb3.free 2
      have f3 := hb3.free 3
      have f4 := hb3.free 4
      go_wp2_with fail
      refine bodyPost_ret (node_result rfl _ rfl (hb3.setAll _ _ _ _ _)) rfl ?_
      rw [HE.out]
      exact ⟨putN_step hst3 hgs _ _ _ _ _, _, _, _, _, _, rfl, node_plain _ _ _ _ _, k3, hk3, rfl, ⟨(putN_block w3 G _ _ _ _ _ R hGR.symm).trans hr3.blk⟩⟩

theorem value_any (s : ByteArray) (hs : s.size ≤ 65536) : ∀ (n a : Nat), a + n = 24 → ValOk s n a
  | 0, a, ha => by
    obtain rfl : a = 24 := by omega
    intro R i w h hi
    exact value_of s 24 hs (by omega) (fun _ _ => .error 4) (array_deep s) (object_deep s) R i w h hi
  | n + 1, a, ha => by
    have hv := value_any s hs n (a + 1) (by omega)
    intro R i w h hi
    exact value_of s a hs (by omega) (listG (valueG numC n)) (fun R i w h hi => array_any s n a hs (by omega) hv R i w h hi) (fun R i w h hi => object_any s n a hs (by omega) hv R i w h hi) R i w h hi
end Go.Proofs.Ytpnffmimpkimeaa.J7
