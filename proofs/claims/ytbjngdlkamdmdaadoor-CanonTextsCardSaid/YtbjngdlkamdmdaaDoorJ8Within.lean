/-
  The law CanonWithin returns true, of any value. Condition: the library's table of powers of ten reads as its text lays it.
-/
import Derived.Test.YtbjngdlkamdmdaaDoorJ8Awake
namespace Go.Proofs.YtbjngdlkamdmdaaDoor.J8
open Go Go.RowKit Go.Joins Kit J7 Nds

/-- A slice of one value, in a block of its own. -/
theorem in_one {w : World} {a : J} {c0 c1 c2 c3 c4 : Value} (h : NodeIn w a (.agg #[c0, c1, c2, c3, c4])) :
    NodeIn (w.alloc (.cells #[c0, c1, c2, c3, c4] 25)) (arrJ a) (.agg #[.int .i64 6, .int .i64 0, .string ⟨#[]⟩, .slice none 0 0, .slice (some ⟨w.heap.size, 0, none⟩) 1 1]) := by
  refine NodeIn.mk 6 0 ⟨#[]⟩ [] [a] _ (some ⟨w.heap.size, 0, none⟩) 1 (fun _ m => [c0, c1, c2, c3, c4].getD m c0) ⟨none, 0, rfl, fun j hj => absurd hj (Nat.not_lt_zero j)⟩ (fun i hi => ?_) (fun i hi => ?_)
  · have h0 : i = 0 := by have : i < 1 := hi; omega
    subst h0
    refine ⟨w.heap.size, 0, rfl, fun m hm => ?_⟩
    rw [Lib.cell_of_heap (Kit.fresh_block w _ _)]
    match m, hm with
    | 0, _ => rfl
    | 1, _ => rfl
    | 2, _ => rfl
    | 3, _ => rfl
    | 4, _ => rfl
  · have h0 : i = 0 := by have : i < 1 := hi; omega
    subst h0
    exact node_below ((Below.refl _ w).alloc (Nat.le_refl _) _) h
/-- What is printed of a value, and of an array of it alone. -/
theorem within_cases (a : J) : ((printP a).2 = 1 ∧ (printP (arrJ a)).2 = 1) ∨ ((printP a).2 ≠ 1 ∧ (printP (arrJ a)).2 ≠ 0) ∨
    ((printP a).2 ≠ 1 ∧ (printP (arrJ a)).2 = 0 ∧ (printP (arrJ a)).1.data.toList = 91 :: ((printP a).1.data.toList ++ [93]) ∧ (printP a).1.size ≤ 65536) := by
  by_cases h0 : RightIn 0 a
  · have e0 : printP a = if (putJ a).length ≤ 65536 then (⟨(putJ a).toArray⟩, 0) else (⟨#[]⟩, 2) := by unfold printP; rw [if_pos (rightP_yes h0)]
    have hn : (printP a).2 ≠ 1 := by rw [e0]; split <;> (show (_ : Int) ≠ 1; simp)
    by_cases h1 : RightIn 1 a
    · have e1 : printP (arrJ a) = if (putJ (arrJ a)).length ≤ 65536 then (⟨(putJ (arrJ a)).toArray⟩, 0) else (⟨#[]⟩, 2) := by unfold printP; rw [if_pos (rightP_yes (right_arr.2 h1))]
      by_cases h6 : (putJ (arrJ a)).length ≤ 65536
      · rw [if_pos h6] at e1
        have hl : (putJ a).length + 2 = (putJ (arrJ a)).length := by rw [put_arr]; simp
        rw [if_pos (by omega)] at e0
        refine Or.inr (Or.inr ⟨hn, by rw [e1], ?_, ?_⟩)
        · rw [e1, e0]
          show putJ (arrJ a) = _
          rw [put_arr]
        · rw [e0, Lib.size_eq]
          show (putJ a).length ≤ 65536
          omega
      · rw [if_neg h6] at e1
        exact Or.inr (Or.inl ⟨hn, by rw [e1]; decide⟩)
    · have e1 : printP (arrJ a) = (⟨#[]⟩, 1) := by unfold printP; rw [if_neg (by rw [rightP_no (fun h => h1 (right_arr.1 h))]; decide)]
      exact Or.inr (Or.inl ⟨hn, by rw [e1]; decide⟩)
  · have e0 : printP a = (⟨#[]⟩, 1) := by unfold printP; rw [if_neg (by rw [rightP_no h0]; decide)]
    have e1 : printP (arrJ a) = (⟨#[]⟩, 1) := by unfold printP; rw [if_neg (by rw [rightP_no (fun h => h0 (right_down (right_arr.1 h) 0 (by decide)))]; decide)]
    exact Or.inl ⟨by rw [e0], by rw [e1]⟩
theorem small_arr {a : J} (h : Small a) : Tame (arrJ a) ∧ (RightIn 0 (arrJ a) → (putJ (arrJ a)).length ≤ 10000000000000) := by
  refine ⟨tame_arr h.1, fun hr => ?_⟩
  have h1 := h.2 (right_down (right_arr.1 hr) 0 (by decide))
  rw [put_arr, List.length_cons, List.length_append, List.length_singleton]
  omega
theorem Small.len {a : J} (h : Small a) : RightIn 0 a → (putJ a).length ≤ 10000000000000 := fun hr => Nat.le_trans (h.2 hr) (by decide)

set_option maxHeartbeats 8000000 in
set_option maxRecDepth 100000 in
theorem canonWithin_walk (a : J) (c0 c1 c2 c3 c4 : Value) (w : World) (ha : NodeIn w a (.agg #[c0, c1, c2, c3, c4])) (hE : EnvW w) :
    Calls Tryd.prog 8 #[.agg #[c0, c1, c2, c3, c4]] w fun e w' => e = .returned (.bool true) ∧ Below w.heap.size w w' := by
  obtain ⟨xk, xn, xt, xa, xl, xc, xb, xm, xd, rfl, rfl, rfl, rfl, rfl⟩ := in_forms ha
  obtain ⟨hbW, hbx, hlt⟩ := bx_new w (.int .i64 xk) (.int .i64 xn) (.string xt) (.slice xa xl xc) (.slice xb xm xd)
  obtain ⟨W, hW⟩ : ∃ W, w.alloc (.cells #[.int .i64 xk, .int .i64 xn, .string xt, .slice xa xl xc, .slice xb xm xd] 25) = W := ⟨_, rfl⟩
  rw [hW] at hbW hbx hlt
  have HA : Hid (∀ w', Below W.heap.size W w' → NodeIn w' a (.agg #[.int .i64 xk, .int .i64 xn, .string xt, .slice xa xl xc, .slice xb xm xd])) := Lib.hid (fun w' h => node_below h (node_below hbW ha))
  have HE : Hid (∀ w', Below W.heap.size W w' → EnvW w') := Lib.hid (fun w' h => (hE.next hbW).next h)
  have HW := Lib.hid hW
  have HBW : Hid (∀ w', Below W.heap.size W w' → Below w.heap.size w w') := Lib.hid (fun w' h => hbW.trans (h.mono hbW.size))
  obtain ⟨G, hG⟩ : ∃ G, w.heap.size = G := ⟨_, rfl⟩
  rw [hG] at hbx
  have HBX : Hid (∀ w', Below W.heap.size W w' → Bx G (.int .i64 xk) (.int .i64 xn) (.string xt) (.slice xa xl xc) (.slice xb xm xd) w') := Lib.hid (fun w' h => hbx.same (h.block G hbx.lt))
  have hg1 := great_any (HA.out W (Below.refl _ _))
  have p0 := hbx.p0
  have p1 := hbx.p1
  have p2 := hbx.p2
  have p3 := hbx.p3
  have p4 := hbx.p4
  obtain ⟨s, hs⟩ : ∃ s, (printP a).1 = s := ⟨_, rfl⟩
  obtain ⟨e1, he1⟩ : ∃ e, (printP a).2 = e := ⟨_, rfl⟩
  obtain ⟨t, ht⟩ : ∃ s, (printP (arrJ a)).1 = s := ⟨_, rfl⟩
  obtain ⟨f1, hf1⟩ : ∃ e, (printP (arrJ a)).2 = e := ⟨_, rfl⟩
  have hc := within_cases a
  rw [hs, he1, ht, hf1] at hc
  have HS := Lib.hid hs
  have HE1 := Lib.hid he1
  have HT := Lib.hid ht
  have HF1 := Lib.hid hf1
  have HC := Lib.hid hc
  clear ha hE hW hbW hlt hbx hs he1 ht hf1 hc
  go_enter Tryd.func8, Tryd.ntmps8
  go_upto_region 1 with fail
  rw [HW.out]
  (try rw [hG])
  go_wp2_with fail
  refine hg1.mono ?_
  rintro e w1 ⟨g, rfl, hb1, hs1⟩
  clear hg1 p0 p1 p2 p3 p4
  cases g with
  | true =>
    go_wp2_with fail
    refine (awake_any (HE.out w1 hb1)).mono ?_
    rintro e w2 ⟨rfl, hb2⟩
    go_wp2_with fail
    go_ret
    (try rw [← hG])
    exact ⟨rfl, HBW.out w2 (hb1.trans (hb2.mono hb1.size))⟩
  | false =>
    have HSA := Lib.hid (hs1 rfl)
    clear hs1
    have h0 := HBX.out w1 hb1
    have p0 := h0.p0
    have p1 := h0.p1
    have p2 := h0.p2
    have p3 := h0.p3
    have p4 := h0.p4
    have hp1 := cprint_any HSA.out.1 HSA.out.len (HE.out w1 hb1) (HA.out w1 hb1)
    rw [HS.out, HE1.out] at hp1
    clear h0
    go_wp2_with fail
    refine hp1.mono ?_
    rintro e w2 ⟨rfl, hb2⟩
    have hb02 := hb1.trans (hb2.mono hb1.size)
    clear hp1 p0 p1 p2 p3 p4 hb1 hb2
    have h0 := HBX.out w2 hb02
    have p0 := h0.p0
    have p1 := h0.p1
    have p2 := h0.p2
    have p3 := h0.p3
    have p4 := h0.p4
    have hbx3 : Below w2.heap.size w2 (w2.alloc (.cells #[.int .i64 xk, .int .i64 xn, .string xt, .slice xa xl xc, .slice xb xm xd] 25)) := (Below.refl _ w2).alloc (Nat.le_refl _) _
    have hb03 := hb02.trans (hbx3.mono hb02.size)
    have hp2 := cprint_any (small_arr HSA.out).1 (small_arr HSA.out).2 (HE.out _ hb03) (in_one (HA.out w2 hb02))
    rw [HT.out, HF1.out] at hp2
    clear h0 hbx3 hb02
    go_wp2_with fail
    refine hp2.mono ?_
    rintro e w3 ⟨rfl, hb4⟩
    have hb04 := hb03.trans (hb4.mono hb03.size)
    clear hp2 p0 p1 p2 p3 p4 hb03 hb4
    rcases HC.out with ⟨rfl, rfl⟩ | ⟨n1, n0⟩ | ⟨n1, rfl, htx, hsz⟩
    · clear HE1 HF1 HC
      go_wp2_with fail
      refine (L3.num_any _ _).mono ?_
      rintro e w4 ⟨rfl, rfl⟩
      go_wp2_with fail
      refine (L3.num_any _ _).mono ?_
      rintro e w5 ⟨rfl, rfl⟩
      go_wp2_with fail
      refine (awake_any (HE.out _ hb04)).mono ?_
      rintro e w6 ⟨rfl, hb5⟩
      go_wp2_with fail
      go_ret
      (try rw [← hG])
      exact ⟨rfl, HBW.out _ (hb04.trans (hb5.mono hb04.size))⟩
    · have g1 : (e1 == 1) = false := by rw [beq_eq_false_iff_ne]; exact n1
      have g0 : (f1 != 0) = true := by rw [bne_iff_ne]; exact n0
      clear HE1 HF1 HC n1 n0
      go_wp2_with fail
      refine (L3.num_any _ _).mono ?_
      rintro e w4 ⟨rfl, rfl⟩
      go_wp2_with fail
      refine (L3.num_any _ _).mono ?_
      rintro e w5 ⟨rfl, rfl⟩
      go_wp2_with fail
      refine (awake_any (HE.out _ hb04)).mono ?_
      rintro e w6 ⟨rfl, hb5⟩
      go_wp2_with fail
      go_ret
      (try rw [← hG])
      exact ⟨rfl, HBW.out _ (hb04.trans (hb5.mono hb04.size))⟩
    · have g1 : (e1 == 1) = false := by rw [beq_eq_false_iff_ne]; exact n1
      have hsi : (s.size : Int) ≤ 65536 := by omega
      have ht2 : t = (⟨#[91]⟩ : ByteArray) ++ s ++ (⟨#[93]⟩ : ByteArray) := by
        refine bytes_ext ?_
        rw [htx, ByteArray.data_append, ByteArray.data_append]
        simp
      have z1 : ((⟨#[91]⟩ : ByteArray) ++ s).size = s.size + 1 := by rw [ByteArray.size_append, Nat.add_comm]; rfl
      clear HE1 HF1 HC n1 htx hsz HT HS
      subst ht2
      go_wp2_with fail
      refine (L3.num_any _ _).mono ?_
      rintro e w4 ⟨rfl, rfl⟩
      go_wp2_with fail
      refine (L3.num_any _ _).mono ?_
      rintro e w5 ⟨rfl, rfl⟩
      go_wp2_with fail
      refine (awake_any (HE.out _ hb04)).mono ?_
      rintro e w6 ⟨rfl, hb5⟩
      go_wp2_with fail
      go_ret
      (try rw [← hG])
      exact ⟨rfl, HBW.out _ (hb04.trans (hb5.mono hb04.size))⟩
end Go.Proofs.YtbjngdlkamdmdaaDoor.J8
