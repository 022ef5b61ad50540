/-
  log.Since tells what became of the things of a kind between two states. Conditions: clocks do not fall; ids are numbers of their type; at most 1000000 entries are kept.
-/
import Derived.Test.YtojjlbhodiphdaaLgReachW
import Derived.Test.YtojjlbhodiphdaaLgListW
namespace Go.Proofs.Ytojjlbhodiphdaa.Lg
open Go Go.RowKit Go.Joins

/-- What Since answers, in memory. -/
def ChA (B : Nat) (c : Ch) (v : Value) (w : World) : Prop := ∃ c1 c2 c3, v = .agg #[c1, c2, c3, .int .i64 c.state, .bool c.more] ∧ QAt B 3 1 c1 c.made.length (isC c.made) w ∧ QAt B 3 1 c2 c.turned.length (isC c.turned) w ∧ QAt B 3 1 c3 c.gone.length (isC c.gone) w

theorem five_below {w W : World} {N : Nat} (h : Below N w W) (b0 b1 b2 b3 b4 : Value) : Below N w (((((W.setCell ⟨N, 0, none⟩ b0).setCell ⟨N, 1, none⟩ b1).setCell ⟨N, 2, none⟩ b2).setCell ⟨N, 3, none⟩ b3).setCell ⟨N, 4, none⟩ b4) :=
  ((((h.setCell (p := ⟨N, 0, none⟩) (Nat.le_refl N) b0).setCell (p := ⟨N, 1, none⟩) (Nat.le_refl N) b1).setCell (p := ⟨N, 2, none⟩) (Nat.le_refl N) b2).setCell (p := ⟨N, 3, none⟩) (Nat.le_refl N) b3).setCell (p := ⟨N, 4, none⟩) (Nat.le_refl N) b4
/-- Five cells of a block, as they are read. -/
theorem five_cells {w : World} {N : Nat} {T : TypeId} {b0 b1 b2 b3 b4 : Value} (h : w.heap[N]? = some (.cells #[b0, b1, b2, b3, b4] T (0, 0))) : w.cell? ⟨N, 0, none⟩ = some b0 ∧ w.cell? ⟨N, 1, none⟩ = some b1 ∧ w.cell? ⟨N, 2, none⟩ = some b2 ∧ w.cell? ⟨N, 3, none⟩ = some b3 ∧ w.cell? ⟨N, 4, none⟩ = some b4 ∧ ∀ j, w.frozen? ⟨N, j, none⟩ = false := by
  refine ⟨?_, ?_, ?_, ?_, ?_, fun j => frozen_of_row w N j _ _ h⟩ <;> (rw [cell_of_row w N _ _ _ _ h]; rfl)

theorem since_results (tmps : Array Value) (N : Nat) (n : Int) (X : World) (b0 b1 b2 b3 b4 : Value) (h10 : tmps.getD 10 undef = .pointer (some ⟨N, 0, none⟩)) (h11 : tmps.getD 11 undef = .int .i64 n) (d0 : X.cell? ⟨N, 0, none⟩ = some b0) (d1 : X.cell? ⟨N, 1, none⟩ = some b1)
    (d2 : X.cell? ⟨N, 2, none⟩ = some b2) (d3 : X.cell? ⟨N, 3, none⟩ = some b3) (d4 : X.cell? ⟨N, 4, none⟩ = some b4) : (results Try.f16 tmps).run Try.prog X = .ok (.tuple #[.agg #[b0, b1, b2, b3, b4], .int .i64 n]) X := by
  have h10' : tmps[10]?.getD undef = .pointer (some ⟨N, 0, none⟩) := by simpa using h10
  have h11' : tmps[11]?.getD undef = .int .i64 n := by simpa using h11
  simp [results, Try.f16, h10', h11', go_sem, d0, d1, d2, d3, d4]
set_option maxHeartbeats 8000000 in
set_option maxRecDepth 100000 in
theorem since_any (B lb : Nat) (v : Value) (most_ fl kind a clock most : Int) (k : List En) (w : World) (hL : LogAt B lb v most_ fl k w) (hr : Rise k) (hk : k.length ≤ 1000000) (hwf : ∀ e ∈ k, (Lit.int .i64 e.id).wf = true) :
    Calls Try.prog 16 #[.pointer (some ⟨lb, 0, none⟩), .int .i64 kind, .int .i64 a, .int .i64 clock, .int .i64 most] w fun e w' => ∃ u, e = .returned (.tuple #[u, .int .i64 (sinceL fl k kind a clock most).2]) ∧ ChA w.heap.size (sinceL fl k kind a clock most).1 u w' ∧ Below w.heap.size w w' := by
  obtain ⟨W1, hW1⟩ : ∃ W1, w.alloc (.cells #[.slice none 0 0, .slice none 0 0, .slice none 0 0, .int .i64 0, .bool false] 42) = W1 := ⟨_, rfl⟩
  have hb1 : Below w.heap.size w W1 := by rw [← hW1]; exact (Below.refl _ w).alloc (Nat.le_refl _) _
  have hs1 : W1.heap.size = w.heap.size + 1 := by rw [← hW1]; simp
  have hres : W1.heap[w.heap.size]? = some (.cells #[.slice none 0 0, .slice none 0 0, .slice none 0 0, .int .i64 0, .bool false] 42 (0, 0)) := by rw [← hW1]; exact heap_alloc_new w _
  have hL1 := hL.below hb1
  obtain ⟨_, c1, _, _⟩ := hL1.cells
  have HB1 := Lib.hid hb1
  have HS1 := Lib.hid hs1
  have HRES := Lib.hid hres
  have HL1 := Lib.hid hL1
  clear hb1 hs1 hres hL1
  by_cases hg : a < fl ∨ clock < a
  · have HEQ : Hid (sinceL fl k kind a clock most = (noCh, 12)) := Lib.hid (by unfold sinceL; rw [if_pos hg])
    obtain ⟨n0, n1, n2, n3, n4, nf⟩ := five_cells HRES.out
    rw [HEQ.out]
    by_cases h1 : a < fl
    · go_enter Try.func16, Try.ntmps16
      go_wp2_with fail
      obtain ⟨hX1, hX2, hX3⟩ := five_set HRES.out (.slice none 0 0) (.slice none 0 0) (.slice none 0 0) (.int .i64 0) (.bool false)
      obtain ⟨d0, d1, d2, d3, d4, _⟩ := five_cells hX1
      refine ⟨rfl, .tuple #[.agg #[.slice none 0 0, .slice none 0 0, .slice none 0 0, .int .i64 0, .bool false], .int .i64 12], ?_, _, rfl, ⟨_, _, _, rfl, QAt.nil _ _ _ _, QAt.nil _ _ _ _, QAt.nil _ _ _ _⟩, five_below HB1.out _ _ _ _ _⟩
      exact since_results _ _ _ _ _ _ _ _ _ rfl rfl d0 d1 d2 d3 d4
    · have h2 : clock < a := hg.elim (fun h => absurd h h1) id
      go_enter Try.func16, Try.ntmps16
      go_wp2_with fail
      obtain ⟨hX1, hX2, hX3⟩ := five_set HRES.out (.slice none 0 0) (.slice none 0 0) (.slice none 0 0) (.int .i64 0) (.bool false)
      obtain ⟨d0, d1, d2, d3, d4, _⟩ := five_cells hX1
      refine ⟨rfl, .tuple #[.agg #[.slice none 0 0, .slice none 0 0, .slice none 0 0, .int .i64 0, .bool false], .int .i64 12], ?_, _, rfl, ⟨_, _, _, rfl, QAt.nil _ _ _ _, QAt.nil _ _ _ _, QAt.nil _ _ _ _⟩, five_below HB1.out _ _ _ _ _⟩
      exact since_results _ _ _ _ _ _ _ _ _ rfl rfl d0 d1 d2 d3 d4
  · have h1 : ¬ a < fl := fun h => hg (Or.inl h)
    have h2 : ¬ clock < a := fun h => hg (Or.inr h)
    have HRE := Lib.hid (reach_any B lb v most_ fl kind a clock most k W1 HL1.out hr hk hwf (by omega))
    obtain ⟨st, hst⟩ : ∃ st, reachL k kind a clock most = st := ⟨_, rfl⟩
    have hbt := reachL_between (k := k) (kind := kind) (most := most) (show a ≤ clock by omega)
    rw [hst] at HRE hbt
    obtain ⟨hb1, hb2⟩ := hbt
    have HST := Lib.hid hst
    clear hst
    have HSIN : Hid (sinceL fl k kind a clock most = if st < clock ∧ st = a then (noCh, 12) else (chOf (fatesL (selL k kind a st)) st (decide (st < clock)), 0)) := Lib.hid (by unfold sinceL; rw [if_neg hg, HST.out])
    by_cases hm : st < clock
    · by_cases he : st = a
      · have HEQ : Hid (sinceL fl k kind a clock most = (noCh, 12)) := Lib.hid (by rw [HSIN.out, if_pos ⟨hm, he⟩])
        rw [HEQ.out]
        clear HSIN
        go_enter Try.func16, Try.ntmps16
        go_wp2_with fail
        refine HRE.out.mono ?_
        rintro e W2 ⟨rfl, hbe⟩
        have hr2 := (hbe.block w.heap.size (by have := HS1.out; omega)).trans HRES.out
        obtain ⟨n0, n1, n2, n3, n4, nf⟩ := five_cells hr2
        have HR2 := Lib.hid hr2
        have HB2 := Lib.hid (HB1.out.trans (hbe.mono HB1.out.size))
        have HL2 := Lib.hid (HL1.out.below hbe)
        clear hr2 hbe
        go_wp2_with fail
        obtain ⟨hX1, hX2, hX3⟩ := five_set HR2.out (.slice none 0 0) (.slice none 0 0) (.slice none 0 0) (.int .i64 0) (.bool false)
        obtain ⟨d0, d1, d2, d3, d4, _⟩ := five_cells hX1
        refine ⟨rfl, .tuple #[.agg #[.slice none 0 0, .slice none 0 0, .slice none 0 0, .int .i64 0, .bool false], .int .i64 12], ?_, _, rfl, ⟨_, _, _, rfl, QAt.nil _ _ _ _, QAt.nil _ _ _ _, QAt.nil _ _ _ _⟩, five_below HB2.out _ _ _ _ _⟩
        exact since_results _ _ _ _ _ _ _ _ _ rfl rfl d0 d1 d2 d3 d4
      · have HEQ : Hid (sinceL fl k kind a clock most = (chOf (fatesL (selL k kind a st)) st true, 0)) := Lib.hid (by rw [HSIN.out, if_neg (fun h => he h.2), decide_eq_true hm])
        rw [HEQ.out]
        obtain ⟨FS, hFS⟩ : ∃ FS, fatesL (selL k kind a st) = FS := ⟨_, rfl⟩
        rw [hFS]
        have HFS := Lib.hid hFS
        clear HSIN hFS
        go_enter Try.func16, Try.ntmps16
        go_wp2_with fail
        refine HRE.out.mono ?_
        rintro e W2 ⟨rfl, hbe⟩
        have hr2 := (hbe.block w.heap.size (by have := HS1.out; omega)).trans HRES.out
        obtain ⟨n0, n1, n2, n3, n4, nf⟩ := five_cells hr2
        have HR2 := Lib.hid hr2
        have HB2 := Lib.hid (HB1.out.trans (hbe.mono HB1.out.size))
        have HL2 := Lib.hid (HL1.out.below hbe)
        clear hr2 hbe
        have HLI0 := lists_any B lb v most_ fl kind a st k W2 HL2.out hr hk hwf hb1
        rw [HFS.out] at HLI0
        have HLI := Lib.hid HLI0
        clear HLI0
        go_wp2_with fail
        refine HLI.out.mono ?_
        rintro e W3 ⟨u, rfl, ⟨c1, c2, c3, rfl, q1, q2, q3⟩, hb3⟩
        have hN2 : w.heap.size < W2.heap.size := by have := HB2.out.size; have := (Array.getElem?_eq_some_iff.1 HR2.out).1; omega
        have hr3 : W3.heap[w.heap.size]? = _ := (hb3.block w.heap.size hN2).trans HR2.out
        obtain ⟨u1, v1, rfl⟩ := q1.form
        obtain ⟨u2, v2, rfl⟩ := q2.form
        obtain ⟨u3, v3, rfl⟩ := q3.form
        obtain ⟨W4, hW4⟩ : ∃ W4, W3.alloc (.cells #[.slice u1 (madeL FS).length v1, .slice u2 (turnedL FS).length v2, .slice u3 (goneL FS).length v3, .int .i64 st, .bool true] 42) = W4 := ⟨_, rfl⟩
        have hb4 : Below W3.heap.size W3 W4 := by rw [← hW4]; exact (Below.refl _ W3).alloc (Nat.le_refl _) _
        have hE : W4.heap[W3.heap.size]? = some (.cells #[.slice u1 (madeL FS).length v1, .slice u2 (turnedL FS).length v2, .slice u3 (goneL FS).length v3, .int .i64 st, .bool true] 42 (0, 0)) := by rw [← hW4]; exact heap_alloc_new W3 _
        have hr4 : W4.heap[w.heap.size]? = _ := (hb4.block w.heap.size (Nat.lt_of_lt_of_le hN2 hb3.size)).trans hr3
        obtain ⟨m0, m1, m2, m3, m4, mf⟩ := five_cells hr4
        obtain ⟨e0, e1, e2, e3, e4, ef⟩ := five_cells hE
        have HR4 := Lib.hid hr4
        have HB4 := Lib.hid (HB2.out.trans ((hb3.mono HB2.out.size).trans (hb4.mono (Nat.le_trans HB2.out.size hb3.size))))
        have HQ : Hid (∀ {u : Value} {n : Nat} {xs : List Value}, QAt W2.heap.size 3 1 u n xs W3 → QAt W2.heap.size 3 1 u n xs W4) := Lib.hid (fun hq => hq.below hb4)
        have HQ3 := Lib.hid (And.intro q1 (And.intro q2 q3))
        have HN2 := Lib.hid hN2
        clear hE hr4 hr3 hb3 hb4 q1 q2 q3 hN2 n0 n1 n2 n3 n4 nf
        go_wp2_with fail
        obtain ⟨hX1, hX2, hX3⟩ := five_set HR4.out (.slice u1 (madeL FS).length v1) (.slice u2 (turnedL FS).length v2) (.slice u3 (goneL FS).length v3) (.int .i64 st) (.bool true)
        have hXB := five_below HB4.out (.slice u1 (madeL FS).length v1) (.slice u2 (turnedL FS).length v2) (.slice u3 (goneL FS).length v3) (.int .i64 st) (.bool true)
        generalize ((((W4.setCell ⟨w.heap.size, 0, none⟩ (.slice u1 (madeL FS).length v1)).setCell ⟨w.heap.size, 1, none⟩ (.slice u2 (turnedL FS).length v2)).setCell ⟨w.heap.size, 2, none⟩ (.slice u3 (goneL FS).length v3)).setCell ⟨w.heap.size, 3, none⟩ (.int .i64 st)).setCell ⟨w.heap.size, 4, none⟩ (.bool true) = X at hX1 hX2 hX3 hXB ⊢
        obtain ⟨d0, d1, d2, d3, d4, _⟩ := five_cells hX1
        have hq : ∀ {u : Value} {n : Nat} {xs : List Value}, QAt W2.heap.size 3 1 u n xs W3 → QAt w.heap.size 3 1 u n xs X := fun hq3 => ((HQ.out hq3).keep (fun g hg _ => hX2 g (by have := (hq3.block hg).1; have := HN2.out; omega))).mono (Nat.le_of_lt HN2.out)
        have hch : ChA w.heap.size (chOf FS st true) (.agg #[.slice u1 (madeL FS).length v1, .slice u2 (turnedL FS).length v2, .slice u3 (goneL FS).length v3, .int .i64 st, .bool true]) X := by
          unfold ChA chOf
          exact ⟨_, _, _, rfl, hq HQ3.out.1, hq HQ3.out.2.1, hq HQ3.out.2.2⟩
        refine ⟨rfl, .tuple #[.agg #[.slice u1 (madeL FS).length v1, .slice u2 (turnedL FS).length v2, .slice u3 (goneL FS).length v3, .int .i64 st, .bool true], .int .i64 0], ?_, _, rfl, hch, hXB⟩
        exact since_results _ _ _ _ _ _ _ _ _ rfl rfl d0 d1 d2 d3 d4
    · have HEQ : Hid (sinceL fl k kind a clock most = (chOf (fatesL (selL k kind a st)) st false, 0)) := Lib.hid (by rw [HSIN.out, if_neg (fun h => hm h.1), decide_eq_false hm])
      rw [HEQ.out]
      obtain ⟨FS, hFS⟩ : ∃ FS, fatesL (selL k kind a st) = FS := ⟨_, rfl⟩
      rw [hFS]
      have HFS := Lib.hid hFS
      clear HSIN hFS
      have hsc : st = clock := by omega
      subst hsc
      clear hm hb2
      go_enter Try.func16, Try.ntmps16
      go_wp2_with fail
      refine HRE.out.mono ?_
      rintro e W2 ⟨rfl, hbe⟩
      have hr2 := (hbe.block w.heap.size (by have := HS1.out; omega)).trans HRES.out
      obtain ⟨n0, n1, n2, n3, n4, nf⟩ := five_cells hr2
      have HR2 := Lib.hid hr2
      have HB2 := Lib.hid (HB1.out.trans (hbe.mono HB1.out.size))
      have HL2 := Lib.hid (HL1.out.below hbe)
      clear hr2 hbe
      have HLI0 := lists_any B lb v most_ fl kind a st k W2 HL2.out hr hk hwf hb1
      rw [HFS.out] at HLI0
      have HLI := Lib.hid HLI0
      clear HLI0
      go_wp2_with fail
      refine HLI.out.mono ?_
      rintro e W3 ⟨u, rfl, ⟨c1, c2, c3, rfl, q1, q2, q3⟩, hb3⟩
      have hN2 : w.heap.size < W2.heap.size := by have := HB2.out.size; have := (Array.getElem?_eq_some_iff.1 HR2.out).1; omega
      have hr3 : W3.heap[w.heap.size]? = _ := (hb3.block w.heap.size hN2).trans HR2.out
      obtain ⟨u1, v1, rfl⟩ := q1.form
      obtain ⟨u2, v2, rfl⟩ := q2.form
      obtain ⟨u3, v3, rfl⟩ := q3.form
      obtain ⟨W4, hW4⟩ : ∃ W4, W3.alloc (.cells #[.slice u1 (madeL FS).length v1, .slice u2 (turnedL FS).length v2, .slice u3 (goneL FS).length v3, .int .i64 st, .bool false] 42) = W4 := ⟨_, rfl⟩
      have hb4 : Below W3.heap.size W3 W4 := by rw [← hW4]; exact (Below.refl _ W3).alloc (Nat.le_refl _) _
      have hE : W4.heap[W3.heap.size]? = some (.cells #[.slice u1 (madeL FS).length v1, .slice u2 (turnedL FS).length v2, .slice u3 (goneL FS).length v3, .int .i64 st, .bool false] 42 (0, 0)) := by rw [← hW4]; exact heap_alloc_new W3 _
      have hr4 : W4.heap[w.heap.size]? = _ := (hb4.block w.heap.size (Nat.lt_of_lt_of_le hN2 hb3.size)).trans hr3
      obtain ⟨m0, m1, m2, m3, m4, mf⟩ := five_cells hr4
      obtain ⟨e0, e1, e2, e3, e4, ef⟩ := five_cells hE
      have HR4 := Lib.hid hr4
      have HB4 := Lib.hid (HB2.out.trans ((hb3.mono HB2.out.size).trans (hb4.mono (Nat.le_trans HB2.out.size hb3.size))))
      have HQ : Hid (∀ {u : Value} {n : Nat} {xs : List Value}, QAt W2.heap.size 3 1 u n xs W3 → QAt W2.heap.size 3 1 u n xs W4) := Lib.hid (fun hq => hq.below hb4)
      have HQ3 := Lib.hid (And.intro q1 (And.intro q2 q3))
      have HN2 := Lib.hid hN2
      have HW4 := Lib.hid hW4
      rw [← hW4] at m0 m1 m2 m3 m4 mf
      clear hW4 e0 e1 e2 e3 e4 ef
      clear hE hr4 hr3 hb3 hb4 q1 q2 q3 hN2 n0 n1 n2 n3 n4 nf
      go_wp2_with fail
      rw [HW4.out]
      obtain ⟨hX1, hX2, hX3⟩ := five_set HR4.out (.slice u1 (madeL FS).length v1) (.slice u2 (turnedL FS).length v2) (.slice u3 (goneL FS).length v3) (.int .i64 st) (.bool false)
      have hXB := five_below HB4.out (.slice u1 (madeL FS).length v1) (.slice u2 (turnedL FS).length v2) (.slice u3 (goneL FS).length v3) (.int .i64 st) (.bool false)
      generalize ((((W4.setCell ⟨w.heap.size, 0, none⟩ (.slice u1 (madeL FS).length v1)).setCell ⟨w.heap.size, 1, none⟩ (.slice u2 (turnedL FS).length v2)).setCell ⟨w.heap.size, 2, none⟩ (.slice u3 (goneL FS).length v3)).setCell ⟨w.heap.size, 3, none⟩ (.int .i64 st)).setCell ⟨w.heap.size, 4, none⟩ (.bool false) = X at hX1 hX2 hX3 hXB ⊢
      obtain ⟨d0, d1, d2, d3, d4, _⟩ := five_cells hX1
      have hq : ∀ {u : Value} {n : Nat} {xs : List Value}, QAt W2.heap.size 3 1 u n xs W3 → QAt w.heap.size 3 1 u n xs X := fun hq3 => ((HQ.out hq3).keep (fun g hg _ => hX2 g (by have := (hq3.block hg).1; have := HN2.out; omega))).mono (Nat.le_of_lt HN2.out)
      have hch : ChA w.heap.size (chOf FS st false) (.agg #[.slice u1 (madeL FS).length v1, .slice u2 (turnedL FS).length v2, .slice u3 (goneL FS).length v3, .int .i64 st, .bool false]) X := by
        unfold ChA chOf
        exact ⟨_, _, _, rfl, hq HQ3.out.1, hq HQ3.out.2.1, hq HQ3.out.2.2⟩
      refine ⟨rfl, .tuple #[.agg #[.slice u1 (madeL FS).length v1, .slice u2 (turnedL FS).length v2, .slice u3 (goneL FS).length v3, .int .i64 st, .bool false], .int .i64 0], ?_, _, rfl, hch, hXB⟩
      exact since_results _ _ _ _ _ _ _ _ _ rfl rfl d0 d1 d2 d3 d4
end Go.Proofs.Ytojjlbhodiphdaa.Lg
