/-
  The document's answer for package canon, as the statements have it: Same of two values that read alike is true. Conditions: none.
-/
import Derived.Test.YtbjngdlkamdmdaaDoorJ7Cells
import Derived.Test.YtbjngdlkamdmdaaDoorJ7Bx
import Derived.Deep.RegionWith
import Derived.WalkSmall
namespace Go.Proofs.YtbjngdlkamdmdaaDoor.J7
open Go Go.RowKit Go.Joins Kit

/-- The keys of a value, cell by cell. -/
theorem key_cells {P : Nat → Prop} {w : World} {j : J} {c0 c1 c2 c3 c4 : Value} (h : NodeAt P w j (.agg #[c0, c1, c2, c3, c4])) (i : Nat) (hi : i < j.keys.length) :
    ∃ g o cap, c3 = .slice (some ⟨g, o, none⟩) j.keys.length cap ∧ w.cell? ⟨g, o + i, none⟩ = some (.string j.keys[i]) := by
  obtain ⟨k, n, t, keys, kids⟩ := j
  rw [NodeAt] at h
  obtain ⟨kv, vv, e, h2, cs, h3, h4⟩ := h
  have e3 : c3 = kv := by
    injection e with e; injection e with e; injection e with _ e; injection e with _ e; injection e with _ e; injection e with e
  subst e3
  rcases h2 with ⟨_, h2, _⟩ | ⟨g, o, cap, hv, hc⟩
  · have hi' : i < keys.length := hi
    omega
  · have hi' : i < keys.length := hi
    refine ⟨g, o, cap, hv, ?_⟩
    rw [(hc i (by unfold strs; rw [List.length_map]; exact hi')).2]
    unfold strs
    rw [List.getElem_map]
    rfl
def SameOk (j : J) : Prop := ∀ (P P' : Nat → Prop) (w : World) (c0 c1 c2 c3 c4 d0 d1 d2 d3 d4 : Value), NodeAt P w j (.agg #[c0, c1, c2, c3, c4]) → NodeAt P' w j (.agg #[d0, d1, d2, d3, d4]) →
  Calls Tryd.prog 17 #[.agg #[c0, c1, c2, c3, c4], .agg #[d0, d1, d2, d3, d4]] w fun e w' => e = .returned (.bool true) ∧ Below w.heap.size w w'

set_option maxHeartbeats 4000000 in
set_option maxRecDepth 100000 in
theorem same_of (j : J) (ih : ∀ (i : Nat) (h : i < j.kids.length), SameOk j.kids[i]) (hkl : j.keys.length ≤ 1000000) (hvl : j.kids.length ≤ 1000000) : SameOk j := by
  intro P P' w c0 c1 c2 c3 c4 d0 d1 d2 d3 d4 hc hd
  obtain ⟨rfl, rfl, rfl, ⟨a3, m3, e3⟩, ⟨a4, m4, e4⟩⟩ := node_cells hc
  obtain ⟨rfl, rfl, rfl, ⟨b3, n3, f3⟩, ⟨b4, n4, f4⟩⟩ := node_cells hd
  obtain ⟨nk, hnk⟩ : ∃ nk, j.keys.length = nk := ⟨_, rfl⟩
  obtain ⟨nv, hnv⟩ : ∃ nv, j.kids.length = nv := ⟨_, rfl⟩
  obtain ⟨W, hW⟩ : ∃ W, ((w.alloc (.cells #[.int .i64 j.kind, .int .i64 j.num, .string j.text, c3, c4] 25)).alloc (.cells #[.int .i64 j.kind, .int .i64 j.num, .string j.text, d3, d4] 25)) = W := ⟨_, rfl⟩
  have hbW : Below w.heap.size w W := by rw [← hW]; exact ((Below.refl _ w).alloc (Nat.le_refl _) _).alloc (by simp) _
  have hcW := hc.keep (kept_below hbW)
  have hdW := hd.keep (kept_below hbW)
  have hA : Bx w.heap.size (.int .i64 j.kind) (.int .i64 j.num) (.string j.text) c3 c4 W := by rw [← hW]; exact (Bx.made w _ _ _ _ _).alloc _
  have hB : Bx (w.heap.size + 1) (.int .i64 j.kind) (.int .i64 j.num) (.string j.text) d3 d4 W := by
    rw [← hW]
    have h9 := Bx.made (w.alloc (.cells #[.int .i64 j.kind, .int .i64 j.num, .string j.text, c3, c4] 25)) (.int .i64 j.kind) (.int .i64 j.num) (.string j.text) d3 d4
    simpa using h9
  obtain ⟨G, hG⟩ : ∃ G, w.heap.size = G := ⟨_, rfl⟩
  rw [hG] at hA hB
  have HW := Lib.hid hW
  have HK := Lib.hid (fun (i : Nat) (hi : i < nk) (w' : World) (hb : Below W.heap.size W w') => (⟨key_cells (hcW.keep (kept_below hb)) i (by rw [hnk]; exact hi), key_cells (hdW.keep (kept_below hb)) i (by rw [hnk]; exact hi)⟩ : _ ∧ _))
  rw [hnk] at e3 f3 hkl
  rw [hnv] at e4 f4 hvl
  subst e3 e4 f3 f4
  have hki : (nk : Int) ≤ 1000000 := by omega
  have hvi : (nv : Int) ≤ 1000000 := by omega
  obtain ⟨kd, hkd⟩ : ∃ kd, j.kind = kd := ⟨_, rfl⟩
  obtain ⟨nm, hnm⟩ : ∃ nm, j.num = nm := ⟨_, rfl⟩
  obtain ⟨tx, htx⟩ : ∃ tx, j.text = tx := ⟨_, rfl⟩
  rw [hkd, hnm, htx] at HW hA hB ⊢
  clear hW hc hd
  go_enter Tryd.func17, Tryd.ntmps17
  go_wp2_with fail
  rw [HW.out]
  (try rw [hG])
  go_loopg [5] nk (fun m v wr => ∃ i : Nat, m = nk - i ∧ v = .int .i64 i ∧ i ≤ nk ∧ Below W.heap.size W wr)
  case atStart => exact ⟨0, rfl, rfl, Nat.zero_le _, Below.refl _ _⟩
  case round =>
    obtain ⟨i, rfl, rfl, hi, hb⟩ := hrel
    have hA1 := hA.same (hb.block G hA.lt)
    have hB1 := hB.same (hb.block (G + 1) hB.lt)
    have p3 := hA1.p3
    have q3 := hB1.p3
    by_cases hlt : i < nk
    · obtain ⟨⟨g, o, cap, e1, t1⟩, ⟨g', o', cap', e2, t2⟩⟩ := HK.out i hlt wr hb
      rw [hnk] at e1 e2
      injection e1 with e1 _ e1c
      injection e2 with e2 _ e2c
      subst e1 e2 e1c e2c
      have gi : (i : Int) < nk := by omega
      obtain ⟨kx, hkx⟩ : ∃ kx, j.keys[i]'(by rw [hnk]; exact hlt) = kx := ⟨_, rfl⟩
      rw [hkx] at t1 t2
      clear hkx
      go_wp2_with fail
      go_quiet (fail)
      go_wp2_with fail
      go_roundg (nk - (i + 1))
      case measure => omega
      case rel => exact ⟨i + 1, rfl, by go_num, by omega, below_drewN hb _⟩
    · have gi : decide ((i : Int) < (nk : Int)) = false := by rw [decide_eq_false_iff_not]; omega
      go_wp2_with fail
      go_loopg [6] nv (fun m v wr => ∃ i : Nat, m = nv - i ∧ v = .int .i64 i ∧ i ≤ nv ∧ Below W.heap.size W wr)
      case atStart => exact ⟨0, rfl, rfl, Nat.zero_le _, hb⟩
      case round =>
        clear hA1 hB1 p3 q3 hb gi hlt hi
        obtain ⟨i2, rfl, rfl, hi2, hb2⟩ := hrel
        have hA2 := hA.same (hb2.block G hA.lt)
        have hB2 := hB.same (hb2.block (G + 1) hB.lt)
        have p4 := hA2.p4
        have q4 := hB2.p4
        by_cases hlt : i2 < nv
        · have hlt' : i2 < j.kids.length := by rw [hnv]; exact hlt
          have hne : j.kids ≠ [] := fun e => by rw [e] at hlt'; exact absurd hlt' (by simp)
          obtain ⟨g, o, cap, e1, t1⟩ := kid_cells (hcW.keep (kept_below hb2)) hne
          obtain ⟨g', o', cap', e2, t2⟩ := kid_cells (hdW.keep (kept_below hb2)) hne
          rw [hnv] at e1 e2
          injection e1 with e1 _ e1c
          injection e2 with e2 _ e2c
          subst e1 e2 e1c e2c
          obtain ⟨x0, x1, x2, x3, x4, r0, r1, r2, r3, r4, hx⟩ := t1 i2 hlt'
          obtain ⟨y0, y1, y2, y3, y4, s0, s1, s2, s3, s4, hy⟩ := t2 i2 hlt'
          have hsame := ih i2 hlt' P P' wr.drew x0 x1 x2 x3 x4 y0 y1 y2 y3 y4 (NodeAt.keep (P := P) (P' := P) (w := wr) (w' := wr.drew) (fun g hg _ => ⟨hg, rfl⟩) hx) (NodeAt.keep (P := P') (P' := P') (w := wr) (w' := wr.drew) (fun g hg _ => ⟨hg, rfl⟩) hy)
          have r0' : wr.drew.cell? ⟨g, o + i2 * 5, none⟩ = some x0 := by rw [← r0]; show wr.cell? _ = _; congr 2; omega
          have r1' : wr.drew.cell? ⟨g, o + i2 * 5 + 1, none⟩ = some x1 := by rw [← r1]; show wr.cell? _ = _; congr 2; omega
          have r2' : wr.drew.cell? ⟨g, o + i2 * 5 + 2, none⟩ = some x2 := by rw [← r2]; show wr.cell? _ = _; congr 2; omega
          have r3' : wr.drew.cell? ⟨g, o + i2 * 5 + 3, none⟩ = some x3 := by rw [← r3]; show wr.cell? _ = _; congr 2; omega
          have r4' : wr.drew.cell? ⟨g, o + i2 * 5 + 4, none⟩ = some x4 := by rw [← r4]; show wr.cell? _ = _; congr 2; omega
          have s0' : wr.drew.cell? ⟨g', o' + i2 * 5, none⟩ = some y0 := by rw [← s0]; show wr.cell? _ = _; congr 2; omega
          have s1' : wr.drew.cell? ⟨g', o' + i2 * 5 + 1, none⟩ = some y1 := by rw [← s1]; show wr.cell? _ = _; congr 2; omega
          have s2' : wr.drew.cell? ⟨g', o' + i2 * 5 + 2, none⟩ = some y2 := by rw [← s2]; show wr.cell? _ = _; congr 2; omega
          have s3' : wr.drew.cell? ⟨g', o' + i2 * 5 + 3, none⟩ = some y3 := by rw [← s3]; show wr.cell? _ = _; congr 2; omega
          have s4' : wr.drew.cell? ⟨g', o' + i2 * 5 + 4, none⟩ = some y4 := by rw [← s4]; show wr.cell? _ = _; congr 2; omega
          have gi : (i2 : Int) < nv := by omega
          clear t1 t2 hx hy r0 r1 r2 r3 r4 s0 s1 s2 s3 s4
          go_wp2_with fail
          go_region_with (refine hsame.mono ?_; rintro e7 w7 ⟨rfl, hb7⟩)
          all_goals
            go_wp2_with fail
            go_roundg (nv - (i2 + 1))
            case measure => omega
            case rel => exact ⟨i2 + 1, rfl, by go_num, by omega, hb2.trans ((show Below wr.heap.size wr w7 from ((Below.refl _ wr).drew).trans hb7).mono hb2.size)⟩
        · have gi : decide ((i2 : Int) < (nv : Int)) = false := by rw [decide_eq_false_iff_not]; omega
          go_wp2_with fail
          go_ret
          exact ⟨rfl, hbW.trans (hb2.mono hbW.size)⟩
end Go.Proofs.YtbjngdlkamdmdaaDoor.J7
