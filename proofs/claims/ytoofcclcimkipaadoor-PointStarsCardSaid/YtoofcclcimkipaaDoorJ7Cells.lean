/-
  A value's own cells, its kids' cells, as it lies in memory; what is below stays. No law and no function of the project in this text. Conditions: none.
-/
import Derived.Test.YtoofcclcimkipaaDoorJ7Mem
namespace Go.Proofs.YtoofcclcimkipaaDoor.J7
open Go Go.RowKit Go.Joins Kit

/-- The kids of a value, cell by cell. -/
theorem kid_cells {P : Nat → Prop} {w : World} {j : J} {c0 c1 c2 c3 c4 : Value} (h : NodeAt P w j (.agg #[c0, c1, c2, c3, c4])) (hk : j.kids ≠ []) :
    ∃ g o cap, c4 = .slice (some ⟨g, o, none⟩) j.kids.length cap ∧ ∀ (i : Nat) (hi : i < j.kids.length), ∃ d0 d1 d2 d3 d4, w.cell? ⟨g, o + 5 * i, none⟩ = some d0 ∧ w.cell? ⟨g, o + (5 * i + 1), none⟩ = some d1 ∧ w.cell? ⟨g, o + (5 * i + 2), none⟩ = some d2 ∧ w.cell? ⟨g, o + (5 * i + 3), none⟩ = some d3 ∧ w.cell? ⟨g, o + (5 * i + 4), none⟩ = some d4 ∧ NodeAt P w j.kids[i] (.agg #[d0, d1, d2, d3, d4]) := by
  obtain ⟨k, n, t, keys, kids⟩ := j
  rw [NodeAt] at h
  obtain ⟨kv, vv, e, _, cs, h3, h4⟩ := h
  have e4 : c4 = vv := by
    injection e with e; injection e with e; injection e with _ e; injection e with _ e; injection e with _ e; injection e with _ e; injection e
  subst e4
  have hlen := kids_length h4
  rcases h3 with ⟨_, h3, _⟩ | ⟨g, o, cap, hv, hc⟩
  · exact absurd (List.length_eq_zero_iff.1 h3) hk
  · refine ⟨g, o, cap, hv, fun i hi => ?_⟩
    obtain ⟨d0, d1, d2, d3, d4, e0, e1, e2, e3, e4, hn⟩ := kids_at h4 i hi
    have get : ∀ (q : Nat) (d : Value), cs[q]? = some d → w.cell? ⟨g, o + q, none⟩ = some d := fun q d hq => by
      obtain ⟨hl, hd⟩ := List.getElem?_eq_some_iff.1 hq
      rw [(hc q hl).2, hd]
    exact ⟨d0, d1, d2, d3, d4, get _ _ e0, get _ _ e1, get _ _ e2, get _ _ e3, get _ _ e4, hn⟩
/-- A value's own cells. -/
theorem node_cells {P : Nat → Prop} {w : World} {j : J} {c0 c1 c2 c3 c4 : Value} (h : NodeAt P w j (.agg #[c0, c1, c2, c3, c4])) :
    c0 = .int .i64 j.kind ∧ c1 = .int .i64 j.num ∧ c2 = .string j.text ∧ (∃ a m, c3 = .slice a j.keys.length m) ∧ (∃ a m, c4 = .slice a j.kids.length m) := by
  obtain ⟨k, n, t, keys, kids⟩ := j
  rw [NodeAt] at h
  obtain ⟨kv, vv, e, h2, cs, h3, h4⟩ := h
  injection e with e; injection e with e; injection e with e0 e; injection e with e1 e; injection e with e2 e; injection e with e3 e; injection e with e4
  refine ⟨e0, e1, e2, ?_, ?_⟩
  · rw [e3]
    rcases h2 with ⟨⟨a, m, rfl⟩, h2, _⟩ | ⟨g, o, cap, rfl, _⟩
    · exact ⟨a, m, by show _ = Value.slice a keys.length m; rw [h2]⟩
    · exact ⟨_, _, rfl⟩
  · rw [e4]
    rcases h3 with ⟨⟨a, m, rfl⟩, h3, _⟩ | ⟨g, o, cap, rfl, _⟩
    · exact ⟨a, m, by show _ = Value.slice a kids.length m; rw [h3]⟩
    · exact ⟨_, _, rfl⟩
theorem kept_below {P : Nat → Prop} {w w' : World} (h : Below w.heap.size w w') : Kept P P w w' := fun g hg hl => ⟨hg, h.block g hl⟩
theorem NodeAt.forms8 {P : Nat → Prop} {w : World} {j : J} {c0 c1 c2 c3 c4 : Value} (h : NodeAt P w j (.agg #[c0, c1, c2, c3, c4])) :
    ∃ x0 x1 x2 a3 l3 m3 a4 l4 m4, c0 = .int .i64 x0 ∧ c1 = .int .i64 x1 ∧ c2 = .string x2 ∧ c3 = .slice a3 l3 m3 ∧ c4 = .slice a4 l4 m4 := by
  obtain ⟨e0, e1, e2, ⟨a3, m3, e3⟩, ⟨a4, m4, e4⟩⟩ := node_cells h
  exact ⟨_, _, _, _, _, _, _, _, _, e0, e1, e2, e3, e4⟩
end Go.Proofs.YtoofcclcimkipaaDoor.J7
