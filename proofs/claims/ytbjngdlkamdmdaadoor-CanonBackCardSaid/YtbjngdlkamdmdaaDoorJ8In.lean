/-
  A value as it lies, in the form in which an argument is opened; what a reader has left. No law and no function of the project in this text. Conditions: none.
-/
import Derived.Test.YtbjngdlkamdmdaaDoorNds
import Derived.Test.YtbjngdlkamdmdaaDoorJ7Cells
namespace Go.Proofs.YtbjngdlkamdmdaaDoor.J8
open Go Go.RowKit Go.Joins Kit J7 Nds

mutual
theorem at_in {P : Nat → Prop} {w : World} : ∀ {j : J} {v : Value}, NodeAt P w j v → NodeIn w j v
  | .mk k n t keys kids, v, h => by
    rw [NodeAt] at h
    obtain ⟨kv, vv, rfl, h2, cs, h3, h4⟩ := h
    have hin := ats_in h4
    have hlen := kids_length h4
    have hvv : ∃ a cap, vv = .slice a kids.length cap ∧ ∀ q (h : q < cs.length), ∃ g o, a = some ⟨g, o, none⟩ ∧ w.cell? ⟨g, o + q, none⟩ = some cs[q] := by
      rcases h3 with ⟨⟨a, m, rfl⟩, h0, rfl⟩ | ⟨g, o, cap, rfl, hc⟩
      · exact ⟨a, m, by rw [h0], fun q h => absurd h (Nat.not_lt_zero q)⟩
      · exact ⟨_, cap, rfl, fun q h => ⟨g, o, rfl, (hc q h).2⟩⟩
    obtain ⟨a, cap, rfl, hc⟩ := hvv
    refine NodeIn.mk k n t keys kids kv a cap (fun i m => cs.getD (5 * i + m) (.int .i64 0)) ?_ (fun i hi => ?_) (fun i hi => hin i hi)
    · rcases h2 with ⟨⟨a, m, rfl⟩, h0, h1⟩ | ⟨g, o, cap, rfl, hc⟩
      · refine ⟨a, m, by rw [h0], fun q h => ?_⟩
        rw [h1] at h
        exact absurd h (Nat.not_lt_zero q)
      · exact ⟨_, cap, rfl, fun q h => ⟨g, o, rfl, (hc q h).2⟩⟩
    · obtain ⟨g, o, ha, _⟩ := hc (5 * i) (by omega)
      refine ⟨g, o, ha, fun m hm => ?_⟩
      obtain ⟨g', o', ha', h1⟩ := hc (5 * i + m) (by omega)
      rw [ha] at ha'
      injection ha' with ha'
      injection ha' with e1 e2 _
      subst e1 e2
      rw [h1, List.getD_eq_getElem?_getD, List.getElem?_eq_getElem (show 5 * i + m < cs.length by omega), Option.getD_some]
theorem ats_in {P : Nat → Prop} {w : World} : ∀ {l : List J} {cs : List Value}, KidsAt P w l cs → ∀ i (h : i < l.length), NodeIn w l[i] (.agg #[cs.getD (5 * i + 0) (.int .i64 0), cs.getD (5 * i + 1) (.int .i64 0), cs.getD (5 * i + 2) (.int .i64 0), cs.getD (5 * i + 3) (.int .i64 0), cs.getD (5 * i + 4) (.int .i64 0)])
  | [], cs, _, i, h => absurd h (Nat.not_lt_zero i)
  | j :: r, cs, h, 0, _ => by
    rw [KidsAt] at h
    obtain ⟨c0, c1, c2, c3, c4, t, rfl, h1, _⟩ := h
    exact at_in h1
  | j :: r, cs, h, i + 1, hi => by
    rw [KidsAt] at h
    obtain ⟨c0, c1, c2, c3, c4, t, rfl, _, h2⟩ := h
    exact ats_in h2 i (by simpa using hi)
end
end Go.Proofs.YtbjngdlkamdmdaaDoor.J8
