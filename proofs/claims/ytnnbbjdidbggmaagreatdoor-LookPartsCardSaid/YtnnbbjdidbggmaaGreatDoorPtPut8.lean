/-
  A store of a part into eight cells of a row of the call's own, as a step of a region that draws. No law and no function of the project in this text. Conditions: none.
-/
import Derived.Test.YtnnbbjdidbggmaaGreatDoorPtMem
import Derived.RegionTactic
namespace Go.Proofs.YtnnbbjdidbggmaaGreatDoor.Pt
open Go Go.RowKit Go.Joins Kit F0

set_option maxHeartbeats 4000000 in
set_option maxRecDepth 100000 in
theorem step_put8 {ops : Array Oper} {o : Oper} {a : Act} {K : Act → World → Prop} {R : Exit → Act → World → Prop} {E : Prop} (hgd : o.guard = none) (p x : Tmp) (ho : o.op = .store 42 (.tmp p) (.tmp x)) (hty : o.type = 0)
    (W : World) (g q : Nat) (x0 : ByteArray) (a1 : Option Addr) (l1 m1 : Nat) (x2 : ByteArray) (x3 : Bool) (x4 x5 x6 : Int) (a7 : Option Addr) (l7 m7 : Nat) (hp : a.eval (.tmp p) = .pointer (some ⟨g, q, none⟩)) (hx : a.eval (.tmp x) = .agg #[.string x0, .slice a1 l1 m1, .string x2, .bool x3, .int .i64 x4, .int .i64 x5, .int .i64 x6, .slice a7 l7 m7])
    (hz : ∀ j, j < 8 → W.cell? ⟨g, q + j, none⟩ = zeroC[j]? ∧ W.frozen? ⟨g, q + j, none⟩ = false)
    (k : K (a.put o.dst undef) (put8 W g q (.string x0) (.slice a1 l1 m1) (.string x2) (.bool x3) (.int .i64 x4) (.int .i64 x5) (.int .i64 x6) (.slice a7 l7 m7))) :
    if Region.wanted o (yielded ops a.tmps) = true then Oper.wp Tryz.prog o a W K R else E := by
  have hw : Region.wanted o (yielded ops a.tmps) = true := by unfold Region.wanted; rw [hgd]
  rw [if_pos hw]
  have z0 : W.cell? ⟨g, q, none⟩ = some (.string ⟨#[]⟩) := (hz 0 (by decide)).1
  have z1 : W.cell? ⟨g, q + 1, none⟩ = some (.slice none 0 0) := (hz 1 (by decide)).1
  have z2 : W.cell? ⟨g, q + 2, none⟩ = some (.string ⟨#[]⟩) := (hz 2 (by decide)).1
  have z3 : W.cell? ⟨g, q + 3, none⟩ = some (.bool false) := (hz 3 (by decide)).1
  have z4 : W.cell? ⟨g, q + 4, none⟩ = some (.int .i64 0) := (hz 4 (by decide)).1
  have z5 : W.cell? ⟨g, q + 5, none⟩ = some (.int .i64 0) := (hz 5 (by decide)).1
  have z6 : W.cell? ⟨g, q + 6, none⟩ = some (.int .i64 0) := (hz 6 (by decide)).1
  have z7 : W.cell? ⟨g, q + 7, none⟩ = some (.slice none 0 0) := (hz 7 (by decide)).1
  have y0 : W.frozen? ⟨g, q, none⟩ = false := (hz 0 (by decide)).2
  have y1 : W.frozen? ⟨g, q + 1, none⟩ = false := (hz 1 (by decide)).2
  have y2 : W.frozen? ⟨g, q + 2, none⟩ = false := (hz 2 (by decide)).2
  have y3 : W.frozen? ⟨g, q + 3, none⟩ = false := (hz 3 (by decide)).2
  have y4 : W.frozen? ⟨g, q + 4, none⟩ = false := (hz 4 (by decide)).2
  have y5 : W.frozen? ⟨g, q + 5, none⟩ = false := (hz 5 (by decide)).2
  have y6 : W.frozen? ⟨g, q + 6, none⟩ = false := (hz 6 (by decide)).2
  have y7 : W.frozen? ⟨g, q + 7, none⟩ = false := (hz 7 (by decide)).2
  unfold put8 at k
  clear hz hw
  obtain ⟨dst, op, type, pos, after, guard⟩ := o
  subst ho hgd hty
  simp only [Act.eval] at hp hx
  go_simp
  exact k
end Go.Proofs.YtnnbbjdidbggmaaGreatDoor.Pt
