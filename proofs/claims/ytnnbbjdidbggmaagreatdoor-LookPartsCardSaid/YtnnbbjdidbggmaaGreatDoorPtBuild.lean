/-
  A row of one empty part, built: a step of a region that draws; a load of a slice in a part's block. No law and no function of the project in this text. Conditions: none.
-/
import Derived.Test.YtnnbbjdidbggmaaGreatDoorPtMem
import Derived.RegionTactic
namespace Go.Proofs.YtnnbbjdidbggmaaGreatDoor.Pt
open Go Go.RowKit Go.Joins Kit F0

set_option maxHeartbeats 4000000 in
set_option maxRecDepth 100000 in
theorem step_build {ops : Array Oper} {o : Oper} {a : Act} {K : Act → World → Prop} {R : Exit → Act → World → Prop} {E : Prop} (hgd : o.guard = none) (ho : o.op = .buildSlice 40 1 #[(0, .const (.agg #[.string ⟨#[]⟩, .slice none 0 0, .string ⟨#[]⟩, .bool false, .int .i64 0, .int .i64 0, .int .i64 0, .slice none 0 0]))]) (hty : o.type = 40)
    (W : World)
    (k : ∀ W', W.alloc (.cells #[.string ⟨#[]⟩, .slice none 0 0, .string ⟨#[]⟩, .bool false, .int .i64 0, .int .i64 0, .int .i64 0, .slice none 0 0] 42) = W' → K (a.put o.dst (.slice (some ⟨W.heap.size, 0, none⟩) 1 1)) W') :
    if Region.wanted o (yielded ops a.tmps) = true then Oper.wp Tryz.prog o a W K R else E := by
  have hw : Region.wanted o (yielded ops a.tmps) = true := by unfold Region.wanted; rw [hgd]
  rw [if_pos hw]
  clear hw
  obtain ⟨dst, op, type, pos, after, guard⟩ := o
  subst ho hgd hty
  go_simp
  exact k _ rfl
set_option maxHeartbeats 4000000 in
set_option maxRecDepth 100000 in
theorem step_load {ops : Array Oper} {o : Oper} {a : Act} {K : Act → World → Prop} {R : Exit → Act → World → Prop} {E : Prop} (hgd : o.guard = none) (p : Tmp) (ho : o.op = .load 40 (.tmp p)) (hty : o.type = 40)
    (W : World) (ad : Addr) (x : Option Addr) (n c : Nat) (hp : a.eval (.tmp p) = .pointer (some ad)) (hc : W.cell? ad = some (.slice x n c)) (k : K (a.put o.dst (.slice x n c)) W) :
    if Region.wanted o (yielded ops a.tmps) = true then Oper.wp Tryz.prog o a W K R else E := by
  have hw : Region.wanted o (yielded ops a.tmps) = true := by unfold Region.wanted; rw [hgd]
  rw [if_pos hw]
  clear hw
  obtain ⟨dst, op, type, pos, after, guard⟩ := o
  subst ho hgd hty
  simp only [Act.eval] at hp
  go_simp
  exact k
end Go.Proofs.YtnnbbjdidbggmaaGreatDoor.Pt
