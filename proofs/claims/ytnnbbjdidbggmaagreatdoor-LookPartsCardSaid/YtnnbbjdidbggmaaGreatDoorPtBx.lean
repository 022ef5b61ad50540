/-
  A variable of type Part in a block of its own: its cells, what stores leave of it, a result that is read off it. No law and no function of the project in this text. Conditions: none.
-/
import Derived.Test.YtnnbbjdidbggmaaGreatDoorPtStep
namespace Go.Proofs.YtnnbbjdidbggmaaGreatDoor.Pt
open Go Go.RowKit Go.Joins Kit F0

/-- A variable of type Part lies in block G. -/
structure Bx (G : Nat) (c0 c1 c2 c3 c4 c5 c6 c7 : Value) (w : World) : Prop where
  blk : w.heap[G]? = some (.cells #[c0, c1, c2, c3, c4, c5, c6, c7] 42 (0, 0))
namespace Bx
variable {G : Nat} {c0 c1 c2 c3 c4 c5 c6 c7 : Value} {w w' : World}
theorem lt (h : Bx G c0 c1 c2 c3 c4 c5 c6 c7 w) : G < w.heap.size := (Array.getElem?_eq_some_iff.1 h.blk).1
theorem p0 (h : Bx G c0 c1 c2 c3 c4 c5 c6 c7 w) : w.cell? ⟨G, 0, none⟩ = some c0 := by rw [Lib.cell_of_heap h.blk]; rfl
theorem p1 (h : Bx G c0 c1 c2 c3 c4 c5 c6 c7 w) : w.cell? ⟨G, 1, none⟩ = some c1 := by rw [Lib.cell_of_heap h.blk]; rfl
theorem p2 (h : Bx G c0 c1 c2 c3 c4 c5 c6 c7 w) : w.cell? ⟨G, 2, none⟩ = some c2 := by rw [Lib.cell_of_heap h.blk]; rfl
theorem p3 (h : Bx G c0 c1 c2 c3 c4 c5 c6 c7 w) : w.cell? ⟨G, 3, none⟩ = some c3 := by rw [Lib.cell_of_heap h.blk]; rfl
theorem p4 (h : Bx G c0 c1 c2 c3 c4 c5 c6 c7 w) : w.cell? ⟨G, 4, none⟩ = some c4 := by rw [Lib.cell_of_heap h.blk]; rfl
theorem p5 (h : Bx G c0 c1 c2 c3 c4 c5 c6 c7 w) : w.cell? ⟨G, 5, none⟩ = some c5 := by rw [Lib.cell_of_heap h.blk]; rfl
theorem p6 (h : Bx G c0 c1 c2 c3 c4 c5 c6 c7 w) : w.cell? ⟨G, 6, none⟩ = some c6 := by rw [Lib.cell_of_heap h.blk]; rfl
theorem p7 (h : Bx G c0 c1 c2 c3 c4 c5 c6 c7 w) : w.cell? ⟨G, 7, none⟩ = some c7 := by rw [Lib.cell_of_heap h.blk]; rfl
theorem free (h : Bx G c0 c1 c2 c3 c4 c5 c6 c7 w) (o : Nat) : w.frozen? ⟨G, o, none⟩ = false := Lib.frozen_of_heap h.blk o
theorem made (w : World) (c0 c1 c2 c3 c4 c5 c6 c7 : Value) : Bx w.heap.size c0 c1 c2 c3 c4 c5 c6 c7 (w.alloc (.cells #[c0, c1, c2, c3, c4, c5, c6, c7] 42)) := ⟨Kit.fresh_block w _ _⟩
theorem madeAt {n : Nat} (h : w.heap.size = n) (c0 c1 c2 c3 c4 c5 c6 c7 : Value) : Bx n c0 c1 c2 c3 c4 c5 c6 c7 (w.alloc (.cells #[c0, c1, c2, c3, c4, c5, c6, c7] 42)) := by
  subst h
  exact made w _ _ _ _ _ _ _ _
theorem same (h : Bx G c0 c1 c2 c3 c4 c5 c6 c7 w) (k : w'.heap[G]? = w.heap[G]?) : Bx G c0 c1 c2 c3 c4 c5 c6 c7 w' := ⟨k.trans h.blk⟩
theorem keep {R : Nat} (h : Bx G c0 c1 c2 c3 c4 c5 c6 c7 w) (k : Step R w w') (hn : G ≠ R) : Bx G c0 c1 c2 c3 c4 c5 c6 c7 w' := h.same (k.block G h.lt hn)
theorem below (h : Bx G c0 c1 c2 c3 c4 c5 c6 c7 w) (k : Below w.heap.size w w') : Bx G c0 c1 c2 c3 c4 c5 c6 c7 w' := h.same (k.block G h.lt)
theorem drew (h : Bx G c0 c1 c2 c3 c4 c5 c6 c7 w) : Bx G c0 c1 c2 c3 c4 c5 c6 c7 w.drew := ⟨h.blk⟩
theorem set0 (h : Bx G c0 c1 c2 c3 c4 c5 c6 c7 w) (d : Value) : Bx G d c1 c2 c3 c4 c5 c6 c7 (w.setCell ⟨G, 0, none⟩ d) := ⟨by simp [World.setCell, Array.getElem?_modify, h.blk]⟩
theorem set1 (h : Bx G c0 c1 c2 c3 c4 c5 c6 c7 w) (d : Value) : Bx G c0 d c2 c3 c4 c5 c6 c7 (w.setCell ⟨G, 1, none⟩ d) := ⟨by simp [World.setCell, Array.getElem?_modify, h.blk]⟩
theorem set2 (h : Bx G c0 c1 c2 c3 c4 c5 c6 c7 w) (d : Value) : Bx G c0 c1 d c3 c4 c5 c6 c7 (w.setCell ⟨G, 2, none⟩ d) := ⟨by simp [World.setCell, Array.getElem?_modify, h.blk]⟩
theorem set3 (h : Bx G c0 c1 c2 c3 c4 c5 c6 c7 w) (d : Value) : Bx G c0 c1 c2 d c4 c5 c6 c7 (w.setCell ⟨G, 3, none⟩ d) := ⟨by simp [World.setCell, Array.getElem?_modify, h.blk]⟩
theorem set7 (h : Bx G c0 c1 c2 c3 c4 c5 c6 c7 w) (d : Value) : Bx G c0 c1 c2 c3 c4 c5 c6 d (w.setCell ⟨G, 7, none⟩ d) := ⟨by simp [World.setCell, Array.getElem?_modify, h.blk]⟩
theorem setAll (h : Bx G c0 c1 c2 c3 c4 c5 c6 c7 w) (d0 d1 d2 d3 d4 d5 d6 d7 : Value) : Bx G d0 d1 d2 d3 d4 d5 d6 d7 ((((((((w.setCell ⟨G, 0, none⟩ d0).setCell ⟨G, 1, none⟩ d1).setCell ⟨G, 2, none⟩ d2).setCell ⟨G, 3, none⟩ d3).setCell ⟨G, 4, none⟩ d4).setCell ⟨G, 5, none⟩ d5).setCell ⟨G, 6, none⟩ d6).setCell ⟨G, 7, none⟩ d7) := ⟨by
  simp [World.setCell, Array.getElem?_modify, h.blk]⟩
end Bx
theorem Step.setAll {R G : Nat} {w w' : World} (h : Step R w w') (hg : w.heap.size ≤ G) (d0 d1 d2 d3 d4 d5 d6 d7 : Value) : Step R w ((((((((w'.setCell ⟨G, 0, none⟩ d0).setCell ⟨G, 1, none⟩ d1).setCell ⟨G, 2, none⟩ d2).setCell ⟨G, 3, none⟩ d3).setCell ⟨G, 4, none⟩ d4).setCell ⟨G, 5, none⟩ d5).setCell ⟨G, 6, none⟩ d6).setCell ⟨G, 7, none⟩ d7) :=
  (((((((h.setNew hg 0 d0).setNew hg 1 d1).setNew hg 2 d2).setNew hg 3 d3).setNew hg 4 d4).setNew hg 5 d5).setNew hg 6 d6).setNew hg 7 d7
/-- What a struct's result is read off. -/
theorem part_result {fn : Func} {p : Tmp} (h : fn.results = #[.cell p 42]) (tmps : Array Value) {w : World} {G : Nat} {c0 c1 c2 c3 c4 c5 c6 c7 : Value}
    (hp : tmps.getD p undef = .pointer (some ⟨G, 0, none⟩)) (hb : Bx G c0 c1 c2 c3 c4 c5 c6 c7 w) : (results fn tmps).run Tryz.prog w = .ok (.agg #[c0, c1, c2, c3, c4, c5, c6, c7]) w :=
  results_cell_row h tmps w G _ _ _ _ hp hb.blk Tryz.underlying42 rfl (by kernel_rfl)
/-- A store elsewhere. -/
theorem kept_set {Q : Nat → Prop} {w : World} {g o : Nat} {v : Value} (h : ¬ Q g) : Kept Q Q w (w.setCell ⟨g, o, none⟩ v) := kept_block fun k _ _ _ hk _ =>
  ⟨hk, Below.heap_setCell _ _ _ _ (fun e => h (by have e' : k = g := e; rw [← e']; exact hk))⟩
end Go.Proofs.YtnnbbjdidbggmaaGreatDoor.Pt
