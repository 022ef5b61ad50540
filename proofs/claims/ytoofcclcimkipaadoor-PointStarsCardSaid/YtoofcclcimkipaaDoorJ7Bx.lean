/-
  A variable of type Node in a block of its own: its cells, what stores leave of it, a result that is read off it. No law in this text. Conditions: none.
-/
import Derived.Test.YtoofcclcimkipaaDoorJ7Step
namespace Go.Proofs.YtoofcclcimkipaaDoor.J7
open Go Go.RowKit Go.Joins Kit

/-- A variable of type Node lies in block G. -/
structure Bx (G : Nat) (c0 c1 c2 c3 c4 : Value) (w : World) : Prop where
  blk : w.heap[G]? = some (.cells #[c0, c1, c2, c3, c4] 25 (0, 0))
namespace Bx
variable {G : Nat} {c0 c1 c2 c3 c4 : Value} {w w' : World}
theorem lt (h : Bx G c0 c1 c2 c3 c4 w) : G < w.heap.size := by
  rcases Nat.lt_or_ge G w.heap.size with h' | h'
  · exact h'
  · have := h.blk; simp [Array.getElem?_eq_none h'] at this
theorem p0 (h : Bx G c0 c1 c2 c3 c4 w) : w.cell? ⟨G, 0, none⟩ = some c0 := by rw [Lib.cell_of_heap h.blk]; rfl
theorem p1 (h : Bx G c0 c1 c2 c3 c4 w) : w.cell? ⟨G, 1, none⟩ = some c1 := by rw [Lib.cell_of_heap h.blk]; rfl
theorem p2 (h : Bx G c0 c1 c2 c3 c4 w) : w.cell? ⟨G, 2, none⟩ = some c2 := by rw [Lib.cell_of_heap h.blk]; rfl
theorem p3 (h : Bx G c0 c1 c2 c3 c4 w) : w.cell? ⟨G, 3, none⟩ = some c3 := by rw [Lib.cell_of_heap h.blk]; rfl
theorem p4 (h : Bx G c0 c1 c2 c3 c4 w) : w.cell? ⟨G, 4, none⟩ = some c4 := by rw [Lib.cell_of_heap h.blk]; rfl
theorem free (h : Bx G c0 c1 c2 c3 c4 w) (o : Nat) : w.frozen? ⟨G, o, none⟩ = false := by
  unfold World.frozen?
  simp only [h.blk]
  simp
theorem setAll (h : Bx G c0 c1 c2 c3 c4 w) (d0 d1 d2 d3 d4 : Value) : Bx G d0 d1 d2 d3 d4 (((((w.setCell ⟨G, 0, none⟩ d0).setCell ⟨G, 1, none⟩ d1).setCell ⟨G, 2, none⟩ d2).setCell ⟨G, 3, none⟩ d3).setCell ⟨G, 4, none⟩ d4) := ⟨by
  have := h.blk
  simp [World.setCell, Array.getElem?_modify, this]⟩
theorem made (w : World) (c0 c1 c2 c3 c4 : Value) : Bx w.heap.size c0 c1 c2 c3 c4 (w.alloc (.cells #[c0, c1, c2, c3, c4] 25)) := ⟨Kit.fresh_block w _ _⟩
theorem drewN (h : Bx G c0 c1 c2 c3 c4 w) (n : Nat) : Bx G c0 c1 c2 c3 c4 (w.drewN n) := ⟨h.blk⟩
theorem keep {R : Nat} (h : Bx G c0 c1 c2 c3 c4 w) (k : Step R w w') (hn : G ≠ R) : Bx G c0 c1 c2 c3 c4 w' := ⟨by rw [k.block G h.lt hn]; exact h.blk⟩
end Bx
theorem Step.setAll {R G : Nat} {w w' : World} (h : Step R w w') (hg : w.heap.size ≤ G) (d0 d1 d2 d3 d4 : Value) : Step R w (((((w'.setCell ⟨G, 0, none⟩ d0).setCell ⟨G, 1, none⟩ d1).setCell ⟨G, 2, none⟩ d2).setCell ⟨G, 3, none⟩ d3).setCell ⟨G, 4, none⟩ d4) :=
  ((((h.setNew hg 0 d0).setNew hg 1 d1).setNew hg 2 d2).setNew hg 3 d3).setNew hg 4 d4
/-- What a struct's result is read off. -/
theorem node_result {fn : Func} {p : Tmp} (h : fn.results = #[.cell p 25]) (tmps : Array Value) {w : World} {G : Nat} {c0 c1 c2 c3 c4 : Value}
    (hp : tmps.getD p undef = .pointer (some ⟨G, 0, none⟩)) (hb : Bx G c0 c1 c2 c3 c4 w) : (results fn tmps).run Tryd.prog w = .ok (.agg #[c0, c1, c2, c3, c4]) w :=
  results_cell_row h tmps w G _ _ _ _ hp hb.blk Tryd.underlying25 rfl (by kernel_rfl)
namespace Bx
variable {G : Nat} {c0 c1 c2 c3 c4 : Value} {w w' : World}
theorem set3 (h : Bx G c0 c1 c2 c3 c4 w) (d : Value) : Bx G c0 c1 c2 d c4 (w.setCell ⟨G, 3, none⟩ d) := ⟨by
  have := h.blk
  simp [World.setCell, Array.getElem?_modify, this]⟩
theorem set4 (h : Bx G c0 c1 c2 c3 c4 w) (d : Value) : Bx G c0 c1 c2 c3 d (w.setCell ⟨G, 4, none⟩ d) := ⟨by
  have := h.blk
  simp [World.setCell, Array.getElem?_modify, this]⟩
theorem drew (h : Bx G c0 c1 c2 c3 c4 w) : Bx G c0 c1 c2 c3 c4 w.drew := ⟨h.blk⟩
theorem alloc (h : Bx G c0 c1 c2 c3 c4 w) (o : Obj) : Bx G c0 c1 c2 c3 c4 (w.alloc o) := ⟨by rw [Below.heap_alloc w o G h.lt]; exact h.blk⟩
/-- It stays where its own block does. -/
theorem same (h : Bx G c0 c1 c2 c3 c4 w) (hs : w'.heap[G]? = w.heap[G]?) : Bx G c0 c1 c2 c3 c4 w' := ⟨by rw [hs]; exact h.blk⟩
end Bx
/-- Five stores into a variable. -/
def putN (w : World) (G : Nat) (d0 d1 d2 d3 d4 : Value) : World := ((((w.setCell ⟨G, 0, none⟩ d0).setCell ⟨G, 1, none⟩ d1).setCell ⟨G, 2, none⟩ d2).setCell ⟨G, 3, none⟩ d3).setCell ⟨G, 4, none⟩ d4
theorem putN_block (w : World) (G : Nat) (d0 d1 d2 d3 d4 : Value) (g : Nat) (h : g ≠ G) : (putN w G d0 d1 d2 d3 d4).heap[g]? = w.heap[g]? := by
  unfold putN
  rw [Below.heap_setCell _ _ _ _ h, Below.heap_setCell _ _ _ _ h, Below.heap_setCell _ _ _ _ h, Below.heap_setCell _ _ _ _ h, Below.heap_setCell _ _ _ _ h]
theorem putN_size (w : World) (G : Nat) (d0 d1 d2 d3 d4 : Value) : (putN w G d0 d1 d2 d3 d4).heap.size = w.heap.size := by simp [putN, World.setCell]
theorem putN_bx {w : World} {G : Nat} {c0 c1 c2 c3 c4 : Value} (h : Bx G c0 c1 c2 c3 c4 w) (d0 d1 d2 d3 d4 : Value) : Bx G d0 d1 d2 d3 d4 (putN w G d0 d1 d2 d3 d4) := h.setAll _ _ _ _ _
theorem putN_step {R G : Nat} {w w' : World} (h : Step R w w') (hg : w.heap.size ≤ G) (d0 d1 d2 d3 d4 : Value) : Step R w (putN w' G d0 d1 d2 d3 d4) := h.setAll hg _ _ _ _ _
theorem putN_kept {P : Nat → Prop} {w : World} {G : Nat} (hP : ∀ g, P g → g ≠ G) (d0 d1 d2 d3 d4 : Value) : Kept P P w (putN w G d0 d1 d2 d3 d4) := fun g hg _ => ⟨hg, putN_block w G _ _ _ _ _ g (hP g hg)⟩
/-- A new variable of type Node, of nothing. -/
def newZ (w : World) : World := w.alloc (Obj.cells #[Value.int IntKind.i64 0, Value.int IntKind.i64 0, Value.string { data := #[] }, Value.slice none 0 0, Value.slice none 0 0] 25)
theorem newZ_bx (w : World) : Bx w.heap.size (.int .i64 0) (.int .i64 0) (.string { data := #[] }) (.slice none 0 0) (.slice none 0 0) (newZ w) := Bx.made w _ _ _ _ _
theorem newZ_size (w : World) : (newZ w).heap.size = w.heap.size + 1 := by simp [newZ]
theorem newZ_block (w : World) (g : Nat) (h : g < w.heap.size) : (newZ w).heap[g]? = w.heap[g]? := Below.heap_alloc w _ g h
theorem newZ_step {R : Nat} {w w' : World} (h : Step R w w') : Step R w (newZ w') := h.alloc _
/-- .. of a kind. -/
def newN (w : World) (k : Int) : World := w.alloc (Obj.cells #[Value.int IntKind.i64 k, Value.int IntKind.i64 0, Value.string { data := #[] }, Value.slice none 0 0, Value.slice none 0 0] 25)
theorem newN_bx (w : World) (k : Int) : Bx w.heap.size (.int .i64 k) (.int .i64 0) (.string { data := #[] }) (.slice none 0 0) (.slice none 0 0) (newN w k) := Bx.made w _ _ _ _ _
theorem newN_size (w : World) (k : Int) : (newN w k).heap.size = w.heap.size + 1 := by simp [newN]
theorem newN_block (w : World) (k : Int) (g : Nat) (h : g < w.heap.size) : (newN w k).heap[g]? = w.heap[g]? := Below.heap_alloc w _ g h
theorem newN_step {R : Nat} {w w' : World} (h : Step R w w') (k : Int) : Step R w (newN w' k) := h.alloc _
end Go.Proofs.YtoofcclcimkipaaDoor.J7
