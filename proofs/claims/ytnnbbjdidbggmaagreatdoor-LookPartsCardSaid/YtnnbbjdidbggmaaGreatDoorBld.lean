/-
  A Builder of the call's own beside other blocks: what a store into another block, and a new block, leave of it; a literal of bytes as a text. No law and no function of the project in this text. Conditions: none.
-/
import Derived.Test.YtnnbbjdidbggmaaGreatDoorKit
import Derived.Lib.OthersKept
import Derived.OneCell
namespace Go.Proofs.YtnnbbjdidbggmaaGreatDoor.Bld
open Go Go.RowKit Go.Joins

theorem store_at {T e Tf : TypeId} {B b f : Nat} {p : Value} {bs : List Value} {w : World} {cs : Array Value} {fr : Nat × Nat} (h : Lib.BuilderAtF T e B b p bs w) (hf : w.heap[f]? = some (.cells cs Tf fr)) (hT : Tf ≠ e) (hfb : f ≠ b) (a : Addr) (ha : a.block = f) (v : Value) :
    Lib.BuilderAtF T e B b p bs (w.setCell a v) := by
  obtain ⟨hB, u, hb, hown, hne⟩ := h
  refine ⟨hB, u, ?_, ?_, hne⟩
  · rw [Below.heap_setCell _ _ _ _ (fun e => hfb (by rw [e, ha]))]
    exact hb
  · refine hown.kept (row := some f) ⟨rfl, rfl, rfl, by simp [World.setCell], fun k _ hk => Below.heap_setCell _ _ _ _ (fun e => hk (by rw [e, ha]))⟩ ?_
    exact Or.inr (Lib.ownBlock_neF hown hf hT)
/-- A store into a block that is neither the Builder's nor a row of bytes. -/
theorem store {T e Tf : TypeId} {B b f : Nat} {bs : List Value} {w : World} {cs : Array Value} {fr : Nat × Nat} (h : Lib.IsBuilderF T e B b bs w) (hf : w.heap[f]? = some (.cells cs Tf fr)) (hT : Tf ≠ e) (hfb : f ≠ b) (a : Addr) (ha : a.block = f) (v : Value) :
    Lib.IsBuilderF T e B b bs (w.setCell a v) :=
  h.elim (fun x => .inl (store_at x hf hT hfb a ha v)) (fun x => .inr (store_at x hf hT hfb a ha v))
theorem same_heap {T e : TypeId} {B b : Nat} {bs : List Value} {w w' : World} (h : Lib.IsBuilderF T e B b bs w) (hw : w.heap = w'.heap) : Lib.IsBuilderF T e B b bs w' := by
  unfold Lib.IsBuilderF Lib.BuilderAtF World.ownsRowF at h ⊢
  rw [← hw]
  exact h
theorem drewF {T e : TypeId} {B b : Nat} {bs : List Value} {w : World} (h : Lib.IsBuilderF T e B b bs w) : Lib.IsBuilderF T e B b bs w.drew := h
theorem new_one (w : World) (v : Value) (t : TypeId) : (w.alloc (.cells #[v] t)).heap[w.heap.size]? = some (.cells #[v] t (0, 0)) := Kit.fresh_block w _ _
theorem at_size {w : World} {cs : Array Value} {T : TypeId} {n : Nat} (h : w.heap.size = n) : (w.alloc (.cells cs T)).heap[n]? = some (.cells cs T (0, 0)) := by
  subst h
  exact Kit.fresh_block w cs T
theorem old_one {w : World} {f : Nat} {o : Obj} (h : w.heap[f]? = some o) (x : Obj) : (w.alloc x).heap[f]? = some o := by
  have hlt : f < w.heap.size := (Array.getElem?_eq_some_iff.1 h).1
  exact (Lib.alloc_old w x f hlt).trans h
/-- A literal of bytes, as a text. -/
theorem lit (l : List UInt8) (cs : Array Value) (W : World) (n cap : Nat) (hn : l.length = n) (h : cs.toList = Lib.byteCells l) :
    (convert 32 9 (.slice (some ⟨W.heap.size, 0, none⟩) n cap)).run Tryz.prog (W.alloc (.cells cs 5)) = .ok (.string ⟨l.toArray⟩) (W.alloc (.cells cs 5)) := by
  subst hn
  exact run_convert_bytes_back (P := Tryz.prog) _ 32 9 5 ⟨W.heap.size, 0, none⟩ cap l Tryz.underlying32 Tryz.underlying5 Tryz.underlying9 (fun j hj => by
    rw [show (⟨W.heap.size, 0, none⟩ : Addr).add j = ⟨W.heap.size, j, none⟩ by simp [Addr.add]; omega, Lib.cell_of_heap (Kit.fresh_block W _ _), ← Array.getElem?_toList, h]
    simp [Lib.byteCells, hj])
theorem str_cells (l : List UInt8) (s : ByteArray) : Lib.byteCells l ++ Lib.strCells s = Lib.byteCells (l ++ s.data.toList) := by
  rw [Lib.byteCells_append]
  rfl
end Go.Proofs.YtnnbbjdidbggmaaGreatDoor.Bld
