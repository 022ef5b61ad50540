/-
  The statements' own example over package json is awake. Conditions: none.
-/
import Derived.Test.YtbjngdlkamdmdaaDoorJ7Rdr
import Derived.Test.YtbjngdlkamdmdaaDoorJ7Cells
import Derived.Test.YtbjngdlkamdmdaaDoorL3Num
import Derived.Lib.SlBytesConst
namespace Go.Proofs.YtbjngdlkamdmdaaDoor.J7
open Go Go.RowKit Go.Joins Kit

def exL : List UInt8 := [91, 49, 44, 32, 34, 97, 34, 93]
theorem exL_parse : parseG numC exL = .ok (.mk 6 0 ⟨#[]⟩ [] [numJ 1, strJ [97]]) := by kernel_rfl
theorem marked_block (w : World) (cs : Array Value) (T : TypeId) (fr : Nat × Nat) : (w.alloc (.cells cs T fr)).heap[w.heap.size]? = some (.cells cs T fr) := by
  show (w.heap.push _)[w.heap.size]? = _
  simp
/-- A literal of bytes in a block of its own. -/
theorem bytes_lit (l : List UInt8) (cs : Array Value) (W : World) (n cap : Nat) (fr : Nat × Nat) (hn : l.length = n) (h : cs.toList = Lib.byteCells l) : BytesAt (W.alloc (.cells cs 5 fr)) (.slice (some ⟨W.heap.size, 0, none⟩) n cap) l := by
  subst hn
  refine Or.inr ⟨_, cap, rfl, fun j hj => ?_⟩
  rw [show (⟨W.heap.size, 0, none⟩ : Addr).add j = ⟨W.heap.size, j, none⟩ by simp [Addr.add]; omega, Lib.cell_of_heap (marked_block W _ _ _), ← Array.getElem?_toList, h]
  simp [Lib.byteCells, hj]
theorem convert_lit (w : World) (C : Array Value) (n c : Nat) : (convert 40 40 (.slice (some ⟨w.heap.size, 0, none⟩) n c)).run Tryd.prog (w.alloc (.cells C 5)) = .ok (.slice (some ⟨w.heap.size, 0, none⟩) n c) (w.alloc (.cells C 5 (C.size, C.size + 1))) :=
  Lib.run_convert_bytes_const (P := Tryd.prog) w 40 5 C n c Tryd.underlying40 Tryd.underlying5

end Go.Proofs.YtbjngdlkamdmdaaDoor.J7
