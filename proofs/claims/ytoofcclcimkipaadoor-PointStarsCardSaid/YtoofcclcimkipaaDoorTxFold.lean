/-
  text.Fold returns its text with the letters A to Z turned small, in a new text; nothing that was there is turned. Condition: the text has at most 2^40 bytes.
-/
import Derived.Test.YtoofcclcimkipaaDoorRows
import Derived.Test.YtoofcclcimkipaaDoorShelf
import Derived.Test.YtoofcclcimkipaaDoorTxPlain
import Derived.WalkKit
import Derived.WalkSpells
import Derived.Lib.Hide
namespace Go.Proofs.YtoofcclcimkipaaDoor.Tx
open Go Go.RowKit

theorem size_list (s : ByteArray) : s.size = s.data.toList.length := Lib.size_eq s
theorem byte_get (s : ByteArray) (k : Nat) (h : k < s.size) : s.data.toList[k]'(by rw [← Lib.size_eq]; exact h) = s[k] := by
  obtain ⟨⟨l⟩⟩ := s
  rfl
theorem cells_snoc (l : List UInt8) (c : UInt8) : Lib.byteCells (l ++ [c]) = Lib.byteCells l ++ [.int .u8 (c.toNat : Int)] := by
  rw [Lib.byteCells_append]
  rfl
theorem ret_str {a b : List UInt8} (h : a = b) : Ending.returned (.string ⟨a.toArray⟩) = Ending.returned (.string ⟨b.toArray⟩) := by rw [h]
theorem ret_bool {a b : Bool} (h : a = b) : Ending.returned (.bool a) = Ending.returned (.bool b) := by rw [h]
theorem fresh_block (w : World) (cs : Array Value) (T : TypeId) : (w.alloc (.cells cs T)).heap[w.heap.size]? = some (.cells cs T (0, 0)) := by
  show (w.heap.push _)[w.heap.size]? = _
  simp

end Go.Proofs.YtoofcclcimkipaaDoor.Tx
