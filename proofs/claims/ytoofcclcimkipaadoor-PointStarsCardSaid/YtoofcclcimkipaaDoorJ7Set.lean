/-
  A set of texts: a map from texts to nothing, of the call's own. No law and no function of the project in this text. Conditions: none.
-/
import Derived.Test.YtoofcclcimkipaaDoorJ7Plain
import Derived.Test.YtoofcclcimkipaaDoorKit
import Derived.Maps.OwnSet
import Derived.StringKeys
namespace Go.Proofs.YtoofcclcimkipaaDoor.J7
open Go Go.RowKit Go.Joins Kit Go.Maps Go.WideMaps

theorem keyed : Keyed Tryd.prog 9 := string_keyed Tryd.underlying9
theorem zeroU (w : World) : (zeroValue 78).run Tryd.prog w = .ok (.agg #[]) w := by kernel_rfl
def litK (k : ByteArray) : Lit := .string k.data.toList
/-- The set of the keys. -/
def setK (keys : List ByteArray) : DataW Unit := setOf (.agg []) (keys.map litK)
/-- The set of the keys lies in block M. -/
def Seen (M : Nat) (keys : List ByteArray) (w : World) : Prop := w.ownsMap Tryd.prog 9 unitElem M keys.length (setK keys)
theorem Seen.same {M : Nat} {keys : List ByteArray} {w w' : World} (h : Seen M keys w) (hb : w'.heap[M]? = w.heap[M]?) : Seen M keys w' := by
  obtain ⟨es, clock, h1, h2, h3, h4⟩ := h
  exact ⟨es, clock, hb.trans h1, h2, h3, h4⟩
theorem has_setK (keys : List ByteArray) (k : List UInt8) : Maps.has (setK keys) (.string k) = hasB keys k := by
  unfold setK
  rw [has_setOf]
  · rw [List.any_map]
    unfold hasB
    congr 1
  · intro x hx
    obtain ⟨y, _, rfl⟩ := List.mem_map.1 hx
    exact trivial
theorem setK_snoc (keys : List ByteArray) (k : ByteArray) : setK (keys ++ [k]) = (setK keys).put (litK k) (.agg []) := by
  unfold setK
  rw [List.map_append, List.map_singleton, setOf_snoc]
end Go.Proofs.YtoofcclcimkipaaDoor.J7
