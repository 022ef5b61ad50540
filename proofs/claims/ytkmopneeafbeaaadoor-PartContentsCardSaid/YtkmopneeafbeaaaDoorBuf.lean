/-
  A slice of bytes of the call's own that grows: what append of bytes, and of a text, leaves. No law and no function of the project in this text. Conditions: none.
-/
import Derived.Test.YtkmopneeafbeaaaDoorKit
import Derived.Lib.AppendStr
namespace Go.Proofs.YtkmopneeafbeaaaDoor
open Go Go.RowKit Go.Joins

/-- A slice of the call's own, its bytes; what was there when W0 stood is as it was. -/
structure Buf (W0 : World) (v : Value) (l : List UInt8) (w : World) : Prop where
  own : w.ownsRow W0.heap.size 5 1 v l.length (Lib.byteCells l)
  below : Below W0.heap.size W0 w
namespace Buf
theorem empty {W0 w : World} (hb : Below W0.heap.size W0 w) : Buf W0 (.slice none 0 0) [] w := ⟨⟨by decide, Or.inl ⟨rfl, rfl⟩⟩, hb⟩
theorem next {W0 w w' : World} {v : Value} {l : List UInt8} (h : Buf W0 v l w) (hb : Below w.heap.size w w') : Buf W0 v l w' :=
  ⟨Kit.ownsRow_below h.own hb, h.below.trans (hb.mono h.below.size)⟩
theorem app {ops : Array Oper} {rest : List Oper} {o : Oper} {a : Act} {Q : Exit → Act → World → Prop} (hgd : o.guard = none) (s x : Operand)
    (ho : o.op = .call { callee := .builtin .append, args := #[s, x], argTypes := #[37, 37] })
    (W0 w : World) (v : Value) (l : List UInt8) (hB : Buf W0 v l w) (cs : Array Value) (ns : List UInt8) (m cap : Nat) (hm : ns.length = m) (hcs : cs.toList = Lib.byteCells ns) (hs : a.eval s = v) (hx : a.eval x = .slice (some ⟨w.heap.size, 0, none⟩) m cap)
    (hlen : l.length + m ≤ 140737488355328)
    (h : ∀ v' w', Buf W0 v' (l ++ ns) w' → wpList Tryd.prog ops Q rest (a.put o.dst v') w') : wpList Tryd.prog ops Q (o :: rest) a (w.alloc (.cells cs 5)) := by
  obtain ⟨i0, hi, hz0, hz1, hz2⟩ := info_parts Kit.info5
  subst hm
  refine wpList_append_own _ hgd s x 37 ho W0.heap.size 5 i0 (.int .u8 0) 1 1 Tryd.underlying37 hi hz0 hz1 hz2 rfl (by decide) v l.length _ hs (hB.own.alloc _) ⟨w.heap.size, 0, none⟩ ns.length cap (Lib.byteCells ns) hx ?_ ?_ ?_ ?_ ?_ ?_ ?_
  · rw [Lib.byteCells_length, Nat.mul_one]
  · intro j u hj
    rw [show (⟨w.heap.size, 0, none⟩ : Addr).add j = ⟨w.heap.size, j, none⟩ by simp [Addr.add]; omega, Lib.cell_of_heap (Kit.fresh_block w _ _), ← Array.getElem?_toList, hcs]
    exact hj
  · intro u hu
    unfold Lib.byteCells at hu
    obtain ⟨c, _, rfl⟩ := List.mem_map.1 hu
    rfl
  · unfold maxLen; omega
  · omega
  · have := hB.below.size; simp; omega
  · intro v' w' ho' hg _
    refine h v' w' ⟨?_, ?_⟩
    · rw [List.length_append, Lib.byteCells_append]; exact ho'
    · exact (hB.below.alloc hB.below.size (Obj.cells cs 5)).grown hg (by have := hB.below.size; simp; omega) (fun j hj => (hB.own.lt j hj).1)
theorem app_text {ops : Array Oper} {rest : List Oper} {o : Oper} {a : Act} {Q : Exit → Act → World → Prop} (hgd : o.guard = none) (s x : Operand)
    (ho : o.op = .call { callee := .builtin .append, args := #[s, x], argTypes := #[37, 9] })
    (W0 w : World) (v : Value) (l : List UInt8) (hB : Buf W0 v l w) (t : ByteArray) (hs : a.eval s = v) (hx : a.eval x = .string t)
    (hlen : l.length + t.size ≤ 140737488355328)
    (h : ∀ v' w', Buf W0 v' (l ++ t.data.toList) w' → wpList Tryd.prog ops Q rest (a.put o.dst v') w') : wpList Tryd.prog ops Q (o :: rest) a w := by
  obtain ⟨i0, hi, hz0, hz1, hz2⟩ := info_parts Kit.info5
  refine Lib.wpList_append_own_string _ hgd s x 37 9 ho W0.heap.size 5 i0 Tryd.underlying37 Tryd.underlying9 hi hz0 hz1 hz2 v l.length _ hs hB.own t hx ?_ ?_ ?_ ?_
  · unfold maxLen; omega
  · omega
  · exact hB.below.size
  · intro v' w' ho' hg _
    refine h v' w' ⟨?_, ?_⟩
    · rw [List.length_append, Lib.byteCells_append, ← Lib.size_eq]
      exact ho'
    · exact hB.below.grown hg hB.below.size (fun j hj => (hB.own.lt j hj).1)
/-- The slice, as a text. -/
theorem string {W0 w : World} {v : Value} {l : List UInt8} (h : Buf W0 v l w) : (convert 37 9 v).run Tryd.prog w = .ok (.string ⟨l.toArray⟩) w := Kit.run_row l l.length v w W0.heap.size h.own
end Buf
end Go.Proofs.YtkmopneeafbeaaaDoor
