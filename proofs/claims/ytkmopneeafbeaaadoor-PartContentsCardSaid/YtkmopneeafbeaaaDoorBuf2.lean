/-
  Two slices of bytes of the call's own that grow beside one another; append as a step of a region that draws its order. No law and no function of the project in this text. Conditions: none.
-/
import Derived.Test.YtkmopneeafbeaaaDoorBuf
import Derived.Deep.AppendLies
namespace Go.Proofs.YtkmopneeafbeaaaDoor
open Go Go.RowKit Go.Joins

namespace Buf
theorem drewB {W0 w : World} {v : Value} {l : List UInt8} (h : Buf W0 v l w) : Buf W0 v l w.drew := ⟨h.own, h.below.drew⟩
theorem form {W0 w : World} {v : Value} {l : List UInt8} (h : Buf W0 v l w) : ∃ ao cap, v = .slice ao l.length cap := by
  rcases h.own.2 with ⟨rfl, h0⟩ | ⟨g, cap, cur, rfl, _⟩
  · exact ⟨none, 0, by rw [h0]⟩
  · exact ⟨_, _, rfl⟩
theorem allocB {W0 w : World} {v : Value} {l : List UInt8} (h : Buf W0 v l w) (o : Obj) : Buf W0 v l (w.alloc o) := ⟨h.own.alloc o, h.below.alloc h.below.size o⟩
theorem lt_of {W0 w : World} {v : Value} {l : List UInt8} (h : Buf W0 v l w) {g : Nat} (hg : v.ownBlock = some g) : g < w.heap.size := by
  rcases h.own.2 with ⟨rfl, _⟩ | ⟨g', cap, cur, rfl, _, hh, _⟩
  · cases hg
  · simp only [Value.ownBlock, Option.some.injEq] at hg
    subst hg
    rcases Nat.lt_or_ge g' w.heap.size with h' | h'
    · exact h'
    · simp [Array.getElem?_eq_none h'] at hh
/-- What grows beside it leaves it as it was. -/
theorem beside {W0 w w' : World} {v : Value} {l : List UInt8} {row : Option Nat} (h : Buf W0 v l w) (hg : w.grownBy w' row) (hb : Below W0.heap.size W0 w') (hne : ∀ g, v.ownBlock = some g → row ≠ some g) : Buf W0 v l w' := by
  refine ⟨?_, hb⟩
  obtain ⟨h1, h2⟩ := h.own
  refine ⟨h1, ?_⟩
  rcases h2 with h2 | ⟨g, cap, cur, hv, hg2, hh, r⟩
  · exact Or.inl h2
  · have hlt : g < w.heap.size := h.lt_of (by rw [hv]; rfl)
    exact Or.inr ⟨g, cap, cur, hv, hg2, by rw [hg.block g hlt (fun e => hne g (by rw [hv]; rfl) e.symm)]; exact hh, r⟩
/-- append, as a step of a region that draws. -/
theorem step {ops : Array Oper} {o : Oper} {a : Act} {K : Act → World → Prop} {Q : Exit → Act → World → Prop} {E : Prop} (hgd : o.guard = none) (s x : Operand)
    (ho : o.op = .call { callee := .builtin .append, args := #[s, x], argTypes := #[37, 37] })
    (W0 w : World) (v : Value) (l : List UInt8) (hB : Buf W0 v l w) (ns : List UInt8) (m cap b : Nat) (cs : Array Value) (fr : Nat × Nat) (hm : ns.length = m) (hm0 : 0 < m) (hcs : cs.toList = Lib.byteCells ns) (hblk : w.heap[b]? = some (.cells cs 5 fr))
    (hs : a.eval s = v) (hx : a.eval x = .slice (some ⟨b, 0, none⟩) m cap) (hlen : l.length + m ≤ 140737488355328)
    (h : ∀ g c w', Buf W0 (.slice (some ⟨g, 0, none⟩) (l.length + m) c) (l ++ ns) w' → w.grownBy w' v.ownBlock → (v.ownBlock = some g ∨ g = w.heap.size) → Below W0.heap.size W0 w' → K (a.put o.dst (.slice (some ⟨g, 0, none⟩) (l.length + m) c)) w') :
    if Region.wanted o (yielded ops a.tmps) = true then Oper.wp Tryd.prog o a w K Q else E := by
  obtain ⟨i0, hi, hz0, hz1, hz2⟩ := info_parts Kit.info5
  subst hm
  refine step_append_lies w hgd s x 37 ho W0.heap.size 5 i0 (.int .u8 0) 1 1 Tryd.underlying37 hi hz0 hz1 hz2 rfl (by decide) v l.length _ hs hB.own ⟨b, 0, none⟩ ns.length cap (Lib.byteCells ns) hx ?_ ?_ ?_ hm0 ?_ ?_ hB.below.size w.heap.size rfl ?_
  · rw [Lib.byteCells_length, Nat.mul_one]
  · intro j u hj
    exact World.news_of_block hblk j u (by rw [hcs]; exact hj)
  · intro u hu
    unfold Lib.byteCells at hu
    obtain ⟨c, _, rfl⟩ := List.mem_map.1 hu
    rfl
  · unfold maxLen; omega
  · omega
  · intro g c w' ho' hg hat _
    have hb : Below W0.heap.size W0 w' := hB.below.grown hg hB.below.size (fun j hj => (hB.own.lt j hj).1)
    refine h g c w' ⟨?_, hb⟩ hg hat hb
    rw [List.length_append, Lib.byteCells_append]
    exact ho'
/-- append of what stands in a block, in a region that does not draw. -/
theorem app_at {ops : Array Oper} {rest : List Oper} {o : Oper} {a : Act} {Q : Exit → Act → World → Prop} (hgd : o.guard = none) (s x : Operand)
    (ho : o.op = .call { callee := .builtin .append, args := #[s, x], argTypes := #[37, 37] })
    (W0 w : World) (v : Value) (l : List UInt8) (hB : Buf W0 v l w) (ns : List UInt8) (m cap b : Nat) (cs : Array Value) (fr : Nat × Nat) (hm : ns.length = m) (hm0 : 0 < m) (hcs : cs.toList = Lib.byteCells ns) (hblk : w.heap[b]? = some (.cells cs 5 fr))
    (hs : a.eval s = v) (hx : a.eval x = .slice (some ⟨b, 0, none⟩) m cap) (hlen : l.length + m ≤ 140737488355328)
    (h : ∀ g c w', Buf W0 (.slice (some ⟨g, 0, none⟩) (l.length + m) c) (l ++ ns) w' → w.grownBy w' v.ownBlock → (v.ownBlock = some g ∨ g = w.heap.size) → wpList Tryd.prog ops Q rest (a.put o.dst (.slice (some ⟨g, 0, none⟩) (l.length + m) c)) w') : wpList Tryd.prog ops Q (o :: rest) a w := by
  obtain ⟨i0, hi, hz0, hz1, hz2⟩ := info_parts Kit.info5
  subst hm
  refine wpList_append_lies w hgd s x 37 ho W0.heap.size 5 i0 (.int .u8 0) 1 1 Tryd.underlying37 hi hz0 hz1 hz2 rfl (by decide) v l.length _ hs hB.own ⟨b, 0, none⟩ ns.length cap (Lib.byteCells ns) hx ?_ ?_ ?_ hm0 ?_ ?_ hB.below.size w.heap.size rfl ?_
  · rw [Lib.byteCells_length, Nat.mul_one]
  · intro j u hj
    exact World.news_of_block hblk j u (by rw [hcs]; exact hj)
  · intro u hu
    unfold Lib.byteCells at hu
    obtain ⟨c, _, rfl⟩ := List.mem_map.1 hu
    rfl
  · unfold maxLen; omega
  · omega
  · intro g c w' ho' hg hat _
    refine h g c w' ⟨?_, hB.below.grown hg hB.below.size (fun j hj => (hB.own.lt j hj).1)⟩ hg hat
    rw [List.length_append, Lib.byteCells_append]
    exact ho'
end Buf

/-- Two such slices, in blocks of their own. -/
structure Two (W0 : World) (va : Value) (la : List UInt8) (vb : Value) (lb : List UInt8) (w : World) : Prop where
  fst : Buf W0 va la w
  snd : Buf W0 vb lb w
  ne : ∀ g, va.ownBlock = some g → vb.ownBlock ≠ some g
namespace Two
variable {W0 w w' : World} {va vb : Value} {la lb : List UInt8}
theorem empty (hb : Below W0.heap.size W0 w) : Two W0 (.slice none 0 0) [] (.slice none 0 0) [] w := ⟨Buf.empty hb, Buf.empty hb, fun g h => by cases h⟩
theorem drew (h : Two W0 va la vb lb w) : Two W0 va la vb lb w.drew := ⟨h.fst.drewB, h.snd.drewB, h.ne⟩
theorem alloc (h : Two W0 va la vb lb w) (o : Obj) : Two W0 va la vb lb (w.alloc o) := ⟨h.fst.allocB o, h.snd.allocB o, h.ne⟩
theorem swap (h : Two W0 va la vb lb w) : Two W0 vb lb va la w := ⟨h.snd, h.fst, fun g hb ha => h.ne g ha hb⟩
theorem next (h : Two W0 va la vb lb w) (hb : Below w.heap.size w w') : Two W0 va la vb lb w' := ⟨h.fst.next hb, h.snd.next hb, h.ne⟩
theorem nils (h : Two W0 va la vb lb w) : Two W0 va la (.slice none 0 0) [] w := ⟨h.fst, Buf.empty h.fst.below, fun g _ hh => by cases hh⟩
/-- The first grows. -/
theorem grow {g n c : Nat} {l' : List UInt8} (h : Two W0 va la vb lb w) (hB : Buf W0 (.slice (some ⟨g, 0, none⟩) n c) l' w') (hg : w.grownBy w' va.ownBlock) (hat : va.ownBlock = some g ∨ g = w.heap.size) : Two W0 (.slice (some ⟨g, 0, none⟩) n c) l' vb lb w' := by
  refine ⟨hB, h.snd.beside hg hB.below (fun x hx e => h.ne x e hx), ?_⟩
  intro x hx hb
  have hxg : g = x := by simpa [Value.ownBlock] using hx
  subst hxg
  rcases hat with hat | hat
  · exact h.ne g hat hb
  · have := h.snd.lt_of hb
    omega
theorem growN {g n c m : Nat} {l' : List UInt8} (h : Two W0 va la vb lb w) (hB : Buf W0 (.slice (some ⟨g, 0, none⟩) n c) l' w') (hg : w.grownBy w' va.ownBlock) (hat : va.ownBlock = some g ∨ g = m) (hm : w.heap.size = m) : Two W0 (.slice (some ⟨g, 0, none⟩) n c) l' vb lb w' := h.grow hB hg (by rw [hm]; exact hat)
end Two
end Go.Proofs.YtkmopneeafbeaaaDoor
