/-
  Bytes in a row of the call's own that grows: append of bytes, of a text. No law and no function of the project in this text. Conditions: what it holds has at most 2^47 bytes.
-/
import Derived.Test.YtigamkdomdglhaaDoorKit
import Derived.Lib.AppendStr
import Derived.Lib.OthersKept
import Derived.Deep.AppendLies
import Derived.IntWalk
namespace Go.Proofs.YtigamkdomdglhaaDoor.J7
open Go Go.RowKit Go.Joins Kit

namespace Ow
theorem own_keep {w w' : World} {B : Nat} {e : TypeId} {v : Value} {n : Nat} {xs : List Value} (h : w.ownsRow B e 1 v n xs) (hk : ∀ g, v.ownBlock = some g → g < w.heap.size → w'.heap[g]? = w.heap[g]?) : w'.ownsRow B e 1 v n xs := by
  obtain ⟨h1, h2⟩ := h
  refine ⟨h1, ?_⟩
  rcases h2 with h2 | ⟨g, cap, cur, hv, hg, hh, r⟩
  · exact Or.inl h2
  · exact Or.inr ⟨g, cap, cur, hv, hg, by rw [hk g (by rw [hv]; rfl) (Array.getElem?_eq_some_iff.1 hh).1]; exact hh, r⟩
/-- append of a text: where the new slice lies. -/
theorem run_text_lies {P : Program} (w : World) (base : Nat) (t u ty e : TypeId) (i : TypeInfo) (ht : P.underlying t = some (.slice e)) (hu : P.underlying u = some .string) (hi : P.info? e = some i) (hz : i.zero = some (.int .u8 0))
    (hsize : i.size = 1) (hby : i.bytes = 1) (v : Value) (n : Nat) (xs : List Value) (hown : w.ownsRow base e 1 v n xs) (s : ByteArray)
    (h63 : n + s.size ≤ maxLen) (hbytes : n + s.size ≤ 140737488355328) (hbase : base ≤ w.heap.size) :
    ∃ v' w', (Builtin.append_ #[t, u] ty #[v, .string s]).run P w = .ok v' w' ∧ w'.ownsRow base e 1 v' (n + s.size) (xs ++ Lib.strCells s) ∧ w.grownBy w' v.ownBlock ∧
      (∀ g, v'.ownBlock = some g → v.ownBlock = some g ∨ w.heap.size ≤ g) := by
  obtain ⟨v', w', hr, h2, h3, _⟩ := Lib.run_append_own_string (P := P) w base t u ty e i ht hu hi hz hsize hby v n xs hown s h63 hbytes hbase
  refine ⟨v', w', hr, h2, h3, ?_⟩
  have hn := hown.1
  rcases hown.2 with ⟨rfl, rfl⟩ | ⟨g, cap, cur, rfl, hbg, hg, hnc, hcm, hcs, htake⟩
  · have hx : xs = [] := List.eq_nil_of_length_eq_zero (by simpa using hn)
    subst hx
    obtain ⟨v2, w2, hr2, h22, _⟩ := Lib.run_append_own_string (P := P) w w.heap.size t u ty e i ht hu hi hz hsize hby (.slice none 0 0) 0 [] (World.ownsRow_nil w _ _ _) s h63 hbytes (Nat.le_refl _)
    rw [hr2] at hr
    injection hr with e1 e2
    subst e1
    intro g hg
    rcases h22.2 with ⟨rfl, _⟩ | ⟨g', cap, cur, rfl, hb, _⟩
    · cases hg
    · simp only [Value.ownBlock, Option.some.injEq] at hg
      subst hg
      exact Or.inr hb
  · by_cases hroom : n + s.size ≤ cap
    · have hcs' : cur.size = cap := by simpa using hcs
      rw [Lib.run_append_room_string (P := P) w t u ty e i ht hu hi hsize g n cap cur hg s hroom (by omega)] at hr
      injection hr with e1 e2
      subst e1
      exact fun x hx => Or.inl hx
    · have hl63 : ((n + s.size : Nat) : Int) ≤ 9223372036854775807 := by omega
      rw [Lib.run_append_grow_string (P := P) w t u ty e i (.int .u8 0) ht hu hi hz ⟨g, 0, none⟩ n cap xs (by rw [hsize]; simpa using hn) (hown.cells (g := g) rfl) s (by omega) hl63 (by rw [hby]; exact growslice_fits (by omega) (by omega))] at hr
      injection hr with e1 e2
      subst e1
      intro x hx
      simp only [Value.ownBlock, Option.some.injEq] at hx
      exact Or.inr (by omega)
theorem wpList_text_lies {P : Program} {ops : Array Oper} {rest : List Oper} {o : Oper} {a : Act} {Q : Exit → Act → World → Prop} (w : World) (hgd : o.guard = none) (sl x : Operand) (t u : TypeId)
    (ho : o.op = .call { callee := .builtin .append, args := #[sl, x], argTypes := #[t, u] })
    (base : Nat) (e : TypeId) (i : TypeInfo) (ht : P.underlying t = some (.slice e)) (hu : P.underlying u = some .string) (hi : P.info? e = some i) (hz : i.zero = some (.int .u8 0)) (hsize : i.size = 1) (hby : i.bytes = 1)
    (v : Value) (n : Nat) (xs : List Value) (hs : a.eval sl = v) (hown : w.ownsRow base e 1 v n xs) (s : ByteArray) (hx : a.eval x = .string s)
    (h63 : n + s.size ≤ maxLen) (hbytes : n + s.size ≤ 140737488355328) (hbase : base ≤ w.heap.size)
    (h : ∀ v' w', w'.ownsRow base e 1 v' (n + s.size) (xs ++ Lib.strCells s) → w.grownBy w' v.ownBlock → (∀ g, v'.ownBlock = some g → v.ownBlock = some g ∨ w.heap.size ≤ g) → wpList P ops Q rest (a.put o.dst v') w') : wpList P ops Q (o :: rest) a w := by
  refine wpList_plain hgd fun K hK => ?_
  obtain ⟨v', w', hr, h2, h3, h4⟩ := run_text_lies (P := P) w base t u o.type e i ht hu hi hz hsize hby v n xs hown s h63 hbytes hbase
  unfold Oper.wp execOp
  simp only [ho, resolve, invoke, builtin, Sem.run_bind, Sem.run_pure, Result.andThen_ok, List.map_toArray, List.map_cons, List.map_nil, hs, hx, hr]
  exact hK _ _ (h v' w' h2 h3 h4)
theorem str_cells (l : List UInt8) (s : ByteArray) : Lib.byteCells l ++ Lib.strCells s = Lib.byteCells (l ++ s.data.toList) := by
  rw [Lib.byteCells_append]
  rfl
end Ow
/-- What turns while a slice grows: its own row, and what is new. -/
structure Gb (w w' : World) (v v' : Value) : Prop where
  os : w'.os = w.os
  tape : w'.tape = w.tape
  output : w'.output = w.output
  size : w.heap.size ≤ w'.heap.size
  block : ∀ k, k < w.heap.size → v.ownBlock ≠ some k → w'.heap[k]? = w.heap[k]?
  own : ∀ g, v'.ownBlock = some g → v.ownBlock = some g ∨ w.heap.size ≤ g
theorem Gb.refl (w : World) (v : Value) : Gb w w v v := ⟨rfl, rfl, rfl, Nat.le_refl _, fun _ _ _ => rfl, fun _ h => Or.inl h⟩
theorem Gb.trans {a b c : World} {v v' v'' : Value} (h : Gb a b v v') (k : Gb b c v' v'') : Gb a c v v'' :=
  ⟨k.os.trans h.os, k.tape.trans h.tape, k.output.trans h.output, Nat.le_trans h.size k.size,
    fun i hi hn => (k.block i (Nat.lt_of_lt_of_le hi h.size) (fun e => by rcases h.own i e with e' | e'; exact hn e'; omega)).trans (h.block i hi hn),
    fun g e => by rcases k.own g e with e' | e'; exact h.own g e'; exact Or.inr (Nat.le_trans h.size e')⟩
theorem Gb.below {a b c : World} {v v' : Value} (h : Gb a b v v') (hb : Below b.heap.size b c) : Gb a c v v' :=
  ⟨hb.os.trans h.os, hb.tape.trans h.tape, hb.output.trans h.output, Nat.le_trans h.size hb.size, fun i hi hn => (hb.block i (Nat.lt_of_lt_of_le hi h.size)).trans (h.block i hi hn), h.own⟩
theorem Gb.after {a b c : World} {v v' : Value} (hb : Below a.heap.size a b) (h : Gb b c v v') : Gb a c v v' :=
  ⟨h.os.trans hb.os, h.tape.trans hb.tape, h.output.trans hb.output, Nat.le_trans hb.size h.size, fun i hi hn => (h.block i (Nat.lt_of_lt_of_le hi hb.size) hn).trans (hb.block i hi),
    fun g e => by rcases h.own g e with e' | e'; exact Or.inl e'; exact Or.inr (Nat.le_trans hb.size e')⟩
/-- Bytes that the call owns, in blocks from B on. -/
structure OwnB (B : Nat) (v : Value) (l : List UInt8) (w : World) : Prop where
  own : w.ownsRow B 5 1 v l.length (Lib.byteCells l)
  base : B ≤ w.heap.size
theorem OwnB.empty {B : Nat} {w : World} (h : B ≤ w.heap.size) : OwnB B (.slice none 0 0) [] w := ⟨⟨by decide, Or.inl ⟨rfl, rfl⟩⟩, h⟩
theorem OwnB.below {B : Nat} {v : Value} {l : List UInt8} {w w' : World} (h : OwnB B v l w) (hb : Below w.heap.size w w') : OwnB B v l w' := ⟨Kit.ownsRow_below h.own hb, Nat.le_trans h.base hb.size⟩
theorem OwnB.lt {B : Nat} {v : Value} {l : List UInt8} {w : World} (h : OwnB B v l w) {g : Nat} (hg : v.ownBlock = some g) : B ≤ g ∧ g < w.heap.size := h.own.lt g hg
theorem OwnB.form {B : Nat} {v : Value} {l : List UInt8} {w : World} (h : OwnB B v l w) : ∃ a cap, v = .slice a l.length cap := by
  rcases h.own.2 with ⟨rfl, h0⟩ | ⟨g, cap, cur, rfl, _⟩
  · exact ⟨none, 0, by rw [h0]⟩
  · exact ⟨_, _, rfl⟩
theorem OwnB.string {B : Nat} {v : Value} {l : List UInt8} {w : World} (h : OwnB B v l w) : (convert 23 9 v).run Tryd.prog w = .ok (.string ⟨l.toArray⟩) w := Kit.run_row l l.length v w B h.own
theorem Gb.of_grown {w W w' : World} {v : Value} {g n c : Nat} (hW : Below w.heap.size w W) (hg : W.grownBy w' v.ownBlock) (hat : v.ownBlock = some g ∨ g = W.heap.size) : Gb w w' v (.slice (some ⟨g, 0, none⟩) n c) :=
  ⟨hg.os.trans hW.os, hg.tape.trans hW.tape, hg.output.trans hW.output, Nat.le_trans hW.size hg.size, fun k hk hn => (hg.block k (Nat.lt_of_lt_of_le hk hW.size) (fun e => hn e.symm)).trans (hW.block k hk),
    fun x hx => by
      have hgx : g = x := by simpa [Value.ownBlock] using hx
      subst hgx
      rcases hat with e | e
      · exact Or.inl e
      · exact Or.inr (by rw [e]; exact hW.size)⟩
/-- append of some bytes. -/
theorem app_lit {ops : Array Oper} {rest : List Oper} {o : Oper} {a : Act} {Q : Exit → Act → World → Prop} (hgd : o.guard = none) (sl x : Operand)
    (ho : o.op = .call { callee := .builtin .append, args := #[sl, x], argTypes := #[23, 23] })
    (B : Nat) (w : World) (v : Value) (l : List UInt8) (h : OwnB B v l w) (cs : Array Value) (ns : List UInt8) (m cap : Nat) (hm : ns.length = m) (hm0 : 0 < m) (hcs : cs.toList = Lib.byteCells ns) (hs : a.eval sl = v) (hx : a.eval x = .slice (some ⟨w.heap.size, 0, none⟩) m cap)
    (hlen : l.length + m ≤ 140737488355328) (k : ∀ v' w', OwnB B v' (l ++ ns) w' → Gb w w' v v' → wpList Tryd.prog ops Q rest (a.put o.dst v') w') : wpList Tryd.prog ops Q (o :: rest) a (w.alloc (.cells cs 5)) := by
  obtain ⟨i0, hi, hz0, hz1, hz2⟩ := info_parts Kit.info5
  subst hm
  refine wpList_append_lies (w.alloc (.cells cs 5)) hgd sl x 23 ho B 5 i0 (.int .u8 0) 1 1 Tryd.underlying23 hi hz0 hz1 hz2 rfl (by decide) v l.length _ hs (h.own.alloc _) ⟨w.heap.size, 0, none⟩ ns.length cap (Lib.byteCells ns) hx ?_ ?_ ?_ hm0 ?_ ?_ ?_ (w.alloc (.cells cs 5)).heap.size rfl ?_
  · rw [Lib.byteCells_length, Nat.mul_one]
  · intro j u hj
    exact World.news_of_block (Kit.fresh_block w cs 5) j u (by rw [hcs]; exact hj)
  · intro u hu
    unfold Lib.byteCells at hu
    obtain ⟨c, _, rfl⟩ := List.mem_map.1 hu
    rfl
  · unfold maxLen; omega
  · omega
  · have := h.base; simp; omega
  · intro g c w' ho' hg hat _
    refine k _ _ ⟨?_, ?_⟩ (Gb.of_grown ((Below.refl _ w).alloc (Nat.le_refl _) _) hg hat)
    · rw [List.length_append, Lib.byteCells_append]
      exact ho'
    · have := h.base; have := hg.size; simp at this; omega
/-- .. as a step of a region that draws. -/
theorem step_lit {ops : Array Oper} {o : Oper} {a : Act} {K : Act → World → Prop} {Q : Exit → Act → World → Prop} {E : Prop} (hgd : o.guard = none) (sl x : Operand)
    (ho : o.op = .call { callee := .builtin .append, args := #[sl, x], argTypes := #[23, 23] })
    (B : Nat) (w W : World) (v : Value) (l : List UInt8) (h : OwnB B v l W) (hW : Below w.heap.size w W) (cs : Array Value) (ns : List UInt8) (m cap b : Nat) (hm : ns.length = m) (hm0 : 0 < m) (hcs : cs.toList = Lib.byteCells ns) (hblk : W.heap[b]? = some (.cells cs 5 (0, 0))) (hs : a.eval sl = v) (hx : a.eval x = .slice (some ⟨b, 0, none⟩) m cap)
    (hlen : l.length + m ≤ 140737488355328) (k : ∀ g c w', OwnB B (.slice (some ⟨g, 0, none⟩) (l.length + m) c) (l ++ ns) w' → Gb w w' v (.slice (some ⟨g, 0, none⟩) (l.length + m) c) → K (a.put o.dst (.slice (some ⟨g, 0, none⟩) (l.length + m) c)) w') :
    if Region.wanted o (yielded ops a.tmps) = true then Oper.wp Tryd.prog o a W K Q else E := by
  obtain ⟨i0, hi, hz0, hz1, hz2⟩ := info_parts Kit.info5
  subst hm
  refine step_append_lies W hgd sl x 23 ho B 5 i0 (.int .u8 0) 1 1 Tryd.underlying23 hi hz0 hz1 hz2 rfl (by decide) v l.length _ hs h.own ⟨b, 0, none⟩ ns.length cap (Lib.byteCells ns) hx ?_ ?_ ?_ hm0 ?_ ?_ h.base W.heap.size rfl ?_
  · rw [Lib.byteCells_length, Nat.mul_one]
  · intro j u hj
    exact World.news_of_block hblk j u (by rw [hcs]; exact hj)
  · intro u hu
    unfold Lib.byteCells at hu
    obtain ⟨c, _, rfl⟩ := List.mem_map.1 hu
    rfl
  · unfold maxLen; omega
  · omega
  · intro g c w' ho' hg hat _
    refine k g c w' ⟨?_, Nat.le_trans h.base hg.size⟩ (Gb.of_grown hW hg hat)
    rw [List.length_append, Lib.byteCells_append]
    exact ho'
/-- append of a text. -/
theorem app_str {ops : Array Oper} {rest : List Oper} {o : Oper} {a : Act} {Q : Exit → Act → World → Prop} (hgd : o.guard = none) (sl x : Operand)
    (ho : o.op = .call { callee := .builtin .append, args := #[sl, x], argTypes := #[23, 9] })
    (B : Nat) (w : World) (v : Value) (l : List UInt8) (h : OwnB B v l w) (t : ByteArray) (hs : a.eval sl = v) (hx : a.eval x = .string t)
    (hlen : l.length + t.size ≤ 140737488355328) (k : ∀ v' w', OwnB B v' (l ++ t.data.toList) w' → Gb w w' v v' → wpList Tryd.prog ops Q rest (a.put o.dst v') w') : wpList Tryd.prog ops Q (o :: rest) a w := by
  obtain ⟨i0, hi, hz0, hz1, hz2⟩ := info_parts Kit.info5
  refine Ow.wpList_text_lies w hgd sl x 23 9 ho B 5 i0 Tryd.underlying23 Tryd.underlying9 hi hz0 hz1 hz2 v l.length _ hs h.own t hx ?_ ?_ h.base ?_
  · unfold maxLen; omega
  · omega
  · intro v' w' ho' hg hat
    refine k v' w' ⟨?_, Nat.le_trans h.base hg.size⟩ ⟨hg.os, hg.tape, hg.output, hg.size, fun i hi hn => hg.block i hi (fun e => hn e.symm), hat⟩
    rw [List.length_append, ← Lib.size_eq, ← Ow.str_cells]
    exact ho'

end Go.Proofs.YtigamkdomdglhaaDoor.J7
