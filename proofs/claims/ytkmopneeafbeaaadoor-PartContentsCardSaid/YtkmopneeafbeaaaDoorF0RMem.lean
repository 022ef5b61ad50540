/-
  Rows of the call's own: of lines, and of texts; what an append, and a store into the last text, leaves. No law and no function of the project in this text. Conditions: none.
-/
import Derived.Test.YtkmopneeafbeaaaDoorF0Mem
namespace Go.Proofs.YtkmopneeafbeaaaDoor.F0
open Go Go.RowKit Go.Joins Kit

namespace Rw
variable {B size n : Nat} {e : TypeId} {v : Value} {xs : List Value} {w w' : World}
theorem keep (h : w.ownsRow B e size v n xs) (hk : ∀ g, v.ownBlock = some g → g < w.heap.size → w'.heap[g]? = w.heap[g]?) : w'.ownsRow B e size v n xs := by
  obtain ⟨h1, h2⟩ := h
  refine ⟨h1, ?_⟩
  rcases h2 with h2 | ⟨g, cap, cur, hv, hg, hh, r⟩
  · exact Or.inl h2
  · exact Or.inr ⟨g, cap, cur, hv, hg, by rw [hk g (by rw [hv]; rfl) (Array.getElem?_eq_some_iff.1 hh).1]; exact hh, r⟩
theorem below (h : w.ownsRow B e size v n xs) (hb : Below w.heap.size w w') : w'.ownsRow B e size v n xs := keep h (fun g _ hl => hb.block g hl)
theorem block (h : w.ownsRow B e size v n xs) {g : Nat} (hg : v.ownBlock = some g) : B ≤ g ∧ ∃ cur, w.heap[g]? = some (.cells cur e (0, 0)) := by
  rcases h.2 with ⟨rfl, _⟩ | ⟨g', cap, cur, rfl, hb, hh, _⟩
  · cases hg
  · simp only [Value.ownBlock, Option.some.injEq] at hg
    subst hg
    exact ⟨hb, cur, hh⟩
theorem ne (h : w.ownsRow B e size v n xs) {k : Nat} {o : Obj} (hk : w.heap[k]? = some o) (ho : ∀ cs, o ≠ .cells cs e (0, 0)) : v.ownBlock ≠ some k := fun e' => by
  obtain ⟨_, cur, hh⟩ := block h e'
  rw [hk] at hh
  exact ho cur (Option.some.inj hh)
theorem form (h : w.ownsRow B e size v n xs) : ∃ a cap, v = .slice a n cap := by
  rcases h.2 with ⟨rfl, h0⟩ | ⟨g, cap, cur, rfl, _⟩
  · exact ⟨none, 0, by rw [h0]⟩
  · exact ⟨_, _, rfl⟩
/-- What lies in a row that is not empty. -/
theorem cells (h : w.ownsRow B e size v n xs) (hn : 0 < n) : ∃ g cap, v = .slice (some ⟨g, 0, none⟩) n cap ∧ ∀ (j : Nat), j < n * size → w.cell? ⟨g, j, none⟩ = xs[j]? ∧ w.frozen? ⟨g, j, none⟩ = false := by
  rcases h.2 with ⟨_, h0⟩ | ⟨g, cap, cur, rfl, hb, hh, hr⟩
  · omega
  · have h' : w.ownsRow B e size (.slice (some ⟨g, 0, none⟩) n cap) n xs := ⟨h.1, Or.inr ⟨g, cap, cur, rfl, hb, hh, hr⟩⟩
    exact ⟨g, cap, rfl, fun j hj => ⟨h'.cellAt j hj, Lib.frozen_of_heap hh j⟩⟩
end Rw

/-! ### Lines -/
abbrev Tl := Nat × (List UInt8 × Nat)
def lC : List Tl → List Value
  | [] => []
  | x :: r => .int .i64 (x.1 : Int) :: sV x.2.1 :: .int .i64 (x.2.2 : Int) :: lC r
theorem lC_append : ∀ a b : List Tl, lC (a ++ b) = lC a ++ lC b
  | [], _ => rfl
  | f :: r, b => by rw [List.cons_append, lC, lC, lC_append r b]; rfl
theorem lC_length : ∀ a : List Tl, (lC a).length = a.length * 3
  | [] => rfl
  | f :: r => by rw [lC, List.length_cons, List.length_cons, List.length_cons, lC_length r, List.length_cons]; omega
theorem lC_at : ∀ (a : List Tl) (k : Nat) (h : k < a.length), (lC a)[k * 3 + 1]? = some (sV a[k].2.1) ∧ (lC a)[k * 3 + 2]? = some (.int .i64 (a[k].2.2 : Int))
  | [], k, h => by simp at h
  | f :: r, 0, _ => ⟨rfl, rfl⟩
  | f :: r, k + 1, h => by
    have := lC_at r k (by simpa using h)
    rw [lC, show (k + 1) * 3 + 1 = k * 3 + 1 + 3 by omega, show (k + 1) * 3 + 2 = k * 3 + 2 + 3 by omega]
    simpa using this
theorem infoL : (Tryd.prog.info? 71).map (fun i => (i.zero, i.size, i.bytes)) = some (some (.agg #[.int .i64 0, .string ⟨#[]⟩, .int .i64 0]), 3, 32) := by kernel_rfl
def RowL (B : Nat) (v : Value) (ls : List Tl) (w : World) : Prop := w.ownsRow B 71 3 v ls.length (lC ls)
theorem RowL.new (B : Nat) (w : World) : RowL B (.slice none 0 0) [] w := World.ownsRow_nil _ _ _ _
theorem RowL.app {ops : Array Oper} {rest : List Oper} {o : Oper} {a : Act} {Q : Exit → Act → World → Prop} (hgd : o.guard = none) (sl x : Operand)
    (ho : o.op = .call { callee := .builtin .append, args := #[sl, x], argTypes := #[68, 68] })
    (B : Nat) (w : World) (v : Value) (ls : List Tl) (h : RowL B v ls w) (f : Tl) (b cap : Nat) (hblk : w.heap[b]? = some (.cells #[.int .i64 (f.1 : Int), sV f.2.1, .int .i64 (f.2.2 : Int)] 71 (0, 0))) (hs : a.eval sl = v) (hx : a.eval x = .slice (some ⟨b, 0, none⟩) 1 cap)
    (hlen : ls.length ≤ 1099511627776) (hB : B ≤ w.heap.size)
    (k : ∀ g c w', RowL B (.slice (some ⟨g, 0, none⟩) (ls.length + 1) c) (ls ++ [f]) w' → w.grownBy w' v.ownBlock → (v.ownBlock = some g ∨ g = w.heap.size) → wpList Tryd.prog ops Q rest (a.put o.dst (.slice (some ⟨g, 0, none⟩) (ls.length + 1) c)) w') : wpList Tryd.prog ops Q (o :: rest) a w := by
  obtain ⟨i0, hi, hz0, hz1, hz2⟩ := info_parts infoL
  refine wpList_append_lies w hgd sl x 68 ho B 71 i0 _ 3 32 Tryd.underlying68 hi hz0 hz1 hz2 rfl (by decide) v ls.length _ hs h ⟨b, 0, none⟩ 1 cap [.int .i64 (f.1 : Int), sV f.2.1, .int .i64 (f.2.2 : Int)] hx rfl ?_ ?_ Nat.zero_lt_one ?_ ?_ hB w.heap.size rfl ?_
  · intro j u hj
    exact World.news_of_block hblk j u hj
  · intro u hu
    simp only [List.mem_cons, List.not_mem_nil, or_false] at hu
    rcases hu with rfl | rfl | rfl <;> rfl
  · unfold maxLen; omega
  · omega
  · intro g c w' ho' hg hat _
    refine k g c w' ?_ hg hat
    unfold RowL
    rw [List.length_append, lC_append]
    exact ho'
/-- A line that is read. -/
theorem RowL.at {B : Nat} {v : Value} {ls : List Tl} {w : World} (h : RowL B v ls w) (k : Nat) (hk : k < ls.length) : ∃ g cap, v = .slice (some ⟨g, 0, none⟩) ls.length cap ∧ w.cell? ⟨g, k * 3 + 1, none⟩ = some (sV ls[k].2.1) ∧ w.cell? ⟨g, k * 3 + 2, none⟩ = some (.int .i64 (ls[k].2.2 : Int)) := by
  obtain ⟨g, cap, hv, hc⟩ := Rw.cells h (by omega)
  obtain ⟨q1, q2⟩ := lC_at ls k hk
  exact ⟨g, cap, hv, by rw [(hc (k * 3 + 1) (by omega)).1, q1], by rw [(hc (k * 3 + 2) (by omega)).1, q2]⟩

/-! ### Texts -/
theorem infoT : (Tryd.prog.info? 9).map (fun i => (i.zero, i.size, i.bytes)) = some (some (.string ⟨#[]⟩), 1, 16) := by kernel_rfl
def tC (ts : List (List UInt8)) : List Value := ts.map sV
def RowT (B : Nat) (v : Value) (ts : List (List UInt8)) (w : World) : Prop := w.ownsRow B 9 1 v ts.length (tC ts)
theorem RowT.new (B : Nat) (w : World) : RowT B (.slice none 0 0) [] w := World.ownsRow_nil _ _ _ _
theorem RowT.app {ops : Array Oper} {rest : List Oper} {o : Oper} {a : Act} {Q : Exit → Act → World → Prop} (hgd : o.guard = none) (sl x : Operand)
    (ho : o.op = .call { callee := .builtin .append, args := #[sl, x], argTypes := #[34, 34] })
    (B : Nat) (w : World) (v : Value) (ts : List (List UInt8)) (h : RowT B v ts w) (t : List UInt8) (b cap : Nat) (hblk : w.heap[b]? = some (.cells #[sV t] 9 (0, 0))) (hs : a.eval sl = v) (hx : a.eval x = .slice (some ⟨b, 0, none⟩) 1 cap)
    (hlen : ts.length ≤ 1099511627776) (hB : B ≤ w.heap.size)
    (k : ∀ g c w', RowT B (.slice (some ⟨g, 0, none⟩) (ts.length + 1) c) (ts ++ [t]) w' → w.grownBy w' v.ownBlock → (v.ownBlock = some g ∨ g = w.heap.size) → wpList Tryd.prog ops Q rest (a.put o.dst (.slice (some ⟨g, 0, none⟩) (ts.length + 1) c)) w') : wpList Tryd.prog ops Q (o :: rest) a w := by
  obtain ⟨i0, hi, hz0, hz1, hz2⟩ := info_parts infoT
  refine wpList_append_lies w hgd sl x 34 ho B 9 i0 _ 1 16 Tryd.underlying34 hi hz0 hz1 hz2 rfl (by decide) v ts.length _ hs h ⟨b, 0, none⟩ 1 cap [sV t] hx rfl ?_ ?_ Nat.zero_lt_one ?_ ?_ hB w.heap.size rfl ?_
  · intro j u hj
    exact World.news_of_block hblk j u hj
  · intro u hu
    simp only [List.mem_cons, List.not_mem_nil, or_false] at hu
    subst hu
    rfl
  · unfold maxLen; omega
  · omega
  · intro g c w' ho' hg hat _
    refine k g c w' ?_ hg hat
    unfold RowT tC
    rw [List.length_append, List.map_append]
    exact ho'
/-- A text that is read. -/
theorem RowT.at {B : Nat} {v : Value} {ts : List (List UInt8)} {w : World} (h : RowT B v ts w) (k : Nat) (hk : k < ts.length) : ∃ g cap, v = .slice (some ⟨g, 0, none⟩) ts.length cap ∧ w.cell? ⟨g, k, none⟩ = some (sV ts[k]) ∧ w.frozen? ⟨g, k, none⟩ = false := by
  obtain ⟨g, cap, hv, hc⟩ := Rw.cells h (by omega)
  refine ⟨g, cap, hv, ?_, (hc k (by omega)).2⟩
  rw [(hc k (by omega)).1]
  simp [tC, hk]
/-- A store into the last text. -/
theorem RowT.setLast {B g cap : Nat} {ts : List (List UInt8)} {j : List UInt8} {w : World} (h : RowT B (.slice (some ⟨g, 0, none⟩) (ts ++ [j]).length cap) (ts ++ [j]) w) (t : List UInt8) : RowT B (.slice (some ⟨g, 0, none⟩) (ts ++ [t]).length cap) (ts ++ [t]) (w.setCell ⟨g, ts.length, none⟩ (sV t)) := by
  obtain ⟨h1, h2⟩ := h
  refine ⟨by simp [tC], ?_⟩
  rcases h2 with ⟨h2, _⟩ | ⟨g', cap', cur, hv, hb, hh, hr1, hr2, hr3, hr4⟩
  · cases h2
  · injection hv with e1 e2 e3
    injection e1 with e1
    injection e1 with e1
    subst e1 e3
    have hlen : (ts ++ [j]).length = ts.length + 1 := by simp
    refine Or.inr ⟨g, cap, cur.setIfInBounds ts.length (sV t), by simp, hb, ?_, by simpa using hr1, hr2, by simpa using hr3, ?_⟩
    · simp [World.setCell, Array.getElem?_modify, hh]
    · have hcs : ts.length < cur.size := by rw [hr3]; rw [hlen] at hr1; omega
      have hk : cur.toList.take (ts.length + 1) = tC (ts ++ [j]) := by rw [← hr4]; simp
      have h3 : cur.toList.take ts.length = tC ts := by
        have := congrArg (List.take ts.length) hk
        rw [List.take_take, Nat.min_eq_left (by omega)] at this
        rw [this]
        simp [tC]
      have hl : ts.length < cur.toList.length := by simpa using hcs
      rw [show (ts ++ [t]).length * 1 = ts.length + 1 by simp, Array.toList_setIfInBounds, List.take_set, List.take_succ_eq_append_getElem hl, h3]
      simp [tC]
end Go.Proofs.YtkmopneeafbeaaaDoor.F0
