/-
  How a JSON value lies in memory, and that it stays while other blocks are written. No law and no function of the project in this text. Conditions: none.
-/
import Derived.Test.YtoofcclcimkipaaDoorJ7Plain
import Derived.Test.YtoofcclcimkipaaDoorKit
namespace Go.Proofs.YtoofcclcimkipaaDoor.J7
open Go Go.RowKit Go.Joins Kit

/-- A row of cells behind a slice's value: none (wherever the empty slice points), or in a block of which P holds. -/
def CellsAt (P : Nat → Prop) (w : World) (n : Nat) (v : Value) (cs : List Value) : Prop :=
  ((∃ a m, v = .slice a 0 m) ∧ n = 0 ∧ cs = []) ∨ ∃ g o cap, v = .slice (some ⟨g, o, none⟩) n cap ∧ ∀ j (h : j < cs.length), P g ∧ w.cell? ⟨g, o + j, none⟩ = some cs[j]
def strs (l : List ByteArray) : List Value := l.map .string
mutual
/-- A value of a struct Node, and what it reads as. -/
def NodeAt (P : Nat → Prop) (w : World) : J → Value → Prop
  | .mk k n t keys kids, v => ∃ kv vv, v = .agg #[.int .i64 k, .int .i64 n, .string t, kv, vv] ∧ CellsAt P w keys.length kv (strs keys) ∧ ∃ cs, CellsAt P w kids.length vv cs ∧ KidsAt P w kids cs
/-- Five cells a kid. -/
def KidsAt (P : Nat → Prop) (w : World) : List J → List Value → Prop
  | [], cs => cs = []
  | j :: r, cs => ∃ c0 c1 c2 c3 c4 t, cs = c0 :: c1 :: c2 :: c3 :: c4 :: t ∧ NodeAt P w j (.agg #[c0, c1, c2, c3, c4]) ∧ KidsAt P w r t
end
theorem kids_length {P : Nat → Prop} {w : World} : ∀ {l : List J} {cs : List Value}, KidsAt P w l cs → cs.length = 5 * l.length
  | [], cs, h => by rw [KidsAt] at h; rw [h]; rfl
  | j :: r, cs, h => by
    rw [KidsAt] at h
    obtain ⟨c0, c1, c2, c3, c4, t, rfl, _, h2⟩ := h
    have := kids_length h2
    simp only [List.length_cons]
    omega
theorem kids_nil {P : Nat → Prop} {w : World} : KidsAt P w [] [] := by rw [KidsAt]
theorem kids_snoc {P : Nat → Prop} {w : World} {j : J} {c0 c1 c2 c3 c4 : Value} (hj : NodeAt P w j (.agg #[c0, c1, c2, c3, c4])) : ∀ {l : List J} {cs : List Value}, KidsAt P w l cs → KidsAt P w (l ++ [j]) (cs ++ [c0, c1, c2, c3, c4])
  | [], cs, h => by
    rw [KidsAt] at h
    subst h
    rw [List.nil_append, KidsAt]
    exact ⟨_, _, _, _, _, [], rfl, hj, kids_nil⟩
  | x :: r, cs, h => by
    rw [KidsAt] at h
    obtain ⟨d0, d1, d2, d3, d4, t, rfl, h1, h2⟩ := h
    rw [List.cons_append, KidsAt]
    exact ⟨d0, d1, d2, d3, d4, t ++ [c0, c1, c2, c3, c4], rfl, h1, kids_snoc hj h2⟩
/-- The i-th kid's five cells. -/
theorem kids_at {P : Nat → Prop} {w : World} : ∀ {l : List J} {cs : List Value} (_ : KidsAt P w l cs) (i : Nat) (h : i < l.length), ∃ c0 c1 c2 c3 c4, cs[5 * i]? = some c0 ∧ cs[5 * i + 1]? = some c1 ∧ cs[5 * i + 2]? = some c2 ∧ cs[5 * i + 3]? = some c3 ∧ cs[5 * i + 4]? = some c4 ∧ NodeAt P w l[i] (.agg #[c0, c1, c2, c3, c4])
  | [], _, _, i, h => by simp at h
  | j :: r, cs, hk, 0, _ => by
    rw [KidsAt] at hk
    obtain ⟨c0, c1, c2, c3, c4, t, rfl, h1, _⟩ := hk
    exact ⟨c0, c1, c2, c3, c4, rfl, rfl, rfl, rfl, rfl, h1⟩
  | j :: r, cs, hk, i + 1, h => by
    rw [KidsAt] at hk
    obtain ⟨c0, c1, c2, c3, c4, t, rfl, _, h2⟩ := hk
    obtain ⟨d0, d1, d2, d3, d4, e0, e1, e2, e3, e4, hn⟩ := kids_at h2 i (by simpa using h)
    refine ⟨d0, d1, d2, d3, d4, ?_, ?_, ?_, ?_, ?_, by simpa using hn⟩
    · rw [show 5 * (i + 1) = 5 * i + 5 by omega]; simpa using e0
    · rw [show 5 * (i + 1) + 1 = (5 * i + 1) + 5 by omega]; simpa using e1
    · rw [show 5 * (i + 1) + 2 = (5 * i + 2) + 5 by omega]; simpa using e2
    · rw [show 5 * (i + 1) + 3 = (5 * i + 3) + 5 by omega]; simpa using e3
    · rw [show 5 * (i + 1) + 4 = (5 * i + 4) + 5 by omega]; simpa using e4

/-! ### What is written elsewhere turns nothing -/
/-- All blocks of which P holds are as they were, and P' holds of them. -/
def Kept (P P' : Nat → Prop) (w w' : World) : Prop := ∀ g, P g → g < w.heap.size → P' g ∧ w'.heap[g]? = w.heap[g]?
theorem Kept.trans {P P' P'' : Nat → Prop} {a b c : World} (h : Kept P P' a b) (k : Kept P' P'' b c) (hs : a.heap.size ≤ b.heap.size) : Kept P P'' a c := fun g hg hl =>
  ⟨(k g (h g hg hl).1 (by omega)).1, (k g (h g hg hl).1 (by omega)).2.trans (h g hg hl).2⟩
theorem CellsAt.keep {P P' : Nat → Prop} {n : Nat} {w w' : World} {v : Value} {cs : List Value} (h : CellsAt P w n v cs) (hk : Kept P P' w w') : CellsAt P' w' n v cs := by
  rcases h with h | ⟨g, o, cap, hv, hc⟩
  · exact Or.inl h
  · refine Or.inr ⟨g, o, cap, hv, fun j hj => ?_⟩
    obtain ⟨h1, h2⟩ := hc j hj
    obtain ⟨h3, h4⟩ := hk g h1 (cell_lt h2)
    refine ⟨h3, ?_⟩
    rw [← h2]
    exact World.cell?_of_block (w := w) h4
mutual
theorem NodeAt.keep {P P' : Nat → Prop} {w w' : World} (hk : Kept P P' w w') : ∀ {j : J} {v : Value}, NodeAt P w j v → NodeAt P' w' j v
  | .mk k n t keys kids, v, h => by
    rw [NodeAt] at h ⊢
    obtain ⟨kv, vv, h1, h2, cs, h3, h4⟩ := h
    exact ⟨kv, vv, h1, h2.keep hk, cs, h3.keep hk, KidsAt.keep hk h4⟩
theorem KidsAt.keep {P P' : Nat → Prop} {w w' : World} (hk : Kept P P' w w') : ∀ {l : List J} {cs : List Value}, KidsAt P w l cs → KidsAt P' w' l cs
  | [], cs, h => by rw [KidsAt] at h ⊢; exact h
  | j :: r, cs, h => by
    rw [KidsAt] at h ⊢
    obtain ⟨c0, c1, c2, c3, c4, t, e, h1, h2⟩ := h
    exact ⟨c0, c1, c2, c3, c4, t, e, NodeAt.keep hk h1, KidsAt.keep hk h2⟩
end
theorem kept_mono {P P' : Nat → Prop} {w : World} (h : ∀ g, P g → P' g) : Kept P P' w w := fun g hg _ => ⟨h g hg, rfl⟩
/-- A row of the call's own, read. -/
theorem cells_own {P : Nat → Prop} {B size n : Nat} {w : World} {e : TypeId} {v : Value} {cs : List Value} (h : w.ownsRow B e size v n cs) (hP : ∀ g, B ≤ g → P g) : CellsAt P w n v cs := by
  obtain ⟨h1, h2⟩ := h
  rcases h2 with ⟨rfl, rfl⟩ | ⟨g, cap, cur, rfl, hg, hh, r1, r2, r3, r4⟩
  · exact Or.inl ⟨⟨none, 0, rfl⟩, rfl, by rw [← List.length_eq_zero_iff, h1]; omega⟩
  · refine Or.inr ⟨g, 0, cap, rfl, fun j hj => ⟨hP g hg, ?_⟩⟩
    have h : w.ownsRow B e size (.slice (some ⟨g, 0, none⟩) n cap) n cs := ⟨h1, Or.inr ⟨g, cap, cur, rfl, hg, hh, r1, r2, r3, r4⟩⟩
    rw [Nat.zero_add, h.cellAt j (by omega), List.getElem?_eq_getElem hj]
/-- A value without kids. -/
theorem node_plain (P : Nat → Prop) (w : World) (k n : Int) (t : ByteArray) : NodeAt P w (.mk k n t [] []) (.agg #[.int .i64 k, .int .i64 n, .string t, .slice none 0 0, .slice none 0 0]) := by
  rw [NodeAt]
  exact ⟨_, _, rfl, Or.inl ⟨⟨none, 0, rfl⟩, rfl, rfl⟩, [], Or.inl ⟨⟨none, 0, rfl⟩, rfl, rfl⟩, kids_nil⟩
/-- The value that nothing was read into. -/
def zeroN : Value := .agg #[.int .i64 0, .int .i64 0, .string ⟨#[]⟩, .slice none 0 0, .slice none 0 0]
/-- A Node of whatever. -/
def AnyNode (v : Value) : Prop := ∃ k n t kv vv, v = .agg #[.int .i64 k, .int .i64 n, .string t, kv, vv]
theorem NodeAt.any {P : Nat → Prop} {w : World} {j : J} {v : Value} (h : NodeAt P w j v) : AnyNode v := by
  obtain ⟨k, n, t, keys, kids⟩ := j
  rw [NodeAt] at h
  obtain ⟨kv, vv, h1, _⟩ := h
  exact ⟨k, n, t, kv, vv, h1⟩
end Go.Proofs.YtoofcclcimkipaaDoor.J7
