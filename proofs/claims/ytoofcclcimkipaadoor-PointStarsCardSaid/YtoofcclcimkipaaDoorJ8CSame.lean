/-
  The program's Same of any two values: whether they are one; the library's Equal and EqualFunc that it calls. Condition: no value in the first has more than 65536 keys or kids.
-/
import Derived.Test.YtoofcclcimkipaaDoorJ8Same
namespace Go.Proofs.YtoofcclcimkipaaDoor.J8
open Go Go.RowKit Go.Joins Kit J7 Nds

/-- The cells of a slice of texts. -/
def KeysIn (w : World) (a : Option Addr) (ks : List ByteArray) : Prop := ∀ i (hi : i < ks.length), ∃ g o, a = some ⟨g, o, none⟩ ∧ w.cell? ⟨g, o + i, none⟩ = some (.string ks[i])
theorem KeysIn.below {w w' : World} {a : Option Addr} {ks : List ByteArray} (h : KeysIn w a ks) (hb : Below w.heap.size w w') : KeysIn w' a ks := fun i hi => by
  obtain ⟨g, o, ha, h1⟩ := h i hi
  exact ⟨g, o, ha, (hb.cell (p := ⟨g, o + i, none⟩) (World.block_lt_of_cell? w _ h1)).trans h1⟩
/-- .. of values. -/
def KidsIn (w : World) (a : Option Addr) (ks : List J) : Prop := ∀ i (hi : i < ks.length), ∃ g o d0 d1 d2 d3 d4, a = some ⟨g, o, none⟩ ∧ w.cell? ⟨g, o + i * 5, none⟩ = some d0 ∧ w.cell? ⟨g, o + i * 5 + 1, none⟩ = some d1 ∧ w.cell? ⟨g, o + i * 5 + 2, none⟩ = some d2 ∧ w.cell? ⟨g, o + i * 5 + 3, none⟩ = some d3 ∧ w.cell? ⟨g, o + i * 5 + 4, none⟩ = some d4 ∧ NodeIn w ks[i] (.agg #[d0, d1, d2, d3, d4])
theorem KidsIn.below {w w' : World} {a : Option Addr} {ks : List J} (h : KidsIn w a ks) (hb : Below w.heap.size w w') : KidsIn w' a ks := fun i hi => by
  obtain ⟨g, o, d0, d1, d2, d3, d4, ha, h0, h1, h2, h3, h4, hn⟩ := h i hi
  have k : ∀ {m v}, w.cell? ⟨g, m, none⟩ = some v → w'.cell? ⟨g, m, none⟩ = some v := fun {m v} hc => (hb.cell (p := ⟨g, m, none⟩) (World.block_lt_of_cell? w _ hc)).trans hc
  exact ⟨g, o, d0, d1, d2, d3, d4, ha, k h0, k h1, k h2, k h3, k h4, node_below hb hn⟩

theorem in_forms {w : World} {j : J} {c0 c1 c2 c3 c4 : Value} (h : NodeIn w j (.agg #[c0, c1, c2, c3, c4])) : ∃ k n t a3 n3 m3 a4 n4 m4, c0 = .int .i64 k ∧ c1 = .int .i64 n ∧ c2 = .string t ∧ c3 = .slice a3 n3 m3 ∧ c4 = .slice a4 n4 m4 := by
  obtain ⟨a3, m3, a4, m4, h0, h1, h2, h3, h4, _⟩ := node_parts h
  exact ⟨_, _, _, _, _, _, _, _, _, h0, h1, h2, h3, h4⟩
/-- A new variable of type Node. -/
theorem bx_new (w : World) (x0 x1 x2 x3 x4 : Value) : Below w.heap.size w (w.alloc (Obj.cells #[x0, x1, x2, x3, x4] 25)) ∧ Bx w.heap.size x0 x1 x2 x3 x4 (w.alloc (Obj.cells #[x0, x1, x2, x3, x4] 25)) ∧ (w.alloc (Obj.cells #[x0, x1, x2, x3, x4] 25)).heap.size = w.heap.size + 1 :=
  ⟨(Below.refl _ w).alloc (Nat.le_refl _) _, Bx.made w _ _ _ _ _, by simp⟩


end Go.Proofs.YtoofcclcimkipaaDoor.J8
