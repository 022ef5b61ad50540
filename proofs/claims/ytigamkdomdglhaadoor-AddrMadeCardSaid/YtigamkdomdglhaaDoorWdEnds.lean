/-
  Plain facts on charsets: what a charset makes of octets. No program in this text. Conditions: none.
-/
import Derived.Test.YtigamkdomdglhaaDoorWdPlain
import Derived.Test.YtigamkdomdglhaaDoorKit
namespace Go.Proofs.YtigamkdomdglhaaDoor.Wd
open Go Go.RowKit Go.Joins Kit

theorem beq_list (s : ByteArray) (l : List UInt8) : (s.toList == l) = decide (s.data.toList = l) := by rw [Lib.toList_data]; by_cases h : s.data.toList = l <;> simp [h]
theorem set_utf {a o : List UInt8} (h : Tx.foldL a = utfN ∨ Tx.foldL a = ascN) : setL a o = if U8.validL o then some o else none := by unfold setL; rw [if_pos h]
theorem set_lat {a o : List UInt8} (h : Tx.foldL a = latN) : setL a o = some (latinL o) := by
  unfold setL
  rw [if_neg (by rw [h]; decide), if_pos h]
theorem set_none {a o : List UInt8} (h : Tx.foldL a ≠ utfN) (h1 : Tx.foldL a ≠ ascN) (h2 : Tx.foldL a ≠ latN) : setL a o = none := by
  unfold setL
  rw [if_neg (fun e => e.elim h h1), if_neg h2]
/-- What the charset makes of octets, as the program tells it. -/
def ends (a o : List UInt8) (x : ByteArray) (b : Bool) : Prop := b = (setL a o).isSome ∧ ∀ y, setL a o = some y → x.data.toList = y
theorem ends_utf {a o : List UInt8} {x : ByteArray} (h : Tx.foldL a = utfN ∨ Tx.foldL a = ascN) (hx : x.data.toList = o) : ends a o x (U8.validL o) := by
  unfold ends
  rw [set_utf h]
  cases U8.validL o
  · exact ⟨rfl, fun y hy => by cases hy⟩
  · exact ⟨rfl, fun y hy => by rw [hx]; simpa using hy⟩
theorem ends_lat {a o : List UInt8} {x : ByteArray} (h : Tx.foldL a = latN) (hx : x.data.toList = latinL o) : ends a o x true := by
  unfold ends
  rw [set_lat h]
  exact ⟨rfl, fun y hy => by rw [hx]; simpa using hy⟩
theorem ends_none {a o : List UInt8} {x : ByteArray} (h : Tx.foldL a ≠ utfN) (h1 : Tx.foldL a ≠ ascN) (h2 : Tx.foldL a ≠ latN) : ends a o x false := by
  unfold ends
  rw [set_none h h1 h2]
  exact ⟨rfl, fun y hy => by cases hy⟩
theorem says_oct {a k t o : List UInt8} (h : octL k t = some o) : saysL a k t = setL a o := by unfold saysL; rw [h]
theorem ret_two {x : ByteArray} {b c : Bool} (h : b = c) : Ending.returned (.tuple #[.string x, .bool b]) = Ending.returned (.tuple #[.string x, .bool c]) := by rw [h]
theorem set_cases (F a : ByteArray) (h : F.data.toList = Tx.foldL a.data.toList) : (Tx.foldL a.data.toList = utfN ∧ (F.toList == [117, 116, 102, 45, 56]) = true) ∨ (Tx.foldL a.data.toList = ascN ∧ (F.toList == [117, 116, 102, 45, 56]) = false ∧ (F.toList == [117, 115, 45, 97, 115, 99, 105, 105]) = true) ∨ (Tx.foldL a.data.toList = latN ∧ (F.toList == [117, 116, 102, 45, 56]) = false ∧ (F.toList == [117, 115, 45, 97, 115, 99, 105, 105]) = false ∧ (F.toList == [105, 115, 111, 45, 56, 56, 53, 57, 45, 49]) = true) ∨ ((Tx.foldL a.data.toList ≠ utfN ∧ Tx.foldL a.data.toList ≠ ascN ∧ Tx.foldL a.data.toList ≠ latN) ∧ (F.toList == [117, 116, 102, 45, 56]) = false ∧ (F.toList == [117, 115, 45, 97, 115, 99, 105, 105]) = false ∧ (F.toList == [105, 115, 111, 45, 56, 56, 53, 57, 45, 49]) = false) := by
  rw [beq_list, beq_list, beq_list, h]
  by_cases h1 : Tx.foldL a.data.toList = utfN
  · exact Or.inl ⟨h1, by rw [h1]; decide⟩
  · by_cases h2 : Tx.foldL a.data.toList = ascN
    · exact Or.inr (Or.inl ⟨h2, by rw [h2]; decide, by rw [h2]; decide⟩)
    · by_cases h3 : Tx.foldL a.data.toList = latN
      · exact Or.inr (Or.inr (Or.inl ⟨h3, by rw [h3]; decide, by rw [h3]; decide, by rw [h3]; decide⟩))
      · exact Or.inr (Or.inr (Or.inr ⟨⟨h1, h2, h3⟩, decide_eq_false h1, decide_eq_false h2, decide_eq_false h3⟩))
end Go.Proofs.YtigamkdomdglhaaDoor.Wd
