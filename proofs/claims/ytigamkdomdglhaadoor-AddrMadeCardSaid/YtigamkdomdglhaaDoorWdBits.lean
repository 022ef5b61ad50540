/-
  Small facts on a text's bytes: one byte of what is left, its code point's bytes. No law and no function of the project in this text. Conditions: none.
-/
import Derived.Test.YtigamkdomdglhaaDoorWdOneP
import Derived.Test.YtigamkdomdglhaaDoorU8Kit
namespace Go.Proofs.YtigamkdomdglhaaDoor.Wd
open Go Go.RowKit Go.Joins Kit

theorem drop_byte (s : ByteArray) (k : Nat) (h : k < s.size) : s.data.toList.drop k = s[k] :: s.data.toList.drop (k + 1) := by
  have hl : k < s.data.toList.length := by rw [← Lib.size_eq]; exact h
  rw [List.drop_eq_getElem_cons hl, byte_get s k h]
theorem latin_take (s : ByteArray) (k : Nat) (h : k < s.size) : latinL (s.data.toList.take (k + 1)) = latinL (s.data.toList.take k) ++ U8.putL (s[k].toNat : Int) := by
  have hl : k < s.data.toList.length := by rw [← Lib.size_eq]; exact h
  rw [List.take_succ_eq_append_getElem hl, latin_app, byte_get s k h, latin_cons, latin_nil, List.append_nil]
theorem latin_room (s : ByteArray) (k : Nat) : (latinL (s.data.toList.take k)).length ≤ 2 * k := by
  have := latin_len (s.data.toList.take k)
  rw [List.length_take] at this
  omega
theorem putB_le (r : Int) : (U8.putB r).size ≤ 4 := by
  have := U8.sizeN_le r
  rw [Lib.size_eq]
  show (U8.putL r).length ≤ 4
  rw [U8.putL_length]; exact this
end Go.Proofs.YtigamkdomdglhaaDoor.Wd
