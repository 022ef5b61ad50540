/-
  Small facts for walks over base64: bits at int, the alphabet's signs, chunks of three bytes, texts told and read. No law and no function of the project in this text. Conditions: none.
-/
import Derived.Test.YtnnbbjdidbggmaaGreatDoorB6Plain
import Derived.Test.YtnnbbjdidbggmaaGreatDoorKit
import Derived.IntWalk
namespace Go.Proofs.YtnnbbjdidbggmaaGreatDoor.B6
open Go Go.RowKit Go.Joins Kit

theorem wraps_i64 (n : Int) (h₀ : 0 ≤ n) (h₁ : n < 2 ^ 62) : IntKind.i64.wrap n = n := by rw [IntKind.wrap_i64]; omega
theorem and63 (r : Int) (h0 : 0 ≤ r) (h1 : r < 4611686018427387904) : bits .and .i64 r 63 = r % 64 := bits_mask .i64 62 (by decide) wraps_i64 6 (by decide) r h0 (by omega)
theorem and15 (r : Int) (h0 : 0 ≤ r) (h1 : r < 4611686018427387904) : bits .and .i64 r 15 = r % 16 := bits_mask .i64 62 (by decide) wraps_i64 4 (by decide) r h0 (by omega)
theorem and3 (r : Int) (h0 : 0 ≤ r) (h1 : r < 4611686018427387904) : bits .and .i64 r 3 = r % 4 := bits_mask .i64 62 (by decide) wraps_i64 2 (by decide) r h0 (by omega)
theorem or8 (x y : Int) (h0 : 0 ≤ x) (h1 : x < 4611686018427387904) (h2 : x % 256 = 0) (h3 : 0 ≤ y) (h4 : y < 256) : bits .or .i64 x y = x + y :=
  bits_join .i64 62 (by decide) wraps_i64 8 x y h0 h2 (by omega) h3 h4 (by omega)
theorem or6 (x y : Int) (h0 : 0 ≤ x) (h1 : x < 4611686018427387904) (h2 : x % 64 = 0) (h3 : 0 ≤ y) (h4 : y < 64) : bits .or .i64 x y = x + y :=
  bits_join .i64 62 (by decide) wraps_i64 6 x y h0 h2 (by omega) h3 h4 (by omega)
theorem getD_at (s : ByteArray) (k : Nat) (h : k < s.size) : s.data.toList.getD k 0 = s[k] := by
  have hl : k < s.data.toList.length := by rw [← Lib.size_eq]; exact h
  rw [List.getD_eq_getElem?_getD, List.getElem?_eq_getElem hl, Option.getD_some, byte_get s k h]
theorem getD_end (s : ByteArray) (k : Nat) (h : s.size ≤ k) : s.data.toList.getD k 0 = 0 := by
  rw [List.getD_eq_getElem?_getD, List.getElem?_eq_none (by rw [← Lib.size_eq]; exact h)]
  rfl
theorem bitsL_le (l : List UInt8) (k : Nat) (h : k ≤ 3) : bitsL l k ≤ 16777215 := by
  have h1 := bitsL_lt l k
  rcases (show k = 0 ∨ k = 1 ∨ k = 2 ∨ k = 3 by omega) with rfl | rfl | rfl | rfl <;> simp at h1 <;> omega
theorem alpha_get (k : Nat) (h : k < (ByteArray.mk #[65, 66, 67, 68, 69, 70, 71, 72, 73, 74, 75, 76, 77, 78, 79, 80, 81, 82, 83, 84, 85, 86, 87, 88, 89, 90, 97, 98, 99, 100, 101, 102, 103, 104, 105, 106, 107, 108, 109, 110, 111, 112, 113, 114, 115, 116, 117, 118, 119, 120, 121, 122, 48, 49, 50, 51, 52, 53, 54, 55, 56, 57, 43, 47]).size) : (ByteArray.mk #[65, 66, 67, 68, 69, 70, 71, 72, 73, 74, 75, 76, 77, 78, 79, 80, 81, 82, 83, 84, 85, 86, 87, 88, 89, 90, 97, 98, 99, 100, 101, 102, 103, 104, 105, 106, 107, 108, 109, 110, 111, 112, 113, 114, 115, 116, 117, 118, 119, 120, 121, 122, 48, 49, 50, 51, 52, 53, 54, 55, 56, 57, 43, 47])[k]'h = sg k := by
  have hk : k < 64 := h
  rw [← byte_get]
  unfold sg
  rw [List.getD_eq_getElem?_getD, List.getElem?_eq_getElem (show k < alphaL.length from hk), Option.getD_some]
  rfl
theorem sign_at {l : List UInt8} {i v k : Nat} (hv : bitsL l 3 = v) (h : i ≤ l.length) (hk : v / 64 ^ (3 - i) % 64 = k) : signL l i = sg k := signL_sg h (by rw [hv]; exact hk)
theorem cells_sign (l0 l : List UInt8) (i : Nat) (h : i < 4) : Lib.byteCells (l0 ++ (quadL l).take (i + 1)) = Lib.byteCells (l0 ++ (quadL l).take i) ++ [.int .u8 ((signL l i).toNat : Int)] := by
  rw [quadL_get l i h, ← List.append_assoc, cells_snoc]
theorem enc_zero (l : List UInt8) : encL (l.take 0) = [] := by simp [encL, letL, six, padN]
theorem enc_step (s : ByteArray) (a : Nat) (h : a % 3 = 0) (hlt : a < s.size) (t : ByteArray) (ht : t.data.toList = (s.data.toList.drop a).take 3) :
    encL (s.data.toList.take (a + 3)) = encL (s.data.toList.take a) ++ quadL t.data.toList ∧ 1 ≤ t.size ∧ t.size ≤ 3 := by
  have hl : s.data.toList.length = s.size := (Lib.size_eq s).symm
  have hn : t.size = min 3 (s.size - a) := by rw [Lib.size_eq, ht, List.length_take, List.length_drop, hl]
  have h1 : 1 ≤ t.size := by omega
  have h3 : t.size ≤ 3 := by omega
  refine ⟨?_, h1, h3⟩
  rw [Lib.size_eq] at h1 h3
  rw [List.take_add, encL_append _ _ (by rw [List.length_take, hl]; omega), ← ht, (enc_quad _ h1 h3).1]
theorem extract_three (s : ByteArray) (a b : Nat) (h : b = a + 3 ∨ (b = s.size ∧ s.size ≤ a + 3)) : (s.extract a b).data.toList = (s.data.toList.drop a).take 3 := by
  have hx : (s.extract a b).data.toList = (s.data.toList.drop a).take (b - a) := by rw [← Lib.toList_data, Lib.extract_toList]
  rw [hx]
  rcases h with h | ⟨h, h2⟩
  · rw [show b - a = 3 by omega]
  · have hl : s.data.toList.length = s.size := (Lib.size_eq s).symm
    rw [List.take_of_length_le (by rw [List.length_drop]; omega), List.take_of_length_le (by rw [List.length_drop]; omega)]
theorem and0 (r : Int) (h0 : 0 ≤ r) (h1 : r < 4611686018427387904) : bits .and .i64 r 0 = 0 :=
  (bits_mask .i64 62 (by decide) wraps_i64 0 (by decide) r h0 (by omega)).trans (Int.emod_one r)
theorem ofNat_nat {x : Nat} (h : x < 256) : ((UInt8.ofNat x).toNat : Int) = x := by simp; omega
theorem vals_drop (t : ByteArray) (k : Nat) (h : k < t.size) : vals (t.data.toList.drop k) = (match val t[k] with | some v => v :: vals (t.data.toList.drop (k + 1)) | none => vals (t.data.toList.drop (k + 1))) := by
  have hl : k < t.data.toList.length := by rw [← Lib.size_eq]; exact h
  rw [List.drop_eq_getElem_cons hl, byte_get t k h]
  unfold vals
  rw [List.filterMap_cons]
  cases val t[k] <;> rfl
def aheadB (s : ByteArray) : ByteArray := ⟨(ahead s.data.toList).toArray⟩
theorem aheadB_data (s : ByteArray) : (aheadB s).data.toList = ahead s.data.toList := by simp [aheadB]
theorem aheadB_size (s : ByteArray) : (aheadB s).size ≤ s.size := by
  rw [Lib.size_eq, aheadB_data, Lib.size_eq]
  exact ahead_length _
def encB (s : ByteArray) : ByteArray := ⟨(encL s.data.toList).toArray⟩
theorem encB_data (s : ByteArray) : (encB s).data.toList = encL s.data.toList := by simp [encB]
theorem encB_size (s : ByteArray) : (encB s).size = (s.size + 2) / 3 * 4 := by rw [Lib.size_eq, encB_data, encL_length, ← Lib.size_eq]
theorem mk_data (s : ByteArray) {l : List UInt8} (h : l = s.data.toList) : (⟨l.toArray⟩ : ByteArray) = s := Kit.bytes_ext (by simpa using h)
theorem loose_back {t s : ByteArray} (h : t.data.toList = encL s.data.toList) : looseL t.data.toList = s.data.toList := by rw [h, loose_enc]
theorem app_data (a b : ByteArray) : (a ++ b).data.toList = a.data.toList ++ b.data.toList := by simp
theorem extract_front (a : ByteArray) (n : Nat) (h : n ≤ a.size) : (a.extract 0 n).data.toList = a.data.toList.take n ∧ (a.extract 0 n).size = n := by
  refine ⟨by simp, ?_⟩
  rw [ByteArray.size_extract]
  omega
theorem cut_sizes (t : ByteArray) (k : Nat) (h : k < t.size) : (t.extract 0 k ++ ⟨#[32]⟩ ++ t.extract k t.size).size = t.size + 1 ∧ (t.extract 0 k ++ t.extract (k + 1) t.size).size = t.size - 1 ∧ (t ++ ⟨#[61]⟩).size = t.size + 1 := by
  have e1 : (ByteArray.mk #[32]).size = 1 := rfl
  have e2 : (ByteArray.mk #[61]).size = 1 := rfl
  refine ⟨?_, ?_, ?_⟩
  · rw [ByteArray.size_append, ByteArray.size_append, ByteArray.size_extract, ByteArray.size_extract, e1]; omega
  · rw [ByteArray.size_append, ByteArray.size_extract, ByteArray.size_extract]; omega
  · rw [ByteArray.size_append, e2]
end Go.Proofs.YtnnbbjdidbggmaaGreatDoor.B6
