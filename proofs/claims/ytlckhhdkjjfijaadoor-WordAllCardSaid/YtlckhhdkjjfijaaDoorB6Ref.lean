/-
  The document's answer for package base64, as the statements have it: Index, and the place of a sign in the alphabet. Conditions: the texts have at most 2^40 bytes.
-/
import Derived.Test.YtlckhhdkjjfijaaDoorB6Kit
import Derived.Test.YtlckhhdkjjfijaaDoorBuf
namespace Go.Proofs.YtlckhhdkjjfijaaDoor.B6
open Go Go.RowKit Go.Joins Kit

/-! ### Index -/
/-- Where sub first stands in l from place i on; -1: nowhere. -/
def idxFrom (l sub : List UInt8) : Nat → Nat → Int
  | 0, _ => -1
  | f + 1, i => if i + sub.length ≤ l.length then (if (l.drop i).take sub.length = sub then (i : Int) else idxFrom l sub f (i + 1)) else -1
theorem idx_all : ∀ n, n < 256 → idxFrom alphaL [UInt8.ofNat n] 65 0 = (match val (UInt8.ofNat n) with | some k => (k : Int) | none => -1) := by decide +kernel
theorem idx_val (c : UInt8) : idxFrom alphaL [c] 65 0 = (match val c with | some k => (k : Int) | none => -1) := by
  have := idx_all c.toNat c.toNat_lt
  rwa [← u8_nat] at this
set_option maxHeartbeats 1000000 in
theorem index_any (s sub : ByteArray) (at0 : Nat) (w : World) (hs : s.size ≤ 1099511627776) (hsub : sub.size ≤ 1099511627776) (hat : at0 ≤ 1099511627776) :
    Calls Tryd.prog 57 #[.string s, .string sub, .int .i64 at0] w fun e w' => e = .returned (.int .i64 (idxFrom s.data.toList sub.data.toList (s.size + 1) at0)) ∧ w = w' := by
  have hl1 := Lib.hid (Lib.size_eq s)
  have hl2 := Lib.hid (Lib.size_eq sub)
  go_enter Tryd.func57, Tryd.ntmps57
  go_wp2_with fail
  go_loop [7] (fun i => ∃ k f : Nat, k ≤ 2 * 1099511627776 ∧ i = .int .i64 k ∧ s.size < k + f ∧ Hid (idxFrom s.data.toList sub.data.toList f k = idxFrom s.data.toList sub.data.toList (s.size + 1) at0)) (fun i => s.size + 1 - (intOf i).toNat)
  case atStart => exact ⟨at0, s.size + 1, by omega, rfl, by omega, rfl⟩
  case round =>
    obtain ⟨k, f, hk, rfl, hf, hidx⟩ := hrel
    by_cases hlt : k + sub.size ≤ s.size
    · obtain ⟨f, rfl⟩ : ∃ g, f = g + 1 := ⟨f - 1, by omega⟩
      have hstep : Hid (idxFrom s.data.toList sub.data.toList (f + 1) k = if (s.data.toList.drop k).take sub.data.toList.length = sub.data.toList then (k : Int) else idxFrom s.data.toList sub.data.toList f (k + 1)) := by
        show _ = _
        rw [idxFrom, if_pos (by rw [← hl1.out, ← hl2.out]; exact hlt)]
      have hex : (s.extract k (k + sub.size)).toList = (s.data.toList.drop k).take sub.data.toList.length := by
        rw [Lib.extract_toList, show k + sub.size - k = sub.data.toList.length by rw [← hl2.out]; omega]
      have g1 : (k : Int) + sub.size ≤ s.size := by omega
      by_cases he : (s.data.toList.drop k).take sub.data.toList.length = sub.data.toList
      · have heq : ((s.extract k (k + sub.size)).toList == sub.toList) = true := by rw [hex, he, Lib.toList_data]; simp
        have HE := Lib.hid he
        clear he hex
        go_wp2
        go_ret
        exact ⟨ret_int (by rw [← hidx.out, hstep.out, if_pos HE.out]), rfl⟩
      · have heq : ((s.extract k (k + sub.size)).toList == sub.toList) = false := by rw [hex, Lib.toList_data]; simpa using he
        have HE := Lib.hid he
        clear he hex
        go_wp2
        go_round
        case rel => exact ⟨k + 1, f, by omega, by go_num, by omega, by show _ = _; rw [← hidx.out, hstep.out, if_neg HE.out]⟩
        case measure => simp [intOf]; omega
    · have hend : Hid (idxFrom s.data.toList sub.data.toList f k = -1) := by
        show _ = _
        cases f with
        | zero => rfl
        | succ f => rw [idxFrom, if_neg (by rw [← hl1.out, ← hl2.out]; exact hlt)]
      have g1 : ¬ ((k : Int) + sub.size ≤ s.size) := by omega
      go_wp2
      go_ret
      exact ⟨ret_int (by rw [← hidx.out, hend.out]), rfl⟩
/-! ### The alphabet -/
def alphaB : ByteArray := ⟨#[65, 66, 67, 68, 69, 70, 71, 72, 73, 74, 75, 76, 77, 78, 79, 80, 81, 82, 83, 84, 85, 86, 87, 88, 89, 90, 97, 98, 99, 100, 101, 102, 103, 104, 105, 106, 107, 108, 109, 110, 111, 112, 113, 114, 115, 116, 117, 118, 119, 120, 121, 122, 48, 49, 50, 51, 52, 53, 54, 55, 56, 57, 43, 47]⟩
theorem alphaB_data : alphaB.data.toList = alphaL := rfl
theorem alphaB_size : alphaB.size = 64 := rfl
theorem alphaB_get (k : Nat) (h : k < alphaB.size) : alphaB[k]'h = sg k := alpha_get k h
theorem alphabet_any (w : World) :
    Calls Tryd.prog 56 #[] w fun e w' => e = .returned (.string alphaB) ∧ w = w' := by
  go_enter Tryd.func56, Tryd.ntmps56
  go_wp2
  go_ret
  exact ⟨rfl, rfl⟩
theorem one_data (s : ByteArray) (k : Nat) (h : k < s.size) : (s.extract k (k + 1)).data.toList = [s[k]] := by
  have hl : k < s.data.toList.length := by rw [← Lib.size_eq]; exact h
  rw [← Lib.toList_data, Lib.extract_toList, List.drop_eq_getElem_cons hl, byte_get s k h, show k + 1 - k = 1 by omega]
  rfl
theorem one_size (s : ByteArray) (k : Nat) : (s.extract k (k + 1)).size ≤ 1 := by rw [ByteArray.size_extract]; omega
theorem find_none {s : ByteArray} {k : Nat} (h : k < s.size) (hv : val s[k] = none) (w : World) :
    Calls Tryd.prog 57 #[.string alphaB, .string (s.extract k (k + 1)), .int .i64 0] w fun e w' => e = .returned (.int .i64 (-1)) ∧ w = w' := by
  have := index_any alphaB (s.extract k (k + 1)) 0 w (by rw [alphaB_size]; omega) (by have := one_size s k; omega) (by omega)
  rwa [alphaB_size, alphaB_data, one_data s k h, idx_val, hv] at this
theorem find_some {s : ByteArray} {k v : Nat} (h : k < s.size) (hv : val s[k] = some v) (w : World) :
    Calls Tryd.prog 57 #[.string alphaB, .string (s.extract k (k + 1)), .int .i64 0] w fun e w' => e = .returned (.int .i64 (v : Int)) ∧ w = w' := by
  have := index_any alphaB (s.extract k (k + 1)) 0 w (by rw [alphaB_size]; omega) (by have := one_size s k; omega) (by omega)
  rwa [alphaB_size, alphaB_data, one_data s k h, idx_val, hv] at this
end Go.Proofs.YtlckhhdkjjfijaaDoor.B6
