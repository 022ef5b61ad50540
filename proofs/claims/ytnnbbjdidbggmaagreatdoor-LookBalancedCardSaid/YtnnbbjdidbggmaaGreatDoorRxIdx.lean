/-
  The document's Index, as the statements have it: the first place of a text in another one from a place on; at one byte. Conditions: the texts have at most 2^40 bytes.
-/
import Derived.Test.YtnnbbjdidbggmaaGreatDoorKit
import Derived.IntWalk
namespace Go.Proofs.YtnnbbjdidbggmaaGreatDoor.Rx
open Go Go.RowKit Go.Joins Kit

/-- Where sub first stands in l from place i on; -1: nowhere. -/
def idxFrom (l sub : List UInt8) : Nat → Nat → Int
  | 0, _ => -1
  | f + 1, i => if i + sub.length ≤ l.length then (if (l.drop i).take sub.length = sub then (i : Int) else idxFrom l sub f (i + 1)) else -1
theorem take_one (l : List UInt8) (i : Nat) (h : i < l.length) (c : UInt8) : (l.drop i).take [c].length = [c] ↔ l[i] = c := by
  rw [List.drop_eq_getElem_cons h, List.length_singleton, List.take_succ_cons, List.take_zero]
  constructor
  · intro e; exact (List.cons.inj e).1
  · intro e; rw [e]
theorem one_none (l : List UInt8) (c : UInt8) : ∀ (f i : Nat) (_ : ∀ (k : Nat) (h : k < l.length), i ≤ k → l[k] ≠ c), idxFrom l [c] f i = -1
  | 0, _, _ => rfl
  | f + 1, i, h => by
    rw [idxFrom]
    split
    · rename_i hl
      have hi : i < l.length := by rw [List.length_singleton] at hl; omega
      rw [if_neg (fun e => h i hi (Nat.le_refl _) ((take_one l i hi c).1 e)), one_none l c f (i + 1) (fun k hk hle => h k hk (by omega))]
    · rfl
theorem one_some (l : List UInt8) (c : UInt8) (n : Nat) (hn : n < l.length) (hc : l[n] = c) : ∀ (f i : Nat) (_ : i ≤ n) (_ : ∀ (k : Nat) (h : k < l.length), i ≤ k → k < n → l[k] ≠ c) (_ : l.length < i + f), idxFrom l [c] f i = (n : Int)
  | 0, i, _, _, hf => by omega
  | f + 1, i, hi, h, hf => by
    rw [idxFrom, if_pos (by rw [List.length_singleton]; omega)]
    by_cases e : i = n
    · subst e
      rw [if_pos ((take_one l i hn c).2 hc)]
    · rw [if_neg (fun e' => h i (by omega) (Nat.le_refl _) (by omega) ((take_one l i (by omega) c).1 e')), one_some l c n hn hc f (i + 1) (by omega) (fun k hk hle hlt => h k hk (by omega) hlt) (by omega)]
set_option maxHeartbeats 1000000 in
theorem index_any (s sub : ByteArray) (at0 : Nat) (w : World) (hs : s.size ≤ 1099511627776) (hsub : sub.size ≤ 1099511627776) (hat : at0 ≤ 1099511627776) :
    Calls Tryz.prog 40 #[.string s, .string sub, .int .i64 at0] w fun e w' => e = .returned (.int .i64 (idxFrom s.data.toList sub.data.toList (s.size + 1) at0)) ∧ w = w' := by
  have hl1 := Lib.hid (Lib.size_eq s)
  have hl2 := Lib.hid (Lib.size_eq sub)
  go_enter Tryz.func40, Tryz.ntmps40
  go_wp2_with fail
  go_loop [7] (fun i => ∃ k f : Nat, k ≤ 2 * 1099511627776 ∧ i = .int .i64 k ∧ s.size < k + f ∧ Hid (idxFrom s.data.toList sub.data.toList f k = idxFrom s.data.toList sub.data.toList (s.size + 1) at0)) (fun i => s.size + 1 - (intOf i).toNat)
  case atStart => exact ⟨at0, s.size + 1, by omega, rfl, by omega, rfl⟩
  case round =>
    obtain ⟨k, f, hk, rfl, hf, hidx⟩ := hrel
    by_cases hlt : k + sub.size ≤ s.size
    · obtain ⟨f, rfl⟩ : ∃ g, f = g + 1 := ⟨f - 1, by omega⟩
      have hstep : Hid (idxFrom s.data.toList sub.data.toList (f + 1) k = if (s.data.toList.drop k).take sub.data.toList.length = sub.data.toList then (k : Int) else idxFrom s.data.toList sub.data.toList f (k + 1)) := by
        show _ = _
        rw [idxFrom, if_pos (by rw [← hl1.out, ← hl2.out]; exact hlt)]
      have hex : (s.extract k (k + sub.size)).toList = (s.data.toList.drop k).take sub.data.toList.length := by
        rw [Lib.extract_toList, show k + sub.size - k = sub.data.toList.length by rw [← hl2.out]; omega]
      have g1 : (k : Int) + sub.size ≤ s.size := by omega
      by_cases he : (s.data.toList.drop k).take sub.data.toList.length = sub.data.toList
      · have heq : ((s.extract k (k + sub.size)).toList == sub.toList) = true := by rw [hex, he, Lib.toList_data]; simp
        have HE := Lib.hid he
        clear he hex
        go_wp2
        go_ret
        exact ⟨ret_int (by rw [← hidx.out, hstep.out, if_pos HE.out]), rfl⟩
      · have heq : ((s.extract k (k + sub.size)).toList == sub.toList) = false := by rw [hex, Lib.toList_data]; simpa using he
        have HE := Lib.hid he
        clear he hex
        go_wp2
        go_round
        case rel => exact ⟨k + 1, f, by omega, by go_num, by omega, by show _ = _; rw [← hidx.out, hstep.out, if_neg HE.out]⟩
        case measure => simp [intOf]; omega
    · have hend : Hid (idxFrom s.data.toList sub.data.toList f k = -1) := by
        show _ = _
        cases f with
        | zero => rfl
        | succ f => rw [idxFrom, if_neg (by rw [← hl1.out, ← hl2.out]; exact hlt)]
      have g1 : ¬ ((k : Int) + sub.size ≤ s.size) := by omega
      go_wp2
      go_ret
      exact ⟨ret_int (by rw [← hidx.out, hend.out]), rfl⟩
/-- At one byte, from the beginning. -/
theorem index_one (s : ByteArray) (c : UInt8) (w : World) (hs : s.size ≤ 1099511627776) :
    Calls Tryz.prog 40 #[.string s, .string ⟨#[c]⟩, .int .i64 0] w fun e w' => w = w' ∧
      ((e = .returned (.int .i64 (-1)) ∧ ∀ x ∈ s.data.toList, x ≠ c) ∨ ∃ a r : List UInt8, s.data.toList = a ++ c :: r ∧ (∀ x ∈ a, x ≠ c) ∧ e = .returned (.int .i64 (a.length : Int))) := by
  refine (index_any s ⟨#[c]⟩ 0 w hs (by show 1 ≤ _; omega) (by omega)).mono ?_
  rintro e w' ⟨rfl, rfl⟩
  refine ⟨rfl, ?_⟩
  rw [show (ByteArray.mk #[c]).data.toList = [c] from rfl]
  have hc : (∀ x ∈ s.data.toList, x ≠ c) ∨ ∃ a r, s.data.toList = a ++ c :: r ∧ ∀ x ∈ a, x ≠ c := by
    induction s.data.toList with
    | nil => exact Or.inl (by simp)
    | cons b l ih =>
      by_cases hb : b = c
      · exact Or.inr ⟨[], l, by rw [hb]; rfl, by simp⟩
      · rcases ih with h | ⟨a, r, h1, h2⟩
        · refine Or.inl (fun x hx => ?_)
          rcases List.mem_cons.1 hx with rfl | hx
          · exact hb
          · exact h x hx
        · refine Or.inr ⟨b :: a, r, by rw [h1]; rfl, fun x hx => ?_⟩
          rcases List.mem_cons.1 hx with rfl | hx
          · exact hb
          · exact h2 x hx
  rcases hc with h | ⟨a, r, h1, h2⟩
  · exact Or.inl ⟨by rw [one_none _ _ _ 0 (fun k hk _ => h _ (List.getElem_mem hk))], h⟩
  · refine Or.inr ⟨a, r, h1, h2, ?_⟩
    have hlt : a.length < s.data.toList.length := by rw [h1, List.length_append, List.length_cons]; omega
    rw [one_some _ c a.length hlt (by simp [h1]) _ 0 (Nat.zero_le _) (fun k hk _ hlt => h2 _ (by simp only [h1]; rw [List.getElem_append_left hlt]; exact List.getElem_mem hlt)) (by rw [← Lib.size_eq]; omega)]
end Go.Proofs.YtnnbbjdidbggmaaGreatDoor.Rx
