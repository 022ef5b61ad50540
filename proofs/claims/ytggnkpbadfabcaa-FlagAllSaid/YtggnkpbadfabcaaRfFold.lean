/-
  The document's answer, as the statements have it: Fold returns its text with the letters A to Z turned small, in a new text. Condition: the text has at most 2^47 bytes.
-/
import Derived.Test.YtggnkpbadfabcaaKit
import Derived.Test.YtggnkpbadfabcaaTxPlain
namespace Go.Proofs.Ytggnkpbadfabcaa.Rf
open Go Go.RowKit Go.Joins Kit Tx

def fold (s : ByteArray) : ByteArray := ⟨(foldL s.data.toList).toArray⟩
def foldTo (l : List UInt8) (k : Nat) : List UInt8 := foldL (l.take k) ++ l.drop k
theorem foldTo_length (l : List UInt8) (k : Nat) : (foldTo l k).length = l.length := by
  unfold foldTo
  rw [List.length_append, foldL_length, ← List.length_append, List.take_append_drop]
theorem foldTo_at (l : List UInt8) (k : Nat) (h : k < l.length) : (foldTo l k)[k]'(by rw [foldTo_length]; exact h) = l[k] := by
  unfold foldTo
  have hk : (foldL (l.take k)).length = k := by rw [foldL_length, List.length_take]; omega
  rw [List.getElem_append_right (by omega)]
  simp [hk]
theorem set_mid (l : List UInt8) (a b : UInt8) (r : List UInt8) : (l ++ b :: r).set l.length a = l ++ a :: r := by
  induction l with
  | nil => rfl
  | cons x l ih => simp [ih]
theorem foldTo_set (l : List UInt8) (k : Nat) (h : k < l.length) : (foldTo l k).set k (foldB l[k]) = foldTo l (k + 1) := by
  unfold foldTo
  have hk : (foldL (l.take k)).length = k := by rw [foldL_length, List.length_take]; omega
  rw [List.drop_eq_getElem_cons h]
  have := set_mid (foldL (l.take k)) (foldB l[k]) l[k] (l.drop (k + 1))
  rw [hk] at this
  rw [this, foldL_take_succ l k h, List.append_assoc]
  rfl
theorem foldTo_keep (l : List UInt8) (k : Nat) (h : k < l.length) (hn : ¬ (65 ≤ l[k].toNat ∧ l[k].toNat ≤ 90)) : foldTo l k = foldTo l (k + 1) := by
  unfold foldTo
  rw [foldL_take_succ l k h, foldB_low hn, List.append_assoc, List.drop_eq_getElem_cons h]
  rfl

set_option maxHeartbeats 1000000 in
set_option maxRecDepth 100000 in
theorem fold_call (s : ByteArray) (w : World) (hs : s.size ≤ 140737488355328) :
    Calls Try.prog 23 #[.string s] w fun e w' => e = .returned (.string (fold s)) ∧ Below w.heap.size w w' := by
  have hconv := run_bytes_of_string (P := Try.prog) w 9 41 5 s Try.underlying9 Try.underlying41 Try.underlying5
  have hrow := rowB_made w s (grownCap w s.size 0 5)
  generalize grownCap w s.size 0 5 = cap at hconv hrow
  generalize hC : bytesRow s cap = C at hconv hrow
  have HC := Lib.hid hC
  clear hC
  go_enter Try.func23, Try.ntmps23
  go_wp2_with fail
  clear hconv
  go_loopw [4] (fun i wr => ∃ k : Nat, k ≤ s.size ∧ i = .int .i64 k ∧ RowB wr w.heap.size (foldTo s.data.toList k) ∧ Below w.heap.size w wr) (fun i _ => s.size - (intOf i).toNat)
  case atStart => exact ⟨0, by omega, rfl, hrow, ((Below.refl _ w).alloc (Nat.le_refl _) _).drew⟩
  case round =>
    clear hrow
    obtain ⟨k, hk, rfl, hrow, hb⟩ := hrel
    by_cases hlt : k < s.size
    · have hl : k < s.data.toList.length := by rw [← Lib.size_eq]; exact hlt
      have hlk : k < (foldTo s.data.toList k).length := by rw [foldTo_length]; exact hl
      have hcell := hrow.cell k hlk
      rw [foldTo_at _ _ hl, byte_get s k hlt] at hcell
      have hfz := hrow.free k hlk
      have hki : (k : Int) < s.size := by omega
      by_cases h1 : 65 ≤ s[k].toNat ∧ s[k].toNat ≤ 90
      · have hset := hrow.set k (foldB s[k])
        have hfs := foldTo_set _ k hl
        rw [byte_get s k hlt] at hfs
        rw [hfs, foldB_up h1.1 h1.2] at hset
        have hb2 := hb.setCell (p := ⟨w.heap.size, k, none⟩) (Nat.le_refl _) (.int .u8 ((s[k].toNat + 32 : Nat) : Int))
        have HSET := Lib.hid hset
        have HFS := Lib.hid hfs
        have g1 : (65 : Int) ≤ s[k].toNat := by omega
        have g2 : (s[k].toNat : Int) ≤ 90 := by omega
        clear hset hfs h1
        go_wp2
        go_roundw
        case rel => exact ⟨k + 1, by omega, by go_num, HSET.out, hb2⟩
        case measure => simp [intOf]; omega
      · have hfs := foldTo_keep _ k hl (by rw [byte_get s k hlt]; exact h1)
        rw [hfs] at hrow
        have HFS := Lib.hid hfs
        clear hfs
        rcases (show (s[k].toNat : Int) < 65 ∨ ((65 : Int) ≤ s[k].toNat ∧ (90 : Int) < s[k].toNat) by omega) with g1 | ⟨g1, g2⟩
        all_goals
          clear h1
          go_wp2
          go_roundw
          case rel => exact ⟨k + 1, by omega, by go_num, hrow, hb⟩
          case measure => simp [intOf]; omega
    · have he : k = s.size := by omega
      subst he
      have hfull : foldTo s.data.toList s.size = foldL s.data.toList := by
        unfold foldTo
        rw [List.take_of_length_le (by rw [← Lib.size_eq]; exact Nat.le_refl _), List.drop_of_length_le (by rw [← Lib.size_eq]; exact Nat.le_refl _), List.append_nil]
      rw [hfull] at hrow
      have hrun := hrow.string cap
      rw [foldL_length, ← Lib.size_eq] at hrun
      clear hrow
      go_wp2
      go_ret
      exact ⟨rfl, hb⟩
end Go.Proofs.Ytggnkpbadfabcaa.Rf
