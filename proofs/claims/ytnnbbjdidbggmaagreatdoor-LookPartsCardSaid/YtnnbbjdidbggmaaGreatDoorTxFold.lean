/-
  text.Fold returns its text with the letters A to Z turned small, in a new text; nothing that was there is turned. Condition: the text has at most 2^47 - 4096 bytes.
-/
import Derived.Test.YtnnbbjdidbggmaaGreatDoorRows
import Derived.Test.YtnnbbjdidbggmaaGreatDoorShelf
import Derived.Test.YtnnbbjdidbggmaaGreatDoorTxPlain
import Derived.WalkKit
import Derived.WalkSpells
import Derived.Lib.Hide
namespace Go.Proofs.YtnnbbjdidbggmaaGreatDoor.Tx
open Go Go.RowKit

theorem size_list (s : ByteArray) : s.size = s.data.toList.length := Lib.size_eq s
theorem byte_get (s : ByteArray) (k : Nat) (h : k < s.size) : s.data.toList[k]'(by rw [← Lib.size_eq]; exact h) = s[k] := by
  obtain ⟨⟨l⟩⟩ := s
  rfl
theorem cells_snoc (l : List UInt8) (c : UInt8) : Lib.byteCells (l ++ [c]) = Lib.byteCells l ++ [.int .u8 (c.toNat : Int)] := by
  rw [Lib.byteCells_append]
  rfl
theorem ret_str {a b : List UInt8} (h : a = b) : Ending.returned (.string ⟨a.toArray⟩) = Ending.returned (.string ⟨b.toArray⟩) := by rw [h]
theorem ret_bool {a b : Bool} (h : a = b) : Ending.returned (.bool a) = Ending.returned (.bool b) := by rw [h]
theorem fresh_block (w : World) (cs : Array Value) (T : TypeId) : (w.alloc (.cells cs T)).heap[w.heap.size]? = some (.cells cs T (0, 0)) := by
  show (w.heap.push _)[w.heap.size]? = _
  simp

set_option maxHeartbeats 400000 in
set_option maxRecDepth 100000 in
theorem fold_any (s : ByteArray) (w : World) (hs : s.size ≤ 140737488351232) :
    Calls Tryz.prog 70 #[.string s] w fun e w' => e = .returned (.string ⟨(foldL s.data.toList).toArray⟩) ∧ Below w.heap.size w w' := by
  go_enter Tryz.func70, Tryz.ntmps70
  go_wp2_with fail
  refine (Tryz.Builder_Grow_fresh w.heap.size w.heap.size s.size _ (Nat.le_refl _) (fresh_block w _ _) (by simp) (by omega)).mono ?_
  rintro e w1 ⟨rfl, hI, hb1⟩
  have hb0 : Below w.heap.size w w1 := ((Below.refl _ w).alloc (Nat.le_refl _) _).trans hb1
  clear hb1
  have hsz : w.heap.size ≤ w1.heap.size := hb0.size
  have hI0 : Lib.IsBuilder 87 5 w.heap.size w.heap.size (Lib.byteCells (foldL (s.data.toList.take 0))) w1 := Or.inr hI
  clear hI
  go_wp2_with fail
  go_loopw [11] (fun i wr => ∃ k : Nat, k ≤ s.size ∧ i = .int .i64 k ∧ Lib.IsBuilder 87 5 w.heap.size w.heap.size (Lib.byteCells (foldL (s.data.toList.take k))) wr ∧ Below w.heap.size w wr) (fun i _ => s.size - (intOf i).toNat)
  case atStart => exact ⟨0, Nat.zero_le _, rfl, hI0, hb0⟩
  case round =>
    obtain ⟨k, hk, rfl, hI, hb⟩ := hrel
    clear hI0 hb0 hsz
    have hsz : w.heap.size ≤ wr.heap.size := hb.size
    by_cases hlt : k < s.size
    · have hl : k < s.data.toList.length := by rw [← Lib.size_eq]; exact hlt
      have hfs : Hid (foldL (s.data.toList.take (k + 1)) = foldL (s.data.toList.take k) ++ [foldB s[k]]) := by
        show _ = _
        rw [foldL_take_succ _ k hl, byte_get s k hlt]
      have hlen : (Lib.byteCells (foldL (s.data.toList.take k))).length + 1 ≤ 140737488355328 := by
        rw [Lib.byteCells_length, foldL_length, List.length_take]
        omega
      by_cases h1 : 65 ≤ s[k].toNat ∧ s[k].toNat ≤ 90
      · have hup : Hid (((foldB s[k]).toNat : Int) = (s[k].toNat : Int) + 32) := by
          show _ = _
          rw [foldB_up h1.1 h1.2]; simp
        obtain ⟨h1a, h1b⟩ := h1
        have g1 : (65 : Int) ≤ (s[k].toNat : Int) := by omega
        have g2 : (s[k].toNat : Int) ≤ 90 := by omega
        go_wp2_with fail
        refine (Tryz.Builder_WriteByte w.heap.size w.heap.size _ _ _ hI hlen hsz).mono ?_
        rintro e w2 ⟨rfl, h2, hb2⟩
        go_wp2
        go_roundw
        case rel =>
          refine ⟨k + 1, by omega, by go_num, ?_, hb.trans hb2⟩
          rw [hfs.out, cells_snoc, hup.out]
          exact Or.inr h2
        case measure => simp [intOf]; omega
      · have hup : Hid (((foldB s[k]).toNat : Int) = (s[k].toNat : Int)) := by
          show _ = _
          rw [foldB_low h1]
        go_wp2_with fail
        all_goals
          refine (Tryz.Builder_WriteByte w.heap.size w.heap.size _ _ _ hI hlen hsz).mono ?_
          rintro e w2 ⟨rfl, h2, hb2⟩
          go_wp2
          go_roundw
          case rel =>
            refine ⟨k + 1, by omega, by go_num, ?_, hb.trans hb2⟩
            rw [hfs.out, cells_snoc, hup.out]
            exact Or.inr h2
          case measure => simp [intOf]; omega
    · have he : k = s.size := by omega
      subst he
      go_wp2_with fail
      refine (Tryz.Builder_String_any w.heap.size w.heap.size _ _ hI hsz).mono ?_
      rintro e w2 ⟨rfl, hb2⟩
      go_wp2
      go_ret
      exact ⟨ret_str (by rw [List.take_of_length_le (by rw [← Lib.size_eq]; exact Nat.le_refl _)]), hb.trans hb2⟩
end Go.Proofs.YtnnbbjdidbggmaaGreatDoor.Tx
