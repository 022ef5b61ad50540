/-
  utf8.Cut returns a text's first code points, in new memory. Condition: the text has at most 2^47 bytes, the number is an int.
-/
import Derived.Test.YtnnbbjdidbggmaaGreatDoorU8Put
import Derived.Test.YtnnbbjdidbggmaaGreatDoorU8Valid
import Derived.Test.YtnnbbjdidbggmaaGreatDoorU8Clone
namespace Go.Proofs.YtnnbbjdidbggmaaGreatDoor.U8
open Go Go.RowKit Go.Joins Kit

set_option maxHeartbeats 1000000 in
set_option maxRecDepth 100000 in
theorem cut_any (s : ByteArray) (n : Int) (n1 : n ≤ 9223372036854775807) (hs : s.size ≤ 140737488355328) (w : World) :
    Calls Tryz.prog 35 #[.string s, .int .i64 n] w fun e w' => e = .returned (.string (cutB s n.toNat)) ∧ Below w.heap.size w w' := by
  have hcb : Hid (cutB s n.toNat = ⟨(s.data.toList.take (cutN n.toNat s.data.toList)).toArray⟩) := by show _ = _; rfl
  go_enter Tryz.func35, Tryz.ntmps35
  go_wp2_with fail
  go_loop [5, 9] (fun x i => ∃ a k : Nat, a ≤ s.size ∧ (k : Int) ≤ max n 0 ∧ i = .int .i64 k ∧ x = .int .i64 a ∧ Hid (a + cutN (n.toNat - k) (s.data.toList.drop a) = cutN n.toNat s.data.toList)) (fun _ i => n.toNat - (intOf i).toNat)
  case atStart => exact ⟨0, 0, by omega, by omega, rfl, rfl, by show _ = _; simp⟩
  case round =>
    obtain ⟨a, k, ha, hk, rfl, rfl, hc⟩ := hrel
    have gs : (a : Int) ≤ s.size := by omega
    by_cases hlt : (k : Int) < n
    · cases hd : decL (s.data.toList.drop a) with
      | none =>
        have hend : Hid (s.extract 0 a = cutB s n.toNat) := by
          show _ = _
          rw [hcb.out, ← hc.out, cutN_none hd, extract_take]
          rfl
        have HD := Lib.hid hd
        clear hd
        go_wp2_with fail
        refine (get_none HD.out hs w).mono ?_
        rintro e w1 ⟨rfl, rfl⟩
        go_wp2_with fail
        refine (clone_any _ w ?_).mono ?_
        · rw [ByteArray.size_extract]; omega
        rintro e w1 ⟨rfl, hb⟩
        go_wp2
        go_ret
        exact ⟨ret_string hend.out, hb⟩
      | some p =>
        obtain ⟨r, m⟩ := p
        have hr := decL_room hd
        have hrl := decL_lt hd
        have hnx : Hid (a + m + cutN (n.toNat - (k + 1)) (s.data.toList.drop (a + m)) = cutN n.toNat s.data.toList) := by
          show _ = _
          rw [← hc.out, show n.toNat - k = n.toNat - (k + 1) + 1 by omega, cutN_some hd, List.drop_drop]
          omega
        have HD := Lib.hid hd
        clear hd
        go_wp2_with fail
        refine (get_some HD.out hs w).mono ?_
        rintro e w1 ⟨rfl, rfl⟩
        go_wp2
        go_round
        case rel => exact ⟨a + m, k + 1, by omega, by omega, by go_num, by go_num, hnx⟩
        case measure => simp [intOf]; omega
    · have hend : Hid (s.extract 0 a = cutB s n.toNat) := by
        show _ = _
        rw [hcb.out, ← hc.out, show n.toNat - k = 0 by omega, extract_take]
        rfl
      go_wp2_with fail
      refine (clone_any _ w ?_).mono ?_
      · rw [ByteArray.size_extract]; omega
      rintro e w1 ⟨rfl, hb⟩
      go_wp2
      go_ret
      exact ⟨ret_string hend.out, hb⟩
end Go.Proofs.YtnnbbjdidbggmaaGreatDoor.U8
