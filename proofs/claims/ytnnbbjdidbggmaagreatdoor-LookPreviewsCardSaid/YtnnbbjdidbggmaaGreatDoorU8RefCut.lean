/-
  The document's answer for package utf8, as the statements have it: Cut returns what the program's does. Condition: the text has at most 2^47 bytes, the number is an int.
-/
import Derived.Test.YtnnbbjdidbggmaaGreatDoorU8RefValid
namespace Go.Proofs.YtnnbbjdidbggmaaGreatDoor.U8
open Go Go.RowKit Go.Joins Kit

set_option maxHeartbeats 1000000 in
set_option maxRecDepth 100000 in
theorem rcut_any (s : ByteArray) (n : Int) (n1 : n ≤ 9223372036854775807) (hs : s.size ≤ 140737488355328) (w : World) :
    Calls Tryz.prog 15 #[.string s, .int .i64 n] w fun e w' => e = .returned (.string (cutB s n.toNat)) ∧ Below w.heap.size w w' := by
  have hb0 := Below.refl w.heap.size w
  have hcb : Hid (cutB s n.toNat = ⟨(s.data.toList.take (cutN n.toNat s.data.toList)).toArray⟩) := by show _ = _; rfl
  go_enter Tryz.func15, Tryz.ntmps15
  go_wp2_with fail
  go_loopw [5, 6] (fun x i wr => ∃ a k : Nat, a ≤ s.size ∧ (k : Int) ≤ max n 0 ∧ i = .int .i64 k ∧ x = .int .i64 a ∧ Hid (a + cutN (n.toNat - k) (s.data.toList.drop a) = cutN n.toNat s.data.toList) ∧ Below w.heap.size w wr) (fun _ i _ => n.toNat - (intOf i).toNat)
  case atStart => exact ⟨0, 0, by omega, by omega, rfl, rfl, by show _ = _; simp, hb0⟩
  case round =>
    clear hb0
    obtain ⟨a, k, ha, hk, rfl, rfl, hc, hb⟩ := hrel
    have gs : (a : Int) ≤ s.size := by omega
    by_cases hlt : (k : Int) < n
    · cases hd : decL (s.data.toList.drop a) with
      | none =>
        have hend : Hid (s.extract 0 a = cutB s n.toNat) := by
          show _ = _
          rw [hcb.out, ← hc.out, cutN_none hd, extract_take]
          rfl
        have HD := Lib.hid hd
        clear hd
        by_cases hl2 : a < s.size
        · have g2 : (a : Int) < s.size := by omega
          go_wp2_with fail
          refine (rget_none HD.out hs wr).mono ?_
          rintro e w1 ⟨rfl, hb1⟩
          go_wp2
          go_ret
          exact ⟨ret_string hend.out, hb.trans (hb1.mono hb.size)⟩
        · have g2 : ¬ (a : Int) < s.size := by omega
          go_wp2
          go_ret
          exact ⟨ret_string hend.out, hb⟩
      | some p =>
        obtain ⟨r, m⟩ := p
        have hr := decL_room hd
        have hrl := decL_lt hd
        have g2 : (a : Int) < s.size := by omega
        have hnx : Hid (a + m + cutN (n.toNat - (k + 1)) (s.data.toList.drop (a + m)) = cutN n.toNat s.data.toList) := by
          show _ = _
          rw [← hc.out, show n.toNat - k = n.toNat - (k + 1) + 1 by omega, cutN_some hd, List.drop_drop]
          omega
        have HD := Lib.hid hd
        clear hd
        go_wp2_with fail
        refine (rget_some HD.out hs wr).mono ?_
        rintro e w1 ⟨rfl, hb1⟩
        replace hb1 := hb.trans (hb1.mono hb.size)
        go_wp2
        go_roundw
        case rel => exact ⟨a + m, k + 1, by omega, by omega, by go_num, by go_num, hnx, hb1⟩
        case measure => simp [intOf]; omega
    · have hend : Hid (s.extract 0 a = cutB s n.toNat) := by
        show _ = _
        rw [hcb.out, ← hc.out, show n.toNat - k = 0 by omega, extract_take]
        rfl
      go_wp2
      go_ret
      exact ⟨ret_string hend.out, hb⟩
end Go.Proofs.YtnnbbjdidbggmaaGreatDoor.U8
