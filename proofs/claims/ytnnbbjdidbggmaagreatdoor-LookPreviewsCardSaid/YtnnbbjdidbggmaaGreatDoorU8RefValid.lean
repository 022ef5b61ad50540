/-
  The document's answer for package utf8, as the statements have it: Valid returns what the program's does. Condition: the text has at most 2^47 bytes.
-/
import Derived.Test.YtnnbbjdidbggmaaGreatDoorU8RefGet
namespace Go.Proofs.YtnnbbjdidbggmaaGreatDoor.U8
open Go Go.RowKit Go.Joins Kit

set_option maxHeartbeats 1000000 in
set_option maxRecDepth 100000 in
theorem rvalid_any (s : ByteArray) (hs : s.size ≤ 140737488355328) (w : World) :
    Calls Tryz.prog 14 #[.string s] w fun e w' => e = .returned (.bool (validL s.data.toList)) ∧ Below w.heap.size w w' := by
  have hb0 := Below.refl w.heap.size w
  go_enter Tryz.func14, Tryz.ntmps14
  go_wp2_with fail
  go_loopw [3] (fun i wr => ∃ a : Nat, a ≤ s.size ∧ i = .int .i64 a ∧ Hid (validL (s.data.toList.drop a) = validL s.data.toList) ∧ Below w.heap.size w wr) (fun i _ => s.size - (intOf i).toNat)
  case atStart => exact ⟨0, by omega, rfl, rfl, hb0⟩
  case round =>
    clear hb0
    obtain ⟨a, ha, rfl, hv, hb⟩ := hrel
    by_cases hlt : a < s.size
    · have g1 : (a : Int) < s.size := by omega
      cases hd : decL (s.data.toList.drop a) with
      | none =>
        have hno : Hid (validL s.data.toList = false) := by show _ = _; rw [← hv.out]; exact validL_none (drop_ne hlt) hd
        have HD := Lib.hid hd
        clear hd
        go_wp2_with fail
        refine (rget_none HD.out hs wr).mono ?_
        rintro e w1 ⟨rfl, hb1⟩
        go_wp2
        go_ret
        exact ⟨ret_bool hno.out.symm, hb.trans (hb1.mono hb.size)⟩
      | some p =>
        obtain ⟨r, n⟩ := p
        have hr := decL_room hd
        have hrl := decL_lt hd
        have hnx : Hid (validL (s.data.toList.drop (a + n)) = validL s.data.toList) := by show _ = _; rw [← hv.out, validL_some hd, List.drop_drop]
        have HD := Lib.hid hd
        clear hd
        go_wp2_with fail
        refine (rget_some HD.out hs wr).mono ?_
        rintro e w1 ⟨rfl, hb1⟩
        replace hb1 := hb.trans (hb1.mono hb.size)
        go_wp2
        go_roundw
        case rel => exact ⟨a + n, by omega, by go_num, hnx, hb1⟩
        case measure => simp [intOf]; omega
    · have g1 : ¬ (a : Int) < s.size := by omega
      have hyes : Hid (validL s.data.toList = true) := by show _ = _; rw [← hv.out, drop_end (by omega)]; rfl
      go_wp2
      go_ret
      exact ⟨ret_bool hyes.out.symm, hb⟩
end Go.Proofs.YtnnbbjdidbggmaaGreatDoor.U8
