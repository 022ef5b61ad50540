/-
  utf8.Valid tells whether a text is code points to its end. Condition: the text has at most 2^47 bytes.
-/
import Derived.Test.YtnnbbjdidbggmaaGreatDoorU8Get
namespace Go.Proofs.YtnnbbjdidbggmaaGreatDoor.U8
open Go Go.RowKit Go.Joins Kit

set_option maxHeartbeats 1000000 in
set_option maxRecDepth 100000 in
theorem valid_any (s : ByteArray) (hs : s.size ≤ 140737488355328) (w : World) :
    Calls Tryz.prog 57 #[.string s] w fun e w' => e = .returned (.bool (validL s.data.toList)) ∧ w = w' := by
  go_enter Tryz.func57, Tryz.ntmps57
  go_wp2_with fail
  go_loop [3] (fun i => ∃ a : Nat, a ≤ s.size ∧ i = .int .i64 a ∧ Hid (validL (s.data.toList.drop a) = validL s.data.toList)) (fun i => s.size - (intOf i).toNat)
  case atStart => exact ⟨0, by omega, rfl, rfl⟩
  case round =>
    obtain ⟨a, ha, rfl, hv⟩ := hrel
    by_cases hlt : a < s.size
    · have g1 : (a : Int) < s.size := by omega
      cases hd : decL (s.data.toList.drop a) with
      | none =>
        have hno : Hid (validL s.data.toList = false) := by show _ = _; rw [← hv.out]; exact validL_none (drop_ne hlt) hd
        have HD := Lib.hid hd
        clear hd
        go_wp2_with fail
        refine (get_none HD.out hs w).mono ?_
        rintro e w1 ⟨rfl, rfl⟩
        go_wp2
        go_ret
        exact ⟨ret_bool hno.out.symm, rfl⟩
      | some p =>
        obtain ⟨r, n⟩ := p
        have hr := decL_room hd
        have hrl := decL_lt hd
        have hnx : Hid (validL (s.data.toList.drop (a + n)) = validL s.data.toList) := by show _ = _; rw [← hv.out, validL_some hd, List.drop_drop]
        have HD := Lib.hid hd
        clear hd
        go_wp2_with fail
        refine (get_some HD.out hs w).mono ?_
        rintro e w1 ⟨rfl, rfl⟩
        go_wp2
        go_round
        case rel => exact ⟨a + n, by omega, by go_num, hnx⟩
        case measure => simp [intOf]; omega
    · have g1 : ¬ (a : Int) < s.size := by omega
      have hyes : Hid (validL s.data.toList = true) := by show _ = _; rw [← hv.out, drop_end (by omega)]; rfl
      go_wp2
      go_ret
      exact ⟨ret_bool hyes.out.symm, rfl⟩
end Go.Proofs.YtnnbbjdidbggmaaGreatDoor.U8
