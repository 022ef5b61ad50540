/-
  text.Atom tells whether its text is an atom of IMAP. Condition: none but that the text is one.
-/
import Derived.Test.YtggnkpbadfabcaaTxFold
namespace Go.Proofs.Ytggnkpbadfabcaa.Tx
open Go Go.RowKit

theorem atomB_iff (c : UInt8) : atomB c = true ↔ (33 ≤ c.toNat ∧ c.toNat ≤ 126) ∧ ¬ (c.toNat = 40 ∨ c.toNat = 41 ∨ c.toNat = 123 ∨ c.toNat = 125 ∨ c.toNat = 37 ∨ c.toNat = 42 ∨ c.toNat = 34 ∨ c.toNat = 92 ∨ c.toNat = 93) := by
  simp [atomB]
  omega

set_option maxHeartbeats 400000 in
theorem inAtom_any (c : UInt8) (w : World) :
    Calls Try.prog 43 #[.int .u8 c.toNat] w fun e w' => e = .returned (.bool (atomB c)) ∧ w = w' := by
  have hA := atomB_iff c
  have HA := Lib.hid hA
  clear hA
  go_enter Try.func43, Try.ntmps43
  go_wp2
  all_goals
    go_ret
    refine ⟨ret_bool ?_, rfl⟩
    simp only [beq_iff_eq, beq_eq_false_iff_ne, ne_eq] at *
    rw [Bool.eq_iff_iff, HA.out]
    first | (simp only [decide_eq_true_eq]; omega) | (simp only [Bool.false_eq_true, false_iff]; omega)

theorem atomL_take_succ (l : List UInt8) (k : Nat) (h : k < l.length) : (l.take (k + 1)).all atomB = ((l.take k).all atomB && atomB l[k]) := by
  rw [List.take_succ_eq_append_getElem h, List.all_append]
  simp

set_option maxHeartbeats 400000 in
theorem atom_any (s : ByteArray) (w : World) (hs : s.size ≤ 140737488355328) :
    Calls Try.prog 32 #[.string s] w fun e w' => e = .returned (.bool (atomL s.data.toList)) ∧ w = w' := by
  go_enter Try.func32, Try.ntmps32
  go_wp2_with fail
  go_loop [6] (fun i => ∃ k : Nat, k ≤ s.size ∧ Hid ((s.data.toList.take k).all atomB = true) ∧ i = .int .i64 k) (fun i => s.size - (intOf i).toNat)
  case atStart => exact ⟨0, by omega, rfl, rfl⟩
  case round =>
    obtain ⟨k, hk, hall, rfl⟩ := hrel
    by_cases hlt : k < s.size
    · have hl : k < s.data.toList.length := by rw [← Lib.size_eq]; exact hlt
      have hst := atomL_take_succ s.data.toList k hl
      rw [byte_get s k hlt] at hst
      have HST := Lib.hid hst
      clear hst
      cases hb : atomB s[k]
      · have hno : Hid (atomL s.data.toList = false) := by
          show _ = _
          unfold atomL
          rw [Bool.and_eq_false_iff]
          left
          rw [List.all_eq_false]
          exact ⟨s[k], by rw [← byte_get s k hlt]; exact List.getElem_mem hl, by rw [hb]; decide⟩
        go_wp2_with (go_at_call 43; refine (inAtom_any s[k] _).mono ?_; rintro e w' ⟨rfl, rfl⟩)
        go_ret
        exact ⟨ret_bool hno.out.symm, rfl⟩
      · go_wp2_with (go_at_call 43; refine (inAtom_any s[k] _).mono ?_; rintro e w' ⟨rfl, rfl⟩)
        go_round
        case rel =>
          refine ⟨k + 1, by omega, ?_, by go_num⟩
          show _ = _
          rw [HST.out, hall.out, hb]; rfl
        case measure => simp [intOf]; omega
    · have he : k = s.size := by omega
      subst he
      go_wp2
      go_ret
      refine ⟨ret_bool (b := atomL s.data.toList) ?_, rfl⟩
      have hfull : s.data.toList.all atomB = true := by
        have := hall.out
        rwa [List.take_of_length_le (by rw [← Lib.size_eq]; exact Nat.le_refl _)] at this
      unfold atomL
      rw [hfull, Lib.toList_data]; rfl
end Go.Proofs.Ytggnkpbadfabcaa.Tx
