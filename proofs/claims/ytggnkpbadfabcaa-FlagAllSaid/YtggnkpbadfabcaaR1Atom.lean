/-
  The document's answer for Atom, as the statements have it, returns what the program's does. Condition: none but that the text is one of at most 2^47 bytes.
-/
import Derived.Test.YtggnkpbadfabcaaTxAtom
import Derived.Test.YtggnkpbadfabcaaKit
namespace Go.Proofs.Ytggnkpbadfabcaa.R1
open Go Go.RowKit Go.Joins Tx

set_option maxHeartbeats 1000000 in
theorem atom_any (s : ByteArray) (w : World) (hs : s.size ≤ 140737488355328) :
    Calls Try.prog 33 #[.string s] w fun e w' => e = .returned (.bool (atomL s.data.toList)) ∧ w = w' := by
  go_enter Try.func33, Try.ntmps33
  go_wp2_with fail
  go_loop [3] (fun i => ∃ k : Nat, k ≤ s.size ∧ Hid ((s.data.toList.take k).all atomB = true) ∧ i = .int .i64 k) (fun i => s.size - (intOf i).toNat)
  case atStart => exact ⟨0, by omega, rfl, rfl⟩
  case round =>
    obtain ⟨k, hk, hall, rfl⟩ := hrel
    by_cases hlt : k < s.size
    · have hl : k < s.data.toList.length := by rw [← Lib.size_eq]; exact hlt
      have hst := atomL_take_succ s.data.toList k hl
      rw [byte_get s k hlt] at hst
      have HST := Lib.hid hst
      clear hst
      have hi := atomB_iff s[k]
      cases hb : atomB s[k]
      · rw [hb] at hi
        have hno : Hid (atomL s.data.toList = false) := by
          show _ = _
          unfold atomL
          rw [Bool.and_eq_false_iff]
          left
          rw [List.all_eq_false]
          exact ⟨s[k], by rw [← byte_get s k hlt]; exact List.getElem_mem hl, by rw [hb]; decide⟩
        have hr : ((s[k].toNat : Int) < 33) ∨ ((33 : Int) ≤ s[k].toNat ∧ (126 : Int) < s[k].toNat) ∨ ((s[k].toNat : Int) = 40) ∨ ((s[k].toNat : Int) = 41) ∨ ((s[k].toNat : Int) = 123) ∨ ((s[k].toNat : Int) = 125) ∨ ((s[k].toNat : Int) = 37) ∨ ((s[k].toNat : Int) = 42) ∨ ((s[k].toNat : Int) = 34) ∨ ((s[k].toNat : Int) = 92) ∨ ((s[k].toNat : Int) = 93) := by
          have hno' := fun h => Bool.false_ne_true (hi.2 h)
          have hno'' : ¬ ((33 ≤ s[k].toNat ∧ s[k].toNat ≤ 126) ∧ ¬ (s[k].toNat = 40 ∨ s[k].toNat = 41 ∨ s[k].toNat = 123 ∨ s[k].toNat = 125 ∨ s[k].toNat = 37 ∨ s[k].toNat = 42 ∨ s[k].toNat = 34 ∨ s[k].toNat = 92 ∨ s[k].toNat = 93)) := hno'
          clear hno'
          omega
        clear hi hb HST
        rcases hr with h | ⟨h, h'⟩ | h | h | h | h | h | h | h | h | h
        all_goals
          go_wp2
          go_ret
          exact ⟨ret_bool hno.out.symm, rfl⟩
      · have hy := hi.1 hb
        have g1 : (33 : Int) ≤ s[k].toNat := by omega
        have g2 : (s[k].toNat : Int) ≤ 126 := by omega
        have b1 : ((s[k].toNat : Int) == 40) = false := by rw [beq_eq_false_iff_ne]; omega
        have b2 : ((s[k].toNat : Int) == 41) = false := by rw [beq_eq_false_iff_ne]; omega
        have b3 : ((s[k].toNat : Int) == 123) = false := by rw [beq_eq_false_iff_ne]; omega
        have b4 : ((s[k].toNat : Int) == 125) = false := by rw [beq_eq_false_iff_ne]; omega
        have b5 : ((s[k].toNat : Int) == 37) = false := by rw [beq_eq_false_iff_ne]; omega
        have b6 : ((s[k].toNat : Int) == 42) = false := by rw [beq_eq_false_iff_ne]; omega
        have b7 : ((s[k].toNat : Int) == 34) = false := by rw [beq_eq_false_iff_ne]; omega
        have b8 : ((s[k].toNat : Int) == 92) = false := by rw [beq_eq_false_iff_ne]; omega
        have b9 : ((s[k].toNat : Int) == 93) = false := by rw [beq_eq_false_iff_ne]; omega
        have HB := Lib.hid hb
        clear hi hy hb
        go_wp2
        go_round
        case rel =>
          refine ⟨k + 1, by omega, ?_, by go_num⟩
          show _ = _
          rw [HST.out, hall.out, HB.out]; rfl
        case measure => simp [intOf]; omega
    · have he : k = s.size := by omega
      subst he
      go_wp2
      go_ret
      refine ⟨ret_bool (b := atomL s.data.toList) ?_, rfl⟩
      have hfull : s.data.toList.all atomB = true := by
        have := hall.out
        rwa [List.take_of_length_le (by rw [← Lib.size_eq]; exact Nat.le_refl _)] at this
      unfold atomL
      rw [hfull, Lib.toList_data]; rfl
end Go.Proofs.Ytggnkpbadfabcaa.R1
