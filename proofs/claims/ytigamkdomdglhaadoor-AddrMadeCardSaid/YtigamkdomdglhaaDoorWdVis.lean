/-
  word.isVisible tells whether a text is bytes from 33 to 126 alone. Condition: the text has at most 2^40 bytes.
-/
import Derived.Test.YtigamkdomdglhaaDoorWdPlain
import Derived.Test.YtigamkdomdglhaaDoorKit
import Derived.IntWalk
namespace Go.Proofs.YtigamkdomdglhaaDoor.Wd
open Go Go.RowKit Go.Joins Kit

set_option maxHeartbeats 400000 in
theorem vis_any (s : ByteArray) (w : World) (hs : s.size ≤ 1099511627776) :
    Calls Tryd.prog 36 #[.string s] w fun e w' => e = .returned (.bool (visL s.data.toList)) ∧ w = w' := by
  go_enter Tryd.func36, Tryd.ntmps36
  go_wp2_with fail
  go_loop [6] (fun i => ∃ k : Nat, k ≤ s.size ∧ Hid (visL (s.data.toList.take k) = true) ∧ i = .int .i64 k) (fun i => s.size - (intOf i).toNat)
  case atStart => exact ⟨0, by omega, rfl, rfl⟩
  case round =>
    obtain ⟨k, hk, hall, rfl⟩ := hrel
    by_cases hlt : k < s.size
    · have hl : k < s.data.toList.length := by rw [← Lib.size_eq]; exact hlt
      have hst := all_take_succ visB s.data.toList k hl
      rw [byte_get s k hlt] at hst
      have HST := Lib.hid hst
      have HG := Lib.hid (byte_get s k hlt)
      clear hst
      have g0 := (s[k]).toNat_lt
      by_cases h1 : s[k].toNat < 33
      · have hno : Hid (visL s.data.toList = false) := Lib.hid (visL_false hl (by rw [HG.out]; exact visB_low h1))
        have g1 : ((s[k].toNat : Int)) < 33 := by omega
        clear h1
        go_wp2
        go_ret
        exact ⟨ret_bool hno.out.symm, rfl⟩
      · by_cases h2 : 126 < s[k].toNat
        · have hno : Hid (visL s.data.toList = false) := Lib.hid (visL_false hl (by rw [HG.out]; exact visB_high h2))
          have g1 : ¬ ((s[k].toNat : Int)) < 33 := by omega
          have g2 : (126 : Int) < (s[k].toNat : Int) := by omega
          clear h1 h2
          go_wp2
          go_ret
          exact ⟨ret_bool hno.out.symm, rfl⟩
        · have hyes : Hid (visB s[k] = true) := Lib.hid (visB_in (by omega) (by omega))
          have g1 : ¬ ((s[k].toNat : Int)) < 33 := by omega
          have g2 : ¬ (126 : Int) < (s[k].toNat : Int) := by omega
          clear h1 h2
          go_wp2
          go_round
          case rel =>
            refine ⟨k + 1, by omega, ?_, by go_num⟩
            show _ = _
            unfold visL; rw [HST.out, show (s.data.toList.take k).all visB = true from hall.out, hyes.out]; rfl
          case measure => simp [intOf]; omega
    · have he : k = s.size := by omega
      subst he
      have hfull : Hid (visL s.data.toList = true) := Lib.hid (by
        have := hall.out
        rwa [List.take_of_length_le (by rw [← Lib.size_eq]; exact Nat.le_refl _)] at this)
      go_wp2
      go_ret
      exact ⟨ret_bool hfull.out.symm, rfl⟩
end Go.Proofs.YtigamkdomdglhaaDoor.Wd
