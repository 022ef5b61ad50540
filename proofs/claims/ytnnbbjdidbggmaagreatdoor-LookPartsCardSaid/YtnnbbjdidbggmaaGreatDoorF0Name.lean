/-
  field.isName tells whether a text is a field's name; field.goesOn is walked in XF0Field; (*strings.Builder).Reset empties a Builder of the call's own. Condition: the text has at most 2^40 bytes.
-/
import Derived.Test.YtnnbbjdidbggmaaGreatDoorF0Plain
import Derived.Test.YtnnbbjdidbggmaaGreatDoorKit
import Derived.IntWalk
namespace Go.Proofs.YtnnbbjdidbggmaaGreatDoor.F0
open Go Go.RowKit Go.Joins Kit

theorem inName_low {c : UInt8} (h : c.toNat < 33) : inName c = false := by unfold inName; simp; omega
theorem inName_high {c : UInt8} (h : 126 < c.toNat) : inName c = false := by unfold inName; simp; omega
theorem inName_in {c : UInt8} (h : 33 ≤ c.toNat) (h2 : c.toNat ≤ 126) : inName c = true := by unfold inName; simp; omega
theorem nameL_false {l : List UInt8} {k : Nat} (h : k < l.length) (hk : inName l[k] = false) : nameL l = false := by
  unfold nameL
  rw [Bool.and_eq_false_iff]
  right
  rw [List.all_eq_false]
  exact ⟨l[k], List.getElem_mem h, by rw [hk]; decide⟩

set_option maxHeartbeats 400000 in
theorem isName_any (s : ByteArray) (w : World) (hs : s.size ≤ 1099511627776) :
    Calls Tryz.prog 102 #[.string s] w fun e w' => e = .returned (.bool (nameL s.data.toList)) ∧ w = w' := by
  go_enter Tryz.func102, Tryz.ntmps102
  go_wp2_with fail
  go_loop [6] (fun i => ∃ k : Nat, k ≤ s.size ∧ Hid ((s.data.toList.take k).all inName = true) ∧ i = .int .i64 k) (fun i => s.size - (intOf i).toNat)
  case atStart => exact ⟨0, by omega, rfl, rfl⟩
  case round =>
    obtain ⟨k, hk, hall, rfl⟩ := hrel
    by_cases hlt : k < s.size
    · have hl : k < s.data.toList.length := by rw [← Lib.size_eq]; exact hlt
      have hst := all_take_succ inName s.data.toList k hl
      rw [byte_get s k hlt] at hst
      have HST := Lib.hid hst
      have HG := Lib.hid (byte_get s k hlt)
      clear hst
      have g0 := (s[k]).toNat_lt
      by_cases h1 : s[k].toNat < 33
      · have hno : Hid (nameL s.data.toList = false) := Lib.hid (nameL_false hl (by rw [HG.out]; exact inName_low h1))
        have g1 : ((s[k].toNat : Int)) < 33 := by omega
        clear h1
        go_wp2
        go_ret
        exact ⟨ret_bool hno.out.symm, rfl⟩
      · by_cases h2 : 126 < s[k].toNat
        · have hno : Hid (nameL s.data.toList = false) := Lib.hid (nameL_false hl (by rw [HG.out]; exact inName_high h2))
          have g1 : ¬ ((s[k].toNat : Int)) < 33 := by omega
          have g2 : (126 : Int) < (s[k].toNat : Int) := by omega
          clear h1 h2
          go_wp2
          go_ret
          exact ⟨ret_bool hno.out.symm, rfl⟩
        · have hyes : Hid (inName s[k] = true) := Lib.hid (inName_in (by omega) (by omega))
          have g1 : ¬ ((s[k].toNat : Int)) < 33 := by omega
          have g2 : ¬ (126 : Int) < (s[k].toNat : Int) := by omega
          clear h1 h2
          go_wp2
          go_round
          case rel =>
            refine ⟨k + 1, by omega, ?_, by go_num⟩
            show _ = _
            rw [HST.out, hall.out, hyes.out]; rfl
          case measure => simp [intOf]; omega
    · have he : k = s.size := by omega
      subst he
      have hfull : Hid (s.data.toList.all inName = true) := Lib.hid (by
        have := hall.out
        rwa [List.take_of_length_le (by rw [← Lib.size_eq]; exact Nat.le_refl _)] at this)
      go_wp2
      go_ret
      refine ⟨ret_bool (b := nameL s.data.toList) ?_, rfl⟩
      unfold nameL
      rw [hfull.out, Lib.toList_data]
      simp
end Go.Proofs.YtnnbbjdidbggmaaGreatDoor.F0
