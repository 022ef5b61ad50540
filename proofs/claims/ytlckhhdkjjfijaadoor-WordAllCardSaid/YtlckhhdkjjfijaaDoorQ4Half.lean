/-
  The document's answer for package quoted, as the statements have it: half returns a digit's value, or -1. Conditions: none.
-/
import Derived.Test.YtlckhhdkjjfijaaDoorQ4Decode
import Derived.Test.YtlckhhdkjjfijaaDoorBuf2
namespace Go.Proofs.YtlckhhdkjjfijaaDoor.Q4
open Go Go.RowKit Go.Joins Kit Srch

theorem hv_not {c : UInt8} (h : ¬ (48 ≤ c.toNat ∧ c.toNat ≤ 57) ∧ ¬ (97 ≤ c.toNat ∧ c.toNat ≤ 102) ∧ ¬ (65 ≤ c.toNat ∧ c.toNat ≤ 70)) : hv c = -1 := by
  apply hv_none
  unfold hx hxN
  rw [if_neg h.1, if_neg h.2.1, if_neg h.2.2]
theorem hv_d {c : UInt8} (h : 48 ≤ c.toNat ∧ c.toNat ≤ 57) : hv c = (c.toNat : Int) - 48 := by
  have e : hx c = some (c.toNat - 48) := by unfold hx hxN; rw [if_pos h]
  rw [hv_some e]
  omega
theorem hv_l {c : UInt8} (h : 97 ≤ c.toNat ∧ c.toNat ≤ 102) : hv c = (c.toNat : Int) - 87 := by
  have e : hx c = some (c.toNat - 87) := by unfold hx hxN; rw [if_neg (by omega), if_pos h]
  rw [hv_some e]
  omega
theorem hv_u {c : UInt8} (h : 65 ≤ c.toNat ∧ c.toNat ≤ 70) : hv c = (c.toNat : Int) - 55 := by
  have e : hx c = some (c.toNat - 55) := by unfold hx hxN; rw [if_neg (by omega), if_neg (by omega), if_pos h]
  rw [hv_some e]
  omega
theorem half_any (c : UInt8) (w : World) :
    Calls Tryd.prog 58 #[.int .u8 (c.toNat : Int)] w fun e w' => e = .returned (.int .i64 (hv c)) ∧ w = w' := by
  have hc := c.toNat_lt
  rcases (show c.toNat < 48 ∨ (48 ≤ c.toNat ∧ c.toNat ≤ 57) ∨ (57 < c.toNat ∧ c.toNat < 65) ∨ (65 ≤ c.toNat ∧ c.toNat ≤ 70) ∨ (70 < c.toNat ∧ c.toNat < 97) ∨ (97 ≤ c.toNat ∧ c.toNat ≤ 102) ∨ 102 < c.toNat by omega) with h | h | h | h | h | h | h
  · have hd := Lib.hid (hv_not (c := c) (by omega))
    have g0 : (c.toNat : Int) < 48 := by omega
    clear h
    go_enter Tryd.func58, Tryd.ntmps58
    go_wp2
    go_ret
    exact ⟨ret_int (by rw [hd.out] <;> omega), rfl⟩
  · have hd := Lib.hid (hv_d (c := c) (by omega))
    have g0 : 48 ≤ (c.toNat : Int) := by omega
    have g1 : (c.toNat : Int) ≤ 57 := by omega
    clear h
    go_enter Tryd.func58, Tryd.ntmps58
    go_wp2
    go_ret
    exact ⟨ret_int (by rw [hd.out] <;> omega), rfl⟩
  · have hd := Lib.hid (hv_not (c := c) (by omega))
    have g0 : 57 < (c.toNat : Int) := by omega
    have g1 : (c.toNat : Int) < 65 := by omega
    clear h
    go_enter Tryd.func58, Tryd.ntmps58
    go_wp2
    go_ret
    exact ⟨ret_int (by rw [hd.out] <;> omega), rfl⟩
  · have hd := Lib.hid (hv_u (c := c) (by omega))
    have g0 : 65 ≤ (c.toNat : Int) := by omega
    have g1 : (c.toNat : Int) ≤ 70 := by omega
    clear h
    go_enter Tryd.func58, Tryd.ntmps58
    go_wp2
    go_ret
    exact ⟨ret_int (by rw [hd.out] <;> omega), rfl⟩
  · have hd := Lib.hid (hv_not (c := c) (by omega))
    have g0 : 70 < (c.toNat : Int) := by omega
    have g1 : (c.toNat : Int) < 97 := by omega
    clear h
    go_enter Tryd.func58, Tryd.ntmps58
    go_wp2
    go_ret
    exact ⟨ret_int (by rw [hd.out] <;> omega), rfl⟩
  · have hd := Lib.hid (hv_l (c := c) (by omega))
    have g0 : 97 ≤ (c.toNat : Int) := by omega
    have g1 : (c.toNat : Int) ≤ 102 := by omega
    clear h
    go_enter Tryd.func58, Tryd.ntmps58
    go_wp2
    go_ret
    exact ⟨ret_int (by rw [hd.out] <;> omega), rfl⟩
  · have hd := Lib.hid (hv_not (c := c) (by omega))
    have g0 : 102 < (c.toNat : Int) := by omega
    clear h
    go_enter Tryd.func58, Tryd.ntmps58
    go_wp2
    go_ret
    exact ⟨ret_int (by rw [hd.out] <;> omega), rfl⟩

end Go.Proofs.YtlckhhdkjjfijaaDoor.Q4
