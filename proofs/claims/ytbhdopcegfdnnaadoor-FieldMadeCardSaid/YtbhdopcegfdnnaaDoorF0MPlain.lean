/-
  The laws' plain makes a text a name or a value. Condition: the text has at most 2^40 bytes.
-/
import Derived.Test.YtbhdopcegfdnnaaDoorF0MadeP
import Derived.Test.YtbhdopcegfdnnaaDoorF0Name
namespace Go.Proofs.YtbhdopcegfdnnaaDoor.F0
open Go Go.RowKit Go.Joins Kit

def plainB (s : ByteArray) : ByteArray := ⟨(plainL s.data.toList).toArray⟩
theorem plainB_data (s : ByteArray) : (plainB s).data.toList = plainL s.data.toList := rfl
theorem plainB_good (s : ByteArray) : Good (plainB s).data.toList := plain_good _
theorem plainB_len (s : ByteArray) (n : Nat) (h : s.size ≤ n) (hn : 1 ≤ n) : (plainB s).size ≤ n := by
  rw [Lib.size_eq]
  exact plain_len _ n (by rw [← Lib.size_eq]; exact h) hn
theorem plainB_bad {s : ByteArray} {k : Nat} (h : k < s.data.toList.length) (hk : okB s.data.toList[k] = false) : plainB s = ⟨#[45]⟩ := by
  unfold plainB plainL
  rw [if_pos]
  rw [Bool.or_eq_true]
  right
  rw [Bool.not_eq_true', List.all_eq_false]
  exact ⟨_, List.getElem_mem h, by rw [hk]; decide⟩
theorem plainB_none {s : ByteArray} (h : s.size = 0) : plainB s = ⟨#[45]⟩ := by
  have : s.data.toList = [] := List.length_eq_zero_iff.1 (by rw [← Lib.size_eq]; exact h)
  unfold plainB
  rw [this]
  rfl
theorem plainB_same {s : ByteArray} (h0 : s.size ≠ 0) (h : s.data.toList.all okB = true) : plainB s = s := by
  unfold plainB plainL
  rw [if_neg]
  rw [Bool.or_eq_true, not_or, h]
  refine ⟨fun e => h0 ?_, by decide⟩
  rw [Lib.size_eq]
  exact List.length_eq_zero_iff.2 (List.isEmpty_iff.1 e)
theorem okB_col {c : UInt8} (h : c.toNat = 58) : okB c = false := by
  have : c = 58 := UInt8.toNat_inj.1 h
  rw [this]; decide
theorem okB_low {c : UInt8} (h : c.toNat < 33) : okB c = false := by unfold okB; rw [inName_low h]; rfl
theorem okB_high {c : UInt8} (h : 126 < c.toNat) : okB c = false := by unfold okB; rw [inName_high h]; rfl
theorem okB_in {c : UInt8} (h : 33 ≤ c.toNat) (h2 : c.toNat ≤ 126) (h3 : c.toNat ≠ 58) : okB c = true := by
  unfold okB
  rw [inName_in h h2, Bool.true_and, bne_iff_ne]
  intro e
  rw [e] at h3
  exact h3 rfl

set_option maxHeartbeats 1000000 in
set_option maxRecDepth 100000 in
theorem plain_any (s : ByteArray) (w : World) (hs : s.size ≤ 1099511627776) :
    Calls Tryd.prog 15 #[.string s] w fun e w' => e = .returned (.string (plainB s)) ∧ w = w' := by
  go_enter Tryd.func15, Tryd.ntmps15
  go_wp2_with fail
  go_loop [3] (fun i => ∃ k : Nat, k ≤ s.size ∧ Hid ((s.data.toList.take k).all okB = true) ∧ i = .int .i64 k) (fun i => s.size - (intOf i).toNat)
  case atStart => exact ⟨0, by omega, rfl, rfl⟩
  case round =>
    obtain ⟨k, hk, hall, rfl⟩ := hrel
    by_cases hlt : k < s.size
    · have hl : k < s.data.toList.length := by rw [← Lib.size_eq]; exact hlt
      have hst := all_take_succ okB s.data.toList k hl
      rw [byte_get s k hlt] at hst
      have HST := Lib.hid hst
      have HG := Lib.hid (byte_get s k hlt)
      have HBAD : Hid (okB s[k] = false → plainB s = ⟨#[45]⟩) := Lib.hid (fun h => plainB_bad hl (by rw [HG.out]; exact h))
      clear hst
      have g0 := (s[k]).toNat_lt
      by_cases h1 : s[k].toNat < 33
      · have hno := Lib.hid (HBAD.out (okB_low h1))
        have g1 : ((s[k].toNat : Int)) < 33 := by omega
        clear h1
        go_wp2
        go_ret
        rw [hno.out]
        exact ⟨rfl, rfl⟩
      · by_cases h2 : 126 < s[k].toNat
        · have hno := Lib.hid (HBAD.out (okB_high h2))
          have g1 : ¬ ((s[k].toNat : Int)) < 33 := by omega
          have g2 : (126 : Int) < (s[k].toNat : Int) := by omega
          clear h1 h2
          go_wp2
          go_ret
          rw [hno.out]
          exact ⟨rfl, rfl⟩
        · have g1 : ¬ ((s[k].toNat : Int)) < 33 := by omega
          have g2 : ¬ (126 : Int) < (s[k].toNat : Int) := by omega
          by_cases h3 : s[k].toNat = 58
          · have hno := Lib.hid (HBAD.out (okB_col h3))
            have g3 : (s[k].toNat : Int) = 58 := by omega
            have g4 : ((s[k].toNat : Int) == 58) = true := by simpa using g3
            clear h1 h2 h3
            go_wp2
            go_ret
            rw [hno.out]
            exact ⟨rfl, rfl⟩
          · have hyes : Hid (okB s[k] = true) := Lib.hid (okB_in (by omega) (by omega) h3)
            have g3 : ¬ (s[k].toNat : Int) = 58 := by omega
            have g4 : ((s[k].toNat : Int) == 58) = false := by simpa using g3
            clear h1 h2 h3
            go_wp2
            go_round
            case rel =>
              refine ⟨k + 1, by omega, ?_, by go_num⟩
              show _ = _
              rw [HST.out, hall.out, hyes.out]; rfl
            case measure => simp [intOf]; omega
    · have he : k = s.size := by omega
      subst he
      have hfull : Hid (s.data.toList.all okB = true) := Lib.hid (by
        have := hall.out
        rwa [List.take_of_length_le (by rw [← Lib.size_eq]; exact Nat.le_refl _)] at this)
      by_cases h0 : s.size = 0
      · have hno := Lib.hid (plainB_none h0)
        have hte := toList_nil h0
        clear h0
        go_wp2
        go_ret
        rw [hno.out]
        exact ⟨rfl, rfl⟩
      · have hno := Lib.hid (plainB_same h0 hfull.out)
        have hte := toList_isEmpty h0
        clear h0
        go_wp2
        go_ret
        rw [hno.out]
        exact ⟨rfl, rfl⟩
end Go.Proofs.YtbhdopcegfdnnaaDoor.F0
