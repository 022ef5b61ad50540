/-
  The document's answer for package text, as the statements have it: Number, Atom, Index, In return what the program's do. Condition: none but that the texts are texts of at most 2^31 bytes.
-/
import Derived.Test.YtjhhaepmlllfaaaDoorTxAtoms
import Derived.Lib.IndexLaws
namespace Go.Proofs.YtjhhaepmlllfaaaDoor.R1
open Go Go.RowKit Go.Joins Tx

set_option maxHeartbeats 1000000 in
theorem number_core (s : ByteArray) (w : World) (h0 : 0 < s.size) (h1 : s.size ≤ 10) (h2 : s.size ≤ 1 ∨ ¬ (s[0].toNat : Int) = 48) :
    Calls Tryd.prog 13 #[.string s] w fun e w' => e = .returned (numV (numL s.data.toList)) ∧ w = w' := by
  have hE := toList_isEmpty (s := s) (by omega)
  have hopen : Hid (numL s.data.toList = match numFrom s.data.toList 0 with | some n => if n ≤ 4294967295 then some n else none | none => none) :=
    numL_open (data_ne (by omega)) (by rw [← Lib.size_eq]; exact h1) (by
      rw [data_head h0, ← Lib.size_eq]
      rintro ⟨e, h⟩
      have e' := Option.some.inj e
      rcases h2 with h2 | h2
      · omega
      · rw [e'] at h2; exact h2 rfl)
  have g1 : (s.size : Int) ≤ 10 := by omega
  have hstart : Hid (numFrom (s.data.toList.drop 0) 0 = numFrom s.data.toList 0) := by show _ = _; rfl
  have hcase : (s.size : Int) ≤ 1 ∨ ((1 : Int) < s.size ∧ ((s[0].toNat : Int) == 48) = false) := by
    rw [beq_eq_false_iff_ne]
    omega
  rcases hcase with h3 | ⟨h3, h4⟩
  all_goals
    clear h2
    go_enter Tryd.func13, Tryd.ntmps13
    go_wp2_with fail
    go_loop [4, 5] (fun n i => ∃ k m : Nat, k ≤ s.size ∧ m < 10 ^ k ∧ Hid (numFrom (s.data.toList.drop k) m = numFrom s.data.toList 0) ∧ i = .int .i64 k ∧ n = .int .i64 m) (fun _ i => s.size - (intOf i).toNat)
    case atStart => exact ⟨0, 0, by omega, by decide, hstart, rfl, rfl⟩
    case round =>
      obtain ⟨k, m, hk, hm, hn, rfl, rfl⟩ := hrel
      have hp := pow_le k (by omega)
      have hm' : m ≤ 10000000000 := by omega
      clear hp
      have HM : Hid (m < 10 ^ k) := hm
      clear hm
      by_cases hlt : k < s.size
      · have hl : k < s.data.toList.length := by rw [← Lib.size_eq]; exact hlt
        have hst := numFrom_step s.data.toList k m hl
        rw [byte_get s k hlt] at hst
        have HST := Lib.hid hst
        clear hst
        by_cases hd : 48 ≤ s[k].toNat ∧ s[k].toNat ≤ 57
        · obtain ⟨d1, d2⟩ := hd
          have g2 : (48 : Int) ≤ s[k].toNat := by omega
          have g3 : (s[k].toNat : Int) ≤ 57 := by omega
          go_wp2
          go_round
          case rel =>
            refine ⟨k + 1, m * 10 + (s[k].toNat - 48), by omega, pow_next HM.out (by omega), ?_, by go_num, ?_⟩
            · show _ = _
              rw [← hn.out, HST.out, if_pos ((isDig_iff _).2 ⟨d1, d2⟩)]
            · congr 1; omega
          case measure => simp [intOf]; omega
        · have hnone : Hid (numL s.data.toList = none) := by
            show _ = _
            rw [hopen.out, ← hn.out, HST.out, if_neg (fun h => hd ((isDig_iff _).1 h))]
          have hd' : ¬ ((48 : Int) ≤ s[k].toNat ∧ (s[k].toNat : Int) ≤ 57) := by omega
          clear hd
          go_wp2
          all_goals
            go_ret2
            exact ⟨ret_num_none hnone.out, rfl⟩
      · have he : k = s.size := by omega
        have hend : Hid (numL s.data.toList = if m ≤ 4294967295 then some m else none) := by
          show _ = _
          rw [hopen.out, ← hn.out, List.drop_of_length_le (by rw [← Lib.size_eq]; omega)]
          rfl
        clear he
        by_cases hg : 4294967295 < m
        · have g4 : (4294967295 : Int) < m := by omega
          go_wp2
          go_ret2
          exact ⟨ret_num_none (by rw [hend.out, if_neg (by omega)]), rfl⟩
        · have g4 : (m : Int) ≤ 4294967295 := by omega
          go_wp2
          go_ret2
          exact ⟨ret_num_some (by rw [hend.out, if_pos (by omega)]), rfl⟩

set_option maxHeartbeats 400000 in
theorem number_any (s : ByteArray) (w : World) :
    Calls Tryd.prog 13 #[.string s] w fun e w' => e = .returned (numV (numL s.data.toList)) ∧ w = w' := by
  by_cases h0 : s.size = 0
  · have e := toList_nil h0
    have hn : Hid (numL s.data.toList = none) := by
      rw [Lib.toList_data] at e
      rw [e]; rfl
    go_enter Tryd.func13, Tryd.ntmps13
    go_wp2
    go_ret2
    exact ⟨ret_num_none hn.out, rfl⟩
  have hE := toList_isEmpty h0
  by_cases h1 : 10 < s.size
  · have hn : Hid (numL s.data.toList = none) := by
      show _ = _
      unfold numL
      rw [if_pos (Or.inr (Or.inl (by rw [← Lib.size_eq]; exact h1)))]
    have g : (10 : Int) < s.size := by omega
    go_enter Tryd.func13, Tryd.ntmps13
    go_wp2
    go_ret2
    exact ⟨ret_num_none hn.out, rfl⟩
  by_cases h2 : ((s[0]'(by omega)).toNat : Int) = 48 ∧ 1 < s.size
  · have hn : Hid (numL s.data.toList = none) := by
      show _ = _
      unfold numL
      refine if_pos (Or.inr (Or.inr ⟨?_, by rw [← Lib.size_eq]; exact h2.2⟩))
      rw [data_head (by omega)]
      congr 1
      refine UInt8.toNat_inj.1 ?_
      have := h2.1
      simp only [UInt8.reduceToNat]
      omega
    have g : (s.size : Int) ≤ 10 := by omega
    obtain ⟨g1, g2⟩ := h2
    have g3 : (1 : Int) < s.size := by omega
    go_enter Tryd.func13, Tryd.ntmps13
    go_wp2
    go_ret2
    exact ⟨ret_num_none hn.out, rfl⟩
  · exact number_core s w (by omega) (by omega) (by omega)

set_option maxHeartbeats 1000000 in
theorem atom_any (s : ByteArray) (w : World) (hs : s.size ≤ 140737488355328) :
    Calls Tryd.prog 19 #[.string s] w fun e w' => e = .returned (.bool (atomL s.data.toList)) ∧ w = w' := by
  go_enter Tryd.func19, Tryd.ntmps19
  go_wp2_with fail
  go_loop [3] (fun i => ∃ k : Nat, k ≤ s.size ∧ Hid ((s.data.toList.take k).all atomB = true) ∧ i = .int .i64 k) (fun i => s.size - (intOf i).toNat)
  case atStart => exact ⟨0, by omega, rfl, rfl⟩
  case round =>
    obtain ⟨k, hk, hall, rfl⟩ := hrel
    by_cases hlt : k < s.size
    · have hl : k < s.data.toList.length := by rw [← Lib.size_eq]; exact hlt
      have hst := atomL_take_succ s.data.toList k hl
      rw [byte_get s k hlt] at hst
      have HST := Lib.hid hst
      clear hst
      have hi := atomB_iff s[k]
      cases hb : atomB s[k]
      · rw [hb] at hi
        have hno : Hid (atomL s.data.toList = false) := by
          show _ = _
          unfold atomL
          rw [Bool.and_eq_false_iff]
          left
          rw [List.all_eq_false]
          exact ⟨s[k], by rw [← byte_get s k hlt]; exact List.getElem_mem hl, by rw [hb]; decide⟩
        have hr : ((s[k].toNat : Int) < 33) ∨ ((33 : Int) ≤ s[k].toNat ∧ (126 : Int) < s[k].toNat) ∨ ((s[k].toNat : Int) = 40) ∨ ((s[k].toNat : Int) = 41) ∨ ((s[k].toNat : Int) = 123) ∨ ((s[k].toNat : Int) = 125) ∨ ((s[k].toNat : Int) = 37) ∨ ((s[k].toNat : Int) = 42) ∨ ((s[k].toNat : Int) = 34) ∨ ((s[k].toNat : Int) = 92) ∨ ((s[k].toNat : Int) = 93) := by
          have hno' := fun h => Bool.false_ne_true (hi.2 h)
          have hno'' : ¬ ((33 ≤ s[k].toNat ∧ s[k].toNat ≤ 126) ∧ ¬ (s[k].toNat = 40 ∨ s[k].toNat = 41 ∨ s[k].toNat = 123 ∨ s[k].toNat = 125 ∨ s[k].toNat = 37 ∨ s[k].toNat = 42 ∨ s[k].toNat = 34 ∨ s[k].toNat = 92 ∨ s[k].toNat = 93)) := hno'
          clear hno'
          omega
        clear hi hb HST
        rcases hr with h | ⟨h, h'⟩ | h | h | h | h | h | h | h | h | h
        all_goals
          go_wp2
          go_ret
          exact ⟨ret_bool hno.out.symm, rfl⟩
      · have hy := hi.1 hb
        have g1 : (33 : Int) ≤ s[k].toNat := by omega
        have g2 : (s[k].toNat : Int) ≤ 126 := by omega
        have b1 : ((s[k].toNat : Int) == 40) = false := by rw [beq_eq_false_iff_ne]; omega
        have b2 : ((s[k].toNat : Int) == 41) = false := by rw [beq_eq_false_iff_ne]; omega
        have b3 : ((s[k].toNat : Int) == 123) = false := by rw [beq_eq_false_iff_ne]; omega
        have b4 : ((s[k].toNat : Int) == 125) = false := by rw [beq_eq_false_iff_ne]; omega
        have b5 : ((s[k].toNat : Int) == 37) = false := by rw [beq_eq_false_iff_ne]; omega
        have b6 : ((s[k].toNat : Int) == 42) = false := by rw [beq_eq_false_iff_ne]; omega
        have b7 : ((s[k].toNat : Int) == 34) = false := by rw [beq_eq_false_iff_ne]; omega
        have b8 : ((s[k].toNat : Int) == 92) = false := by rw [beq_eq_false_iff_ne]; omega
        have b9 : ((s[k].toNat : Int) == 93) = false := by rw [beq_eq_false_iff_ne]; omega
        have HB := Lib.hid hb
        clear hi hy hb
        go_wp2
        go_round
        case rel =>
          refine ⟨k + 1, by omega, ?_, by go_num⟩
          show _ = _
          rw [HST.out, hall.out, HB.out]; rfl
        case measure => simp [intOf]; omega
    · have he : k = s.size := by omega
      subst he
      go_wp2
      go_ret
      refine ⟨ret_bool (b := atomL s.data.toList) ?_, rfl⟩
      have hfull : s.data.toList.all atomB = true := by
        have := hall.out
        rwa [List.take_of_length_le (by rw [← Lib.size_eq]; exact Nat.le_refl _)] at this
      unfold atomL
      rw [hfull, Lib.toList_data]; rfl
end Go.Proofs.YtjhhaepmlllfaaaDoor.R1
