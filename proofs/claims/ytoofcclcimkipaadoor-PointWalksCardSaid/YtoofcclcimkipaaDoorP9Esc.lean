/-
  The statements' own escape: a key in a path. Condition: the key has at most 300000 bytes.
-/
import Derived.Test.YtoofcclcimkipaaDoorP9WayP
import Derived.Test.YtoofcclcimkipaaDoorBuf
namespace Go.Proofs.YtoofcclcimkipaaDoor.J9
open Go Go.RowKit Go.Joins Kit J7 J8

theorem byte_ne9' {c d : UInt8} (h : c ≠ d) : ((c.toNat : Int) == (d.toNat : Int)) = false := by rw [beq_eq_false_iff_ne]; exact fun e => h (byte_eq e)
theorem esc_step (s : ByteArray) (k : Nat) (h : k < s.size) : escL (s.data.toList.take (k + 1)) = escL (s.data.toList.take k) ++ escB s[k] := by
  have hl : k < s.data.toList.length := by rw [← Lib.size_eq]; exact h
  rw [List.take_succ_eq_append_getElem hl, escL_snoc, byte_get s k h]
set_option maxHeartbeats 2000000 in
set_option maxRecDepth 100000 in
theorem escape9 (s : ByteArray) (hs : s.size ≤ 300000) (w : World) :
    Calls Tryd.prog 15 #[.string s] w fun e w' => e = .returned (.string ⟨(escL s.data.toList).toArray⟩) ∧ Below w.heap.size w w' := by
  have hB0 := Buf.empty (Below.refl w.heap.size w)
  go_enter Tryd.func15, Tryd.ntmps15
  go_wp2_with fail
  go_loopg [3, 4] s.size (fun m u i wr => ∃ (k : Nat) (out : List UInt8), m = s.size - k ∧ k ≤ s.size ∧ out.length ≤ 2 * k ∧ i = .int .i64 k ∧ Hid (out = escL (s.data.toList.take k)) ∧ Buf w u out wr)
  case atStart => exact ⟨0, [], rfl, Nat.zero_le _, Nat.le_refl _, rfl, Lib.hid rfl, hB0⟩
  case round =>
    clear hB0
    obtain ⟨k, out, rfl, hk, ho, rfl, HO, hB⟩ := hrel
    by_cases hlt : k < s.size
    · have g1 : (k : Int) < s.size := by omega
      have hst := esc_step s k hlt
      rw [← HO.out] at hst
      unfold escB at hst
      by_cases h1 : s[k] = 126
      · rw [if_pos h1] at hst
        have HST := Lib.hid hst
        have g2 : ((s[k].toNat : Int) == 126) = true := by rw [h1]; rfl
        clear hst h1 HO
        go_wp2_with (at_builtin; refine Buf.app_text rfl _ _ rfl w _ _ _ hB { data := #[126, 48] } rfl rfl ?ra ?_)
        case ra => show out.length + 2 ≤ _; omega
        intro v2 w2 hB2
        go_wp2_with fail
        go_roundg (s.size - (k + 1))
        case measure => omega
        case rel => exact ⟨k + 1, _, rfl, by omega, by rw [List.length_append]; show out.length + 2 ≤ _; omega, by go_num, Lib.hid HST.out.symm, hB2⟩
      · rw [if_neg h1] at hst
        have g2 : ((s[k].toNat : Int) == 126) = false := byte_ne9' h1
        by_cases h2 : s[k] = 47
        · rw [if_pos h2] at hst
          have HST := Lib.hid hst
          have g3 : ((s[k].toNat : Int) == 47) = true := by rw [h2]; rfl
          clear hst h1 h2 HO
          go_wp2_with (at_builtin; refine Buf.app_text rfl _ _ rfl w _ _ _ hB { data := #[126, 49] } rfl rfl ?rb ?_)
          case rb => show out.length + 2 ≤ _; omega
          intro v2 w2 hB2
          go_wp2_with fail
          go_roundg (s.size - (k + 1))
          case measure => omega
          case rel => exact ⟨k + 1, _, rfl, by omega, by rw [List.length_append]; show out.length + 2 ≤ _; omega, by go_num, Lib.hid HST.out.symm, hB2⟩
        · rw [if_neg h2] at hst
          have HST := Lib.hid hst
          have g3 : ((s[k].toNat : Int) == 47) = false := byte_ne9' h2
          clear hst h1 h2 HO
          go_wp2_with (at_builtin; refine Buf.app rfl _ _ rfl w _ _ _ hB _ [s[k]] 1 1 rfl ?ca rfl rfl ?cb ?_)
          case ca => rfl
          case cb => omega
          intro v2 w2 hB2
          go_wp2_with fail
          go_roundg (s.size - (k + 1))
          case measure => omega
          case rel => exact ⟨k + 1, _, rfl, by omega, by rw [List.length_append]; show out.length + 1 ≤ _; omega, by go_num, Lib.hid HST.out.symm, hB2⟩
    · have he : k = s.size := by omega
      have HF : Hid (out = escL s.data.toList) := Lib.hid (by rw [HO.out, he, List.take_of_length_le (by rw [← Lib.size_eq]; exact Nat.le_refl _)])
      have g1 : ¬ (k : Int) < (s.size : Int) := by omega
      have hb := hB.below
      have hrun := hB.string
      clear HO
      go_wp2

      go_ret
      rw [HF.out]
      exact ⟨rfl, hb⟩
end Go.Proofs.YtoofcclcimkipaaDoor.J9
