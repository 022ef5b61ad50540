/-
  The document's answer for package word, as the statements have it: Bytes returns the text whose code points are the bytes of its text. Condition: the text has at most 2^30 bytes.
-/
import Derived.Test.YtlckhhdkjjfijaaDoorWdRRun
import Derived.Test.YtlckhhdkjjfijaaDoorU8Ref
import Derived.Test.YtlckhhdkjjfijaaDoorBuf
namespace Go.Proofs.YtlckhhdkjjfijaaDoor.Wd
open Go Go.RowKit Go.Joins Kit

theorem latin_take (s : ByteArray) (k : Nat) (h : k < s.size) : latinL (s.data.toList.take (k + 1)) = latinL (s.data.toList.take k) ++ U8.putL (s[k].toNat : Int) := by
  have hl : k < s.data.toList.length := by rw [← Lib.size_eq]; exact h
  rw [List.take_succ_eq_append_getElem hl, latin_app, byte_get s k h, latin_cons, latin_nil, List.append_nil]
theorem latin_room (s : ByteArray) (k : Nat) : (latinL (s.data.toList.take k)).length ≤ 2 * k := by
  have := latin_len (s.data.toList.take k)
  rw [List.length_take] at this
  omega
theorem putB_le (r : Int) : (U8.putB r).size ≤ 4 := by
  have := U8.sizeN_le r
  rw [Lib.size_eq]
  show (U8.putL r).length ≤ 4
  rw [U8.putL_length]; exact this

set_option maxHeartbeats 1000000 in
set_option maxRecDepth 100000 in
theorem bytes_any (s : ByteArray) (w : World) (hs : s.size ≤ 1099511627) :
    Calls Tryd.prog 40 #[.string s] w fun e w' => e = .returned (.string ⟨(latinL s.data.toList).toArray⟩) ∧ Below w.heap.size w w' := by
  have hB0 : Buf w (.slice none 0 0) (latinL (s.data.toList.take 0)) w := by
    rw [List.take_zero]; exact Buf.empty (Below.refl _ w)
  go_enter Tryd.func40, Tryd.ntmps40
  go_wp2_with fail
  go_loopw [3, 4] (fun v i wr => ∃ k : Nat, k ≤ s.size ∧ i = .int .i64 k ∧ Buf w v (latinL (s.data.toList.take k)) wr) (fun _ i _ => s.size - (intOf i).toNat)
  case atStart => exact ⟨0, by omega, rfl, hB0⟩
  case round =>
    clear hB0
    obtain ⟨k, hk, rfl, hB⟩ := hrel
    by_cases hlt : k < s.size
    · have gk : (k : Int) < (s.size : Int) := by omega
      have hr := latin_room s k
      have g0 := (s[k]).toNat_lt
      have hst := Lib.hid (latin_take s k hlt)
      have hp := putB_le (s[k].toNat : Int)
      obtain ⟨L, hL⟩ : ∃ L, latinL (s.data.toList.take k) = L := ⟨_, rfl⟩
      rw [hL] at hr hB hst
      have HL := Lib.hid hL
      clear hL
      go_wp2_with fail
      refine (U8.ref_put (s[k].toNat : Int) wr).mono ?_
      rintro e w2 ⟨rfl, hb2⟩
      have hB2 := hB.next hb2
      clear hB hb2
      obtain ⟨T, hT⟩ : ∃ T, U8.putB (s[k].toNat : Int) = T := ⟨_, rfl⟩
      have hTd : Hid (T.data.toList = U8.putL (s[k].toNat : Int)) := Lib.hid (by rw [← hT]; simp [U8.putB])
      rw [hT] at hp ⊢
      clear hT
      go_wp2_with (at_builtin; refine Buf.app_text rfl _ _ rfl w _ _ _ hB2 T rfl rfl ?room ?_)
      case room => omega
      intro v' w3 hB3
      rw [hTd.out, ← hst.out] at hB3
      go_wp2
      go_roundw
      case rel => exact ⟨k + 1, by omega, by go_num, hB3⟩
      case measure => simp [intOf]; omega
    · have gk : ¬ (k : Int) < (s.size : Int) := by omega
      rw [List.take_of_length_le (by rw [← Lib.size_eq]; omega)] at hB
      have hrun := hB.string
      have hb := hB.below
      clear hB
      go_wp2
      go_ret
      exact ⟨rfl, hb⟩
end Go.Proofs.YtlckhhdkjjfijaaDoor.Wd
