/-
  The document's answer for package base64, as the statements have it: letters and Encode64 return what Encode does. Condition: the text has at most 2^30 bytes.
-/
import Derived.Test.YtcakcpnmbclieaaDoorB6Ref
namespace Go.Proofs.YtcakcpnmbclieaaDoor.B6
open Go Go.RowKit Go.Joins Kit

theorem chunk_step (s : ByteArray) (a : Nat) (h : a % 3 = 0) (hlt : a < s.size) (c : List UInt8) (hc : (s.data.toList.drop a).take 3 = c) :
    letL (s.data.toList.take (a + 3)) = letL (s.data.toList.take a) ++ (quadL c).take (c.length + 1) ∧ 1 ≤ c.length ∧ c.length ≤ 3 ∧ c.length = min 3 (s.size - a) := by
  have hl : s.data.toList.length = s.size := (Lib.size_eq s).symm
  have hn : c.length = min 3 (s.size - a) := by rw [← hc, List.length_take, List.length_drop, hl]
  have h1 : 1 ≤ c.length := by omega
  have h3 : c.length ≤ 3 := by omega
  refine ⟨?_, h1, h3, hn⟩
  rw [List.take_add, letL_append _ _ (by rw [List.length_take, hl]; omega), hc, (enc_quad _ h1 h3).2]
theorem chunk_at (s : ByteArray) (a k : Nat) (c : List UInt8) (hc : (s.data.toList.drop a).take 3 = c) (hk : k < c.length) : ∃ h : a + k < s.size, c.getD k 0 = s[a + k] := by
  subst hc
  have hl : s.data.toList.length = s.size := (Lib.size_eq s).symm
  have hk2 := hk
  rw [List.length_take, List.length_drop, hl] at hk2
  refine ⟨by omega, ?_⟩
  rw [List.getD_eq_getElem?_getD, List.getElem?_eq_getElem hk, Option.getD_some, List.getElem_take, List.getElem_drop, byte_get s (a + k) (by omega)]
theorem chunk_end (c : List UInt8) (k : Nat) (hk : c.length ≤ k) : c.getD k 0 = 0 := by
  rw [List.getD_eq_getElem?_getD, List.getElem?_eq_none hk]
  rfl
theorem let_zero (l : List UInt8) : letL (l.take 0) = [] := by simp [letL, six]

set_option maxHeartbeats 4000000 in
set_option maxRecDepth 100000 in
theorem letters_any (s : ByteArray) (w : World) (hs : s.size ≤ 1099511627) :
    Calls Tryd.prog 25 #[.string s] w fun e w' => e = .returned (.string ⟨(letL s.data.toList).toArray⟩) ∧ Below w.heap.size w w' := by
  have hlen := Lib.hid (Lib.size_eq s)
  have hB0 : Buf w (.slice none 0 0) (letL (s.data.toList.take 0)) w := by rw [let_zero]; exact Buf.empty (Below.refl _ w)
  go_enter Tryd.func25, Tryd.ntmps25
  go_wp2_with fail
  refine (alphabet_any w).mono ?_
  rintro e w' ⟨rfl, rfl⟩
  have hal := Lib.hid alphaB_get
  have hal64 : 64 ≤ alphaB.size := Nat.le_of_eq alphaB_size.symm
  generalize alphaB = al at hal hal64 ⊢
  go_wp2_with fail
  go_loopw [4, 5] (fun v i wr => ∃ a : Nat, a % 3 = 0 ∧ a ≤ s.size + 2 ∧ i = .int .i64 a ∧ Buf w v (letL (s.data.toList.take a)) wr) (fun _ i _ => s.size + 3 - (intOf i).toNat)
  case atStart => exact ⟨0, rfl, by omega, rfl, hB0⟩
  case round =>
    clear hB0
    obtain ⟨a, ha3, ha, rfl, hB⟩ := hrel
    have hlen0 : (letL (s.data.toList.take a)).length ≤ 1099511627776 := by
      rw [letL_length, List.length_take, ← hlen.out]
      omega
    by_cases hlt : a < s.size
    · have g1 : (a : Int) < s.size := by omega
      obtain ⟨c, hc⟩ : ∃ c, (s.data.toList.drop a).take 3 = c := ⟨_, rfl⟩
      obtain ⟨hst, c1, c3, cn⟩ := chunk_step s a ha3 hlt c hc
      obtain ⟨nn, hnn⟩ : ∃ nn, c.length = nn := ⟨_, rfl⟩
      have gm : min (3 : Int) ((s.size : Int) - a) = (nn : Int) := by omega
      have n1 : 1 ≤ nn := by omega
      have n3 : nn ≤ 3 := by omega
      have HST := Lib.hid hst
      have HCL := Lib.hid hnn
      have HC := Lib.hid hc
      have HGM := Lib.hid gm
      clear hst hnn hc cn c1 c3 gm
      have gm := HGM.out
      go_wp2_with fail
      clear gm
      go_loop [7, 8] (fun v i => ∃ k : Nat, k ≤ 3 ∧ i = .int .i64 k ∧ v = .int .i64 (bitsL c k : Nat)) (fun _ i => 3 - (intOf i).toNat)
      case atStart => exact ⟨0, by omega, rfl, rfl⟩
      case round =>
        obtain ⟨k, hk, rfl, rfl⟩ := hrel
        by_cases hlk : k < 3
        · have g2 : (k : Int) < 3 := by omega
          have hv := bitsL_le c k hk
          by_cases hkn : k < nn
          · obtain ⟨hak, hg⟩ := chunk_at s a k c HC.out (by rw [HCL.out]; exact hkn)
            have hnx : Hid (bitsL c (k + 1) = bitsL c k * 256 + s[a + k].toNat) := by show _ = _; rw [bitsL, hg]
            have hc8 := s[a + k].toNat_lt
            have e1 := or8 (bitsL c k * 256 : Int) (s[a + k].toNat) (by omega) (by omega) (by omega) (by omega) (by omega)
            have g3 : (k : Int) < nn := by omega
            clear hg
            go_wp2
            go_round
            case rel => exact ⟨k + 1, by omega, by go_num, by rw [hnx.out]; go_num⟩
            case measure => simp [intOf]; omega
          · have hnx : Hid (bitsL c (k + 1) = bitsL c k * 256) := by show _ = _; rw [bitsL, chunk_end c k (by rw [HCL.out]; omega)]; rfl
            have g3 : ¬ (k : Int) < nn := by omega
            go_wp2
            go_round
            case rel => exact ⟨k + 1, by omega, by go_num, by rw [hnx.out]; go_num⟩
            case measure => simp [intOf]; omega
        · have he : k = 3 := by omega
          subst he
          have hv := bitsL_le c 3 hk
          obtain ⟨v, hv'⟩ : ∃ v, bitsL c 3 = v := ⟨_, rfl⟩
          rw [hv'] at hv ⊢
          have HV := Lib.hid hv'
          have hB1 : Buf w u4 (letL (s.data.toList.take a) ++ (quadL c).take 0) wr := by simpa using hB
          clear hv' hlk hk
          go_wp2_with fail
          go_loopw [4, 9] (fun u i wx => ∃ k : Nat, k ≤ nn + 1 ∧ k ≤ 4 ∧ i = .int .i64 k ∧ Buf w u (letL (s.data.toList.take a) ++ (quadL c).take k) wx) (fun _ i _ => 4 - (intOf i).toNat)
          case atStart => exact ⟨0, by omega, by omega, rfl, hB1⟩
          case round =>
            obtain ⟨k, hk, hk4, rfl, hB2⟩ := hrel
            clear hB1
            by_cases hkn : k ≤ nn
            · have hql : ((quadL c).take k).length ≤ 4 := by rw [List.length_take]; exact Nat.le_trans (Nat.min_le_right _ _) (Nat.le_refl 4)
              obtain ⟨L, hL⟩ : ∃ L, letL (s.data.toList.take a) ++ (quadL c).take k = L := ⟨_, rfl⟩
              have hLl : L.length ≤ 2199023255552 := by rw [← hL, List.length_append]; omega
              rw [hL] at hB2
              have HL := Lib.hid hL
              clear hL hql
              rcases (show k = 0 ∨ k = 1 ∨ k = 2 ∨ k = 3 by omega) with rfl | rfl | rfl | rfl
              · have hsg : Hid (signL c 0 = sg (v / 262144 % 64)) := sign_at HV.out (by rw [HCL.out]; omega) (by rw [show 64 ^ (3 - 0) = 262144 from rfl])
                have hnx : Hid (letL (s.data.toList.take a) ++ (quadL c).take (0 + 1) = L ++ [signL c 0]) := by show _ = _; rw [← HL.out, quadL_get c 0 (by decide), List.append_assoc]
                have ea := and63 ((v : Int) / 262144) (by omega) (by omega)
                have gk : (0 : Int) ≤ (nn : Int) := by omega
                go_wp2_with (at_builtin; refine Buf.app rfl _ _ rfl w _ _ _ hB2 _ [signL c 0] 1 1 rfl ?pa0 rfl rfl ?pb0 ?_)
                case pa0 => rw [hsg.out, ← hal.out _ (by omega)]; rfl
                case pb0 => omega
                intro v2 w4 hB3
                rw [← hnx.out] at hB3
                go_wp2
                go_roundw
                case rel => exact ⟨1, by omega, by omega, rfl, hB3⟩
                case measure => simp [intOf]
              · have hsg : Hid (signL c 1 = sg (v / 4096 % 64)) := sign_at HV.out (by rw [HCL.out]; omega) (by rw [show 64 ^ (3 - 1) = 4096 from rfl])
                have hnx : Hid (letL (s.data.toList.take a) ++ (quadL c).take (1 + 1) = L ++ [signL c 1]) := by show _ = _; rw [← HL.out, quadL_get c 1 (by decide), List.append_assoc]
                have ea := and63 ((v : Int) / 4096) (by omega) (by omega)
                have gk : (1 : Int) ≤ (nn : Int) := by omega
                go_wp2_with (at_builtin; refine Buf.app rfl _ _ rfl w _ _ _ hB2 _ [signL c 1] 1 1 rfl ?pa1 rfl rfl ?pb1 ?_)
                case pa1 => rw [hsg.out, ← hal.out _ (by omega)]; rfl
                case pb1 => omega
                intro v2 w4 hB3
                rw [← hnx.out] at hB3
                go_wp2
                go_roundw
                case rel => exact ⟨2, by omega, by omega, rfl, hB3⟩
                case measure => simp [intOf]
              · have hsg : Hid (signL c 2 = sg (v / 64 % 64)) := sign_at HV.out (by rw [HCL.out]; omega) (by rw [show 64 ^ (3 - 2) = 64 from rfl])
                have hnx : Hid (letL (s.data.toList.take a) ++ (quadL c).take (2 + 1) = L ++ [signL c 2]) := by show _ = _; rw [← HL.out, quadL_get c 2 (by decide), List.append_assoc]
                have ea := and63 ((v : Int) / 64) (by omega) (by omega)
                have gk : (2 : Int) ≤ (nn : Int) := by omega
                go_wp2_with (at_builtin; refine Buf.app rfl _ _ rfl w _ _ _ hB2 _ [signL c 2] 1 1 rfl ?pa2 rfl rfl ?pb2 ?_)
                case pa2 => rw [hsg.out, ← hal.out _ (by omega)]; rfl
                case pb2 => omega
                intro v2 w4 hB3
                rw [← hnx.out] at hB3
                go_wp2
                go_roundw
                case rel => exact ⟨3, by omega, by omega, rfl, hB3⟩
                case measure => simp [intOf]
              · have hsg : Hid (signL c 3 = sg (v % 64)) := sign_at HV.out (by rw [HCL.out]; omega) (by rw [show 64 ^ (3 - 3) = 1 from rfl]; omega)
                have hnx : Hid (letL (s.data.toList.take a) ++ (quadL c).take (3 + 1) = L ++ [signL c 3]) := by show _ = _; rw [← HL.out, quadL_get c 3 (by decide), List.append_assoc]
                have ea := and63 ((v : Int)) (by omega) (by omega)
                have gk : (3 : Int) ≤ (nn : Int) := by omega
                go_wp2_with (at_builtin; refine Buf.app rfl _ _ rfl w _ _ _ hB2 _ [signL c 3] 1 1 rfl ?pa3 rfl rfl ?pb3 ?_)
                case pa3 => rw [hsg.out, ← hal.out _ (by omega)]; rfl
                case pb3 => omega
                intro v2 w4 hB3
                rw [← hnx.out] at hB3
                go_wp2
                go_roundw
                case rel => exact ⟨4, by omega, by omega, rfl, hB3⟩
                case measure => simp [intOf]
            · have hkk : k = nn + 1 := by omega
              have g4 : ¬ (k : Int) ≤ nn := by omega
              have hB4 := hB2
              rw [hkk, ← HCL.out, ← HST.out] at hB4
              clear hB2 hkk
              go_wp2
              go_roundw
              case rel => exact ⟨a + 3, by omega, by omega, by go_num, hB4⟩
              case measure => simp [intOf]; omega
    · rw [List.take_of_length_le (by rw [← hlen.out]; omega)] at hB
      have g1 : ¬ (a : Int) < s.size := by omega
      have hb := hB.below
      have hrun := hB.string
      clear hB
      go_wp2
      go_ret
      exact ⟨rfl, hb⟩
end Go.Proofs.YtcakcpnmbclieaaDoor.B6
