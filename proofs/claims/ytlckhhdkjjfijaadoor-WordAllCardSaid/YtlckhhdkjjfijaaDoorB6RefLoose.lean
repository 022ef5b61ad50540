/-
  The document's answer for package base64, as the statements have it: Loose returns what the program's does. Condition: the text has at most 2^30 bytes.
-/
import Derived.Test.YtlckhhdkjjfijaaDoorB6Ref
namespace Go.Proofs.YtlckhhdkjjfijaaDoor.B6
open Go Go.RowKit Go.Joins Kit

theorem ofNat_cell (x : Nat) : ((UInt8.ofNat x).toNat : Int) = (x : Int) % 256 := by simp
theorem sx_drop (s : ByteArray) (k : Nat) (h : k < s.size) (hne : s[k].toNat ≠ 61) : sx (s.data.toList.drop k) = (match val s[k] with | some v => v :: sx (s.data.toList.drop (k + 1)) | none => sx (s.data.toList.drop (k + 1))) := by
  have hl : k < s.data.toList.length := by rw [← Lib.size_eq]; exact h
  rw [List.drop_eq_getElem_cons hl, byte_get s k h, sx_cons, if_neg (fun e => hne (by rw [e]; rfl))]
  cases val s[k] <;> rfl
theorem sx_stop (s : ByteArray) (k : Nat) (h : s.size ≤ k ∨ ∃ h : k < s.size, s[k].toNat = 61) : sx (s.data.toList.drop k) = [] := by
  rcases h with h | ⟨h, h2⟩
  · rw [List.drop_of_length_le (by rw [← Lib.size_eq]; exact h)]; rfl
  · have hl : k < s.data.toList.length := by rw [← Lib.size_eq]; exact h
    rw [List.drop_eq_getElem_cons hl, byte_get s k h, sx_cons, if_pos (UInt8.toNat.inj h2)]
theorem runR_sx (s : List UInt8) : runR 0 0 (sx s) = looseL s := runR_unsix _ (vals_lt _)
set_option maxHeartbeats 4000000 in
set_option maxRecDepth 100000 in
theorem rloose_any (s : ByteArray) (w : World) (hs : s.size ≤ 1099511627) :
    Calls Tryd.prog 38 #[.string s] w fun e w' => e = .returned (.string ⟨(looseL s.data.toList).toArray⟩) ∧ Below w.heap.size w w' := by
  have hst : Hid ([] ++ runR 0 0 (sx (s.data.toList.drop 0)) = looseL s.data.toList) := by show _ = _; rw [List.drop_zero, runR_sx]; rfl
  have hB0 := Buf.empty (Below.refl w.heap.size w)
  go_enter Tryd.func38, Tryd.ntmps38
  go_wp2_with fail
  refine (alphabet_any w).mono ?_
  rintro e w' ⟨rfl, rfl⟩
  go_wp2_with fail
  go_loopw [4, 5, 6, 7] (fun u v m i wr => ∃ (k B n : Nat) (out : List UInt8), k ≤ s.size ∧ out.length + n ≤ k ∧ i = .int .i64 k ∧ v = .int .i64 B ∧ m = .int .i64 n ∧ (n = 0 ∨ n = 1 ∨ n = 2 ∨ n = 3) ∧ Hid (B < 64 ^ n) ∧ Hid (out ++ runR B n (sx (s.data.toList.drop k)) = looseL s.data.toList) ∧ Buf w u out wr) (fun _ _ _ i _ => s.size - (intOf i).toNat)
  case atStart => exact ⟨0, 0, 0, [], by omega, by simp, rfl, rfl, rfl, Or.inl rfl, (by show _ < _; decide), hst, hB0⟩
  case round =>
    clear hB0 hst
    obtain ⟨k, B, n, out, hk, ho, rfl, rfl, rfl, hn, hBd, hr, hB⟩ := hrel
    have hs0 : (0 : Int) ≤ s.size := by omega
    by_cases hlt : k < s.size
    · have g1 : (k : Int) < s.size := by omega
      by_cases h61 : s[k].toNat = 61
      · have hend : Hid (out ++ runR B n [] = looseL s.data.toList) := by show _ = _; rw [← hr.out, sx_stop s k (Or.inr ⟨hlt, h61⟩)]
        have g2 : ((s[k].toNat : Int) == 61) = true := by rw [h61]; rfl
        clear h61
        rcases hn with rfl | rfl | rfl | rfl
        · have hF : Hid (out = looseL s.data.toList) := by show _ = _; rw [← hend.out]; simp [runR]
          have hb := hB.below
          have hrun := hB.string
          go_wp2
          go_ret
          exact ⟨ret_str hF.out, hb⟩
        · have hF : Hid (out = looseL s.data.toList) := by show _ = _; rw [← hend.out]; simp [runR]
          have hb := hB.below
          have hrun := hB.string
          go_wp2
          go_ret
          exact ⟨ret_str hF.out, hb⟩
        · have gB : B ≤ 4095 := by have := hBd.out; simp at this; omega
          have hF : Hid (out ++ [UInt8.ofNat (B / 16)] = looseL s.data.toList) := by show _ = _; rw [← hend.out]; simp [runR]
          go_wp2_with (at_builtin; refine Buf.app rfl _ _ rfl w _ _ _ hB _ [UInt8.ofNat (B / 16)] 1 1 rfl ?da rfl rfl ?db ?_)
          case da => exact congrArg (fun x => [Value.int .u8 x]) (by rw [ofNat_nat (by omega)]; omega)
          case db => omega
          intro v2 w4 hB3
          have hb := hB3.below
          have hrun := hB3.string
          go_wp2
          go_ret
          exact ⟨ret_str hF.out, hb⟩
        · have gB : B ≤ 262143 := by have := hBd.out; simp at this; omega
          have hF : Hid (out ++ [UInt8.ofNat (B / 1024), UInt8.ofNat (B / 4)] = looseL s.data.toList) := by show _ = _; rw [← hend.out]; simp [runR]
          go_wp2_with (at_builtin; refine Buf.app rfl _ _ rfl w _ _ _ hB _ [UInt8.ofNat (B / 1024), UInt8.ofNat (B / 4)] 2 2 rfl ?ea rfl rfl ?eb ?_)
          case ea =>
            show _ = [Value.int .u8 ((UInt8.ofNat (B / 1024)).toNat : Int), .int .u8 ((UInt8.ofNat (B / 4)).toNat : Int)]
            rw [ofNat_cell, ofNat_cell, show (((B / 1024 : Nat) : Int) % 256) = (B : Int) / 1024 by omega, show (((B / 4 : Nat) : Int) % 256) = (B : Int) / 4 % 256 by omega]
          case eb => omega
          intro v2 w4 hB3
          have hb := hB3.below
          have hrun := hB3.string
          go_wp2
          go_ret
          exact ⟨ret_str hF.out, hb⟩
      · have hdr := sx_drop s k hlt h61
        have g2 : ((s[k].toNat : Int) == 61) = false := by rw [beq_eq_false_iff_ne]; omega
        clear h61
        cases hvv : val s[k] with
        | none =>
          have hnx : Hid (out ++ runR B n (sx (s.data.toList.drop (k + 1))) = looseL s.data.toList) := by show _ = _; rw [← hr.out, hdr, hvv]
          have HV := Lib.hid hvv
          clear hvv hdr
          go_wp2_with fail
          refine (find_none hlt HV.out wr).mono ?_
          rintro e w2 ⟨rfl, rfl⟩
          go_wp2
          go_roundw
          case rel => exact ⟨k + 1, B, n, out, by omega, by omega, by go_num, rfl, rfl, hn, hBd, hnx, hB⟩
          case measure => simp [intOf]; omega
        | some v =>
          have hv64 := val_lt hvv
          have HV := Lib.hid hvv
          have HST : Hid (sx (s.data.toList.drop k) = v :: sx (s.data.toList.drop (k + 1))) := by show _ = _; rw [hdr, hvv]
          clear hvv hdr
          rcases hn with rfl | rfl | rfl | rfl
          · have gB : B ≤ 0 := by have := hBd.out; simp at this; omega
            have e1 := or6 (B * 64 : Int) v (by omega) (by omega) (by omega) (by omega) (by omega)
            have hnx : Hid (out ++ runR (B * 64 + v) 1 (sx (s.data.toList.drop (k + 1))) = looseL s.data.toList) := by show _ = _; rw [← hr.out, HST.out, runR_next _ _ _ _ (by decide)]
            go_wp2_with fail
            refine (find_some hlt HV.out wr).mono ?_
            rintro e w2 ⟨rfl, rfl⟩
            go_wp2
            go_roundw
            case rel => exact ⟨k + 1, B * 64 + v, 1, out, by omega, by omega, by go_num, by go_num, by first | rfl | go_num, by omega, by show _ < _; simp; omega, hnx, hB⟩
            case measure => simp [intOf]; omega
          · have gB : B ≤ 63 := by have := hBd.out; simp at this; omega
            have e1 := or6 (B * 64 : Int) v (by omega) (by omega) (by omega) (by omega) (by omega)
            have hnx : Hid (out ++ runR (B * 64 + v) 2 (sx (s.data.toList.drop (k + 1))) = looseL s.data.toList) := by show _ = _; rw [← hr.out, HST.out, runR_next _ _ _ _ (by decide)]
            go_wp2_with fail
            refine (find_some hlt HV.out wr).mono ?_
            rintro e w2 ⟨rfl, rfl⟩
            go_wp2
            go_roundw
            case rel => exact ⟨k + 1, B * 64 + v, 2, out, by omega, by omega, by go_num, by go_num, by first | rfl | go_num, by omega, by show _ < _; simp; omega, hnx, hB⟩
            case measure => simp [intOf]; omega
          · have gB : B ≤ 4095 := by have := hBd.out; simp at this; omega
            have e1 := or6 (B * 64 : Int) v (by omega) (by omega) (by omega) (by omega) (by omega)
            have hnx : Hid (out ++ runR (B * 64 + v) 3 (sx (s.data.toList.drop (k + 1))) = looseL s.data.toList) := by show _ = _; rw [← hr.out, HST.out, runR_next _ _ _ _ (by decide)]
            go_wp2_with fail
            refine (find_some hlt HV.out wr).mono ?_
            rintro e w2 ⟨rfl, rfl⟩
            go_wp2
            go_roundw
            case rel => exact ⟨k + 1, B * 64 + v, 3, out, by omega, by omega, by go_num, by go_num, by first | rfl | go_num, by omega, by show _ < _; simp; omega, hnx, hB⟩
            case measure => simp [intOf]; omega
          · have gB : B ≤ 262143 := by have := hBd.out; simp at this; omega
            have e1 := or6 (B * 64 : Int) v (by omega) (by omega) (by omega) (by omega) (by omega)
            obtain ⟨X, hX⟩ : ∃ X : Nat, B * 64 + v = X := ⟨_, rfl⟩
            have hXi : (B : Int) * 64 + v = X := by omega
            have gX : X ≤ 16777215 := by omega
            have hnx : Hid ((out ++ [UInt8.ofNat (X / 65536), UInt8.ofNat (X / 256), UInt8.ofNat X]) ++ runR 0 0 (sx (s.data.toList.drop (k + 1))) = looseL s.data.toList) := by show _ = _; rw [← hr.out, HST.out, runR_three, hX, List.append_assoc]; rfl
            rw [hXi] at e1
            clear hX hXi
            go_wp2_with fail
            refine (find_some hlt HV.out wr).mono ?_
            rintro e w2 ⟨rfl, rfl⟩
            go_wp2_with (at_builtin; refine Buf.app rfl _ _ rfl w _ _ _ hB _ [UInt8.ofNat (X / 65536), UInt8.ofNat (X / 256), UInt8.ofNat X] 3 3 rfl ?ca rfl rfl ?cb ?_)
            case ca =>
              show _ = [Value.int .u8 ((UInt8.ofNat (X / 65536)).toNat : Int), .int .u8 ((UInt8.ofNat (X / 256)).toNat : Int), .int .u8 ((UInt8.ofNat X).toNat : Int)]
              rw [ofNat_cell, ofNat_cell, ofNat_cell, show (((X / 65536 : Nat) : Int) % 256) = (X : Int) / 65536 by omega, show (((X / 256 : Nat) : Int) % 256) = (X : Int) / 256 % 256 by omega]
            case cb => omega
            intro v2 w4 hB3
            go_wp2
            go_roundw
            case rel => exact ⟨k + 1, 0, 0, _, by omega, by rw [List.length_append]; show out.length + 3 ≤ _; omega, by go_num, by go_num, by go_num, by omega, by show _ < _; simp, hnx, hB3⟩
            case measure => simp [intOf]; omega
    · have hend : Hid (out ++ runR B n [] = looseL s.data.toList) := by show _ = _; rw [← hr.out, sx_stop s k (Or.inl (by omega))]
      have g1 : ¬ (k : Int) < s.size := by omega
      rcases hn with rfl | rfl | rfl | rfl
      · have hF : Hid (out = looseL s.data.toList) := by show _ = _; rw [← hend.out]; simp [runR]
        have hb := hB.below
        have hrun := hB.string
        go_wp2
        go_ret
        exact ⟨ret_str hF.out, hb⟩
      · have hF : Hid (out = looseL s.data.toList) := by show _ = _; rw [← hend.out]; simp [runR]
        have hb := hB.below
        have hrun := hB.string
        go_wp2
        go_ret
        exact ⟨ret_str hF.out, hb⟩
      · have gB : B ≤ 4095 := by have := hBd.out; simp at this; omega
        have hF : Hid (out ++ [UInt8.ofNat (B / 16)] = looseL s.data.toList) := by show _ = _; rw [← hend.out]; simp [runR]
        go_wp2_with (at_builtin; refine Buf.app rfl _ _ rfl w _ _ _ hB _ [UInt8.ofNat (B / 16)] 1 1 rfl ?fa rfl rfl ?fb ?_)
        case fa => exact congrArg (fun x => [Value.int .u8 x]) (by rw [ofNat_nat (by omega)]; omega)
        case fb => omega
        intro v2 w4 hB3
        have hb := hB3.below
        have hrun := hB3.string
        go_wp2
        go_ret
        exact ⟨ret_str hF.out, hb⟩
      · have gB : B ≤ 262143 := by have := hBd.out; simp at this; omega
        have hF : Hid (out ++ [UInt8.ofNat (B / 1024), UInt8.ofNat (B / 4)] = looseL s.data.toList) := by show _ = _; rw [← hend.out]; simp [runR]
        go_wp2_with (at_builtin; refine Buf.app rfl _ _ rfl w _ _ _ hB _ [UInt8.ofNat (B / 1024), UInt8.ofNat (B / 4)] 2 2 rfl ?ga rfl rfl ?gb ?_)
        case ga =>
          show _ = [Value.int .u8 ((UInt8.ofNat (B / 1024)).toNat : Int), .int .u8 ((UInt8.ofNat (B / 4)).toNat : Int)]
          rw [ofNat_cell, ofNat_cell, show (((B / 1024 : Nat) : Int) % 256) = (B : Int) / 1024 by omega, show (((B / 4 : Nat) : Int) % 256) = (B : Int) / 4 % 256 by omega]
        case gb => omega
        intro v2 w4 hB3
        have hb := hB3.below
        have hrun := hB3.string
        go_wp2
        go_ret
        exact ⟨ret_str hF.out, hb⟩
end Go.Proofs.YtlckhhdkjjfijaaDoor.B6
