/-
  The document's answer for package quoted, as the statements have it: half returns a digit's value, or -1; Quoted returns what Encode does. Condition: the text has at most 2^30 bytes.
-/
import Derived.Test.YtdfjkncfbcmleaaQ4Laws
import Derived.Test.YtdfjkncfbcmleaaBuf2
namespace Go.Proofs.Ytdfjkncfbcmleaa.Q4
open Go Go.RowKit Go.Joins Kit Srch

theorem hv_not {c : UInt8} (h : ¬ (48 ≤ c.toNat ∧ c.toNat ≤ 57) ∧ ¬ (97 ≤ c.toNat ∧ c.toNat ≤ 102) ∧ ¬ (65 ≤ c.toNat ∧ c.toNat ≤ 70)) : hv c = -1 := by
  apply hv_none
  unfold hx hxN
  rw [if_neg h.1, if_neg h.2.1, if_neg h.2.2]
theorem hv_d {c : UInt8} (h : 48 ≤ c.toNat ∧ c.toNat ≤ 57) : hv c = (c.toNat : Int) - 48 := by
  have e : hx c = some (c.toNat - 48) := by unfold hx hxN; rw [if_pos h]
  rw [hv_some e]
  omega
theorem hv_l {c : UInt8} (h : 97 ≤ c.toNat ∧ c.toNat ≤ 102) : hv c = (c.toNat : Int) - 87 := by
  have e : hx c = some (c.toNat - 87) := by unfold hx hxN; rw [if_neg (by omega), if_pos h]
  rw [hv_some e]
  omega
theorem hv_u {c : UInt8} (h : 65 ≤ c.toNat ∧ c.toNat ≤ 70) : hv c = (c.toNat : Int) - 55 := by
  have e : hx c = some (c.toNat - 55) := by unfold hx hxN; rw [if_neg (by omega), if_neg (by omega), if_pos h]
  rw [hv_some e]
  omega
theorem half_any (c : UInt8) (w : World) :
    Calls Try.prog 21 #[.int .u8 (c.toNat : Int)] w fun e w' => e = .returned (.int .i64 (hv c)) ∧ w = w' := by
  have hc := c.toNat_lt
  rcases (show c.toNat < 48 ∨ (48 ≤ c.toNat ∧ c.toNat ≤ 57) ∨ (57 < c.toNat ∧ c.toNat < 65) ∨ (65 ≤ c.toNat ∧ c.toNat ≤ 70) ∨ (70 < c.toNat ∧ c.toNat < 97) ∨ (97 ≤ c.toNat ∧ c.toNat ≤ 102) ∨ 102 < c.toNat by omega) with h | h | h | h | h | h | h
  · have hd := Lib.hid (hv_not (c := c) (by omega))
    have g0 : (c.toNat : Int) < 48 := by omega
    clear h
    go_enter Try.func21, Try.ntmps21
    go_wp2
    go_ret
    exact ⟨ret_int (by rw [hd.out] <;> omega), rfl⟩
  · have hd := Lib.hid (hv_d (c := c) (by omega))
    have g0 : 48 ≤ (c.toNat : Int) := by omega
    have g1 : (c.toNat : Int) ≤ 57 := by omega
    clear h
    go_enter Try.func21, Try.ntmps21
    go_wp2
    go_ret
    exact ⟨ret_int (by rw [hd.out] <;> omega), rfl⟩
  · have hd := Lib.hid (hv_not (c := c) (by omega))
    have g0 : 57 < (c.toNat : Int) := by omega
    have g1 : (c.toNat : Int) < 65 := by omega
    clear h
    go_enter Try.func21, Try.ntmps21
    go_wp2
    go_ret
    exact ⟨ret_int (by rw [hd.out] <;> omega), rfl⟩
  · have hd := Lib.hid (hv_u (c := c) (by omega))
    have g0 : 65 ≤ (c.toNat : Int) := by omega
    have g1 : (c.toNat : Int) ≤ 70 := by omega
    clear h
    go_enter Try.func21, Try.ntmps21
    go_wp2
    go_ret
    exact ⟨ret_int (by rw [hd.out] <;> omega), rfl⟩
  · have hd := Lib.hid (hv_not (c := c) (by omega))
    have g0 : 70 < (c.toNat : Int) := by omega
    have g1 : (c.toNat : Int) < 97 := by omega
    clear h
    go_enter Try.func21, Try.ntmps21
    go_wp2
    go_ret
    exact ⟨ret_int (by rw [hd.out] <;> omega), rfl⟩
  · have hd := Lib.hid (hv_l (c := c) (by omega))
    have g0 : 97 ≤ (c.toNat : Int) := by omega
    have g1 : (c.toNat : Int) ≤ 102 := by omega
    clear h
    go_enter Try.func21, Try.ntmps21
    go_wp2
    go_ret
    exact ⟨ret_int (by rw [hd.out] <;> omega), rfl⟩
  · have hd := Lib.hid (hv_not (c := c) (by omega))
    have g0 : 102 < (c.toNat : Int) := by omega
    clear h
    go_enter Try.func21, Try.ntmps21
    go_wp2
    go_ret
    exact ⟨ret_int (by rw [hd.out] <;> omega), rfl⟩

theorem _root_.Go.Proofs.Ytdfjkncfbcmleaa.Buf.keeps {W0 w0 w w' : World} {v : Value} {l : List UInt8} {b : Nat} {o : Obj} (hB : Buf W0 v l w0) (hle : w0.heap.size ≤ b) (h : w.heap[b]? = some o) (hg : w.grownBy w' v.ownBlock) : w'.heap[b]? = some o := by
  have hlt : b < w.heap.size := (Array.getElem?_eq_some_iff.1 h).1
  rw [hg.block b hlt (fun e => by have := hB.lt_of e.symm; omega)]
  exact h

theorem flat_in {n : Nat} (h : flatB n = true) : 33 ≤ n ∧ n ≤ 126 ∧ n ≠ 61 := by
  unfold flatB at h
  simp only [Bool.and_eq_true, decide_eq_true_eq, bne_iff_ne] at h
  omega
theorem flat_out {n : Nat} (h : flatB n = false) : n ≤ 32 ∨ 126 < n ∨ n = 61 := by
  unfold flatB at h
  by_cases h1 : 32 < n
  · by_cases h2 : n ≤ 126
    · simp [h1, h2] at h
      omega
    · omega
  · omega
set_option maxHeartbeats 4000000 in
set_option maxRecDepth 100000 in
theorem quoted_any (s : ByteArray) (w : World) (hs : s.size ≤ 1099511627) :
    Calls Try.prog 9 #[.string s] w fun e w' => e = .returned (.string (quoB s)) ∧ Below w.heap.size w w' := by
  have hB0 : Buf w (.slice none 0 0) [] w := Buf.empty (Below.refl _ w)
  have hend0 : Hid (quoL 0 s.data.toList = (quoB s).data.toList) := by show _ = _; rw [quoB_data]
  go_enter Try.func9, Try.ntmps9
  go_wp2_with fail
  go_loopw [3, 4, 5] (fun v m i wr => ∃ (k n : Nat) (out : List UInt8), k ≤ s.size ∧ n ≤ 75 ∧ out.length ≤ 6 * k ∧ i = .int .i64 k ∧ m = .int .i64 n ∧ Hid (out ++ quoL n (s.data.toList.drop k) = quoL 0 s.data.toList) ∧ Buf w v out wr) (fun _ _ i _ => s.size - (intOf i).toNat)
  case atStart => exact ⟨0, 0, [], by omega, by omega, Nat.le_refl _, rfl, rfl, rfl, hB0⟩
  case round =>
    clear hB0
    obtain ⟨k, n, out, hk, hn, hol, rfl, rfl, hq, hB⟩ := hrel
    by_cases hlt : k < s.size
    · have g1 : (k : Int) < s.size := by omega
      have hc8 := s[k].toNat_lt
      cases hf : flatB s[k].toNat with
      | true =>
        have hst := Lib.hid (quo_step s k n hlt out _ [s[k]] (piece_flat _ hf) hq.out)
        have hfl := flat_in hf
        have q0 : (33 : Int) ≤ s[k].toNat := by omega
        have q1 : (s[k].toNat : Int) ≤ 126 := by omega
        have q2 : ((s[k].toNat : Int) == 61) = false := by rw [beq_eq_false_iff_ne]; omega
        clear hf hfl
        have hBp := hB.allocB (.cells #[.int .u8 (s[k].toNat : Int)] 5)
        have hblk := Bld.new_one wr (.int .u8 (s[k].toNat : Int)) 5
        have hle := Nat.le_refl wr.heap.size
        go_upto_region 10 with fail
        by_cases hx : 75 < n + 1
        · have hbr := Lib.hid (show brk n 1 = [61, 13, 10] ∧ fill n 1 = 1 by unfold brk fill; rw [if_pos hx, if_pos hx]; exact ⟨rfl, rfl⟩)
          have q9 : (75 : Int) < n + 1 := by omega
          clear hx
          go_wp2_with (at_builtin; refine Buf.app_at rfl _ _ rfl w _ _ out (hBp.allocB _) [61, 13, 10] 3 3 (wr.heap.size + 1) _ (0, 0) rfl (by decide) rfl (Bld.at_size (by simp)) rfl rfl ?la ?_)
          case la => omega
          intro g1 c1 w1 hB1 hg1 hat1
          have hk1 := Buf.keeps hB hle (Bld.old_one hblk _) hg1
          obtain ⟨L1, hL1⟩ : ∃ L, out ++ [61, 13, 10] = L := ⟨_, rfl⟩
          rw [hL1] at hB1
          have hl1 : L1.length = out.length + 3 := by rw [← hL1, List.length_append]; rfl
          have HL1 := Lib.hid hL1
          clear hL1
          clear hBp hat1 hg1
          go_wp2_with (at_builtin; refine Buf.app_at rfl _ _ rfl w _ _ _ hB1 [s[k]] 1 1 _ _ (0, 0) rfl (by decide) ?lc hk1 rfl rfl ?ld ?_)
          case lc => rfl
          case ld => omega
          intro g2 c2 w2 hB2 _ _
          obtain ⟨L, hL⟩ : ∃ L, L1 ++ [s[k]] = L := ⟨_, rfl⟩
          rw [hL] at hB2
          have hLl : L.length = L1.length + 1 := by rw [← hL, List.length_append]; rfl
          have hnx := Lib.hid (show L ++ quoL 1 (s.data.toList.drop (k + 1)) = quoL 0 s.data.toList by
            have := hst.out
            rwa [show [s[k]].length = 1 from rfl, hbr.out.1, hbr.out.2, ← List.append_assoc out, HL1.out, hL] at this)
          clear hL
          have hb2 := hB2.below
          go_wp2
          go_roundw
          case rel => exact ⟨k + 1, 1, L, by omega, by omega, by omega, by go_num, by go_num, hnx, hB2⟩
          case measure => simp [intOf]; omega
        · have hbr := Lib.hid (show brk n 1 = [] ∧ fill n 1 = n + 1 by unfold brk fill; rw [if_neg hx, if_neg hx]; exact ⟨rfl, rfl⟩)
          have q9 : (n : Int) + 1 ≤ 75 := by omega
          clear hx
          go_wp2_with (at_builtin; refine Buf.app_at rfl _ _ rfl w _ _ _ hBp [s[k]] 1 1 _ _ (0, 0) rfl (by decide) ?le hblk rfl rfl ?lf ?_)
          case le => rfl
          case lf => omega
          intro g2 c2 w2 hB2 _ _
          obtain ⟨L, hL⟩ : ∃ L, out ++ [s[k]] = L := ⟨_, rfl⟩
          rw [hL] at hB2
          have hLl : L.length = out.length + 1 := by rw [← hL, List.length_append]; rfl
          have hnx := Lib.hid (show L ++ quoL (n + 1) (s.data.toList.drop (k + 1)) = quoL 0 s.data.toList by
            have := hst.out
            rwa [show [s[k]].length = 1 from rfl, hbr.out.1, hbr.out.2, List.nil_append, hL] at this)
          clear hL
          have hb2 := hB2.below
          go_wp2
          go_roundw
          case rel => exact ⟨k + 1, n + 1, L, by omega, by omega, by omega, by go_num, by go_num, hnx, hB2⟩
          case measure => simp [intOf]; omega
      | false =>
        by_cases hbl : s[k].toNat = 32 ∧ k + 1 < s.size
        · have hst := Lib.hid (quo_step s k n hlt out _ [s[k]] (by rw [show decide (k + 1 = s.size) = false by rw [decide_eq_false_iff_not]; omega]; exact piece_blank hbl.1) hq.out)
          have q0 : (s[k].toNat : Int) < 33 := by omega
          have q1 : ((s[k].toNat : Int) != 32) = false := by rw [bne, Bool.not_eq_false', beq_iff_eq]; omega
          have q2 : ((k : Int) == ((s.size : Int) - 1)) = false := by rw [beq_eq_false_iff_ne]; omega
          clear hf hbl
          have hBp := hB.allocB (.cells #[.int .u8 (s[k].toNat : Int)] 5)
          have hblk := Bld.new_one wr (.int .u8 (s[k].toNat : Int)) 5
          have hle := Nat.le_refl wr.heap.size
          go_upto_region 10 with fail
          by_cases hx : 75 < n + 1
          · have hbr := Lib.hid (show brk n 1 = [61, 13, 10] ∧ fill n 1 = 1 by unfold brk fill; rw [if_pos hx, if_pos hx]; exact ⟨rfl, rfl⟩)
            have q9 : (75 : Int) < n + 1 := by omega
            clear hx
            go_wp2_with (at_builtin; refine Buf.app_at rfl _ _ rfl w _ _ out (hBp.allocB _) [61, 13, 10] 3 3 (wr.heap.size + 1) _ (0, 0) rfl (by decide) rfl (Bld.at_size (by simp)) rfl rfl ?la ?_)
            case la => omega
            intro g1 c1 w1 hB1 hg1 hat1
            have hk1 := Buf.keeps hB hle (Bld.old_one hblk _) hg1
            obtain ⟨L1, hL1⟩ : ∃ L, out ++ [61, 13, 10] = L := ⟨_, rfl⟩
            rw [hL1] at hB1
            have hl1 : L1.length = out.length + 3 := by rw [← hL1, List.length_append]; rfl
            have HL1 := Lib.hid hL1
            clear hL1
            clear hBp hat1 hg1
            go_wp2_with (at_builtin; refine Buf.app_at rfl _ _ rfl w _ _ _ hB1 [s[k]] 1 1 _ _ (0, 0) rfl (by decide) ?lc hk1 rfl rfl ?ld ?_)
            case lc => rfl
            case ld => omega
            intro g2 c2 w2 hB2 _ _
            obtain ⟨L, hL⟩ : ∃ L, L1 ++ [s[k]] = L := ⟨_, rfl⟩
            rw [hL] at hB2
            have hLl : L.length = L1.length + 1 := by rw [← hL, List.length_append]; rfl
            have hnx := Lib.hid (show L ++ quoL 1 (s.data.toList.drop (k + 1)) = quoL 0 s.data.toList by
              have := hst.out
              rwa [show [s[k]].length = 1 from rfl, hbr.out.1, hbr.out.2, ← List.append_assoc out, HL1.out, hL] at this)
            clear hL
            have hb2 := hB2.below
            go_wp2
            go_roundw
            case rel => exact ⟨k + 1, 1, L, by omega, by omega, by omega, by go_num, by go_num, hnx, hB2⟩
            case measure => simp [intOf]; omega
          · have hbr := Lib.hid (show brk n 1 = [] ∧ fill n 1 = n + 1 by unfold brk fill; rw [if_neg hx, if_neg hx]; exact ⟨rfl, rfl⟩)
            have q9 : (n : Int) + 1 ≤ 75 := by omega
            clear hx
            go_wp2_with (at_builtin; refine Buf.app_at rfl _ _ rfl w _ _ _ hBp [s[k]] 1 1 _ _ (0, 0) rfl (by decide) ?le hblk rfl rfl ?lf ?_)
            case le => rfl
            case lf => omega
            intro g2 c2 w2 hB2 _ _
            obtain ⟨L, hL⟩ : ∃ L, out ++ [s[k]] = L := ⟨_, rfl⟩
            rw [hL] at hB2
            have hLl : L.length = out.length + 1 := by rw [← hL, List.length_append]; rfl
            have hnx := Lib.hid (show L ++ quoL (n + 1) (s.data.toList.drop (k + 1)) = quoL 0 s.data.toList by
              have := hst.out
              rwa [show [s[k]].length = 1 from rfl, hbr.out.1, hbr.out.2, List.nil_append, hL] at this)
            clear hL
            have hb2 := hB2.below
            go_wp2
            go_roundw
            case rel => exact ⟨k + 1, n + 1, L, by omega, by omega, by omega, by go_num, by go_num, hnx, hB2⟩
            case measure => simp [intOf]; omega
        · have hst := Lib.hid (quo_step s k n hlt out _ [61, dg ((s[k].toNat : Int) / 16).toNat, dg ((s[k].toNat : Int) % 16).toNat] (by rw [show ((s[k].toNat : Int) / 16).toNat = s[k].toNat / 16 by omega, show ((s[k].toNat : Int) % 16).toNat = s[k].toNat % 16 by omega]; exact piece_hex hf (by rw [decide_eq_true_eq]; omega)) hq.out)
          have hfo := flat_out hf
          have i1 : 0 ≤ (s[k].toNat : Int) / 16 := by omega
          have i2 : (s[k].toNat : Int) / 16 < 16 := by omega
          have i3 : 0 ≤ (s[k].toNat : Int) % 16 := by omega
          have i4 : (s[k].toNat : Int) % 16 < 16 := by omega
          have eq : IntKind.u8.wrap ((s[k].toNat : Int) / 16) = (s[k].toNat : Int) / 16 := IntWalk.u8_in _ (by omega)
          have er' : IntKind.u8.wrap ((s[k].toNat : Int) % 16) = (s[k].toNat : Int) % 16 := IntWalk.u8_in _ (by omega)
          have er : (s[k].toNat : Int).tmod 16 = (s[k].toNat : Int) % 16 := Int.tmod_eq_emod_of_nonneg (by omega)
          obtain ⟨cs, hcsd⟩ : ∃ cs : Array Value, #[Value.int .u8 61, Value.int .u8 (((ByteArray.mk #[48, 49, 50, 51, 52, 53, 54, 55, 56, 57, 65, 66, 67, 68, 69, 70])[((s[k].toNat : Int) / 16).toNat]'(by show _ < 16; omega)).toNat : Int), Value.int .u8 (((ByteArray.mk #[48, 49, 50, 51, 52, 53, 54, 55, 56, 57, 65, 66, 67, 68, 69, 70])[((s[k].toNat : Int) % 16).toNat]'(by show _ < 16; omega)).toNat : Int)] = cs := ⟨_, rfl⟩
          have hcs : cs.toList = Lib.byteCells [61, dg ((s[k].toNat : Int) / 16).toNat, dg ((s[k].toNat : Int) % 16).toNat] := by rw [← hcsd, dig_get, dig_get]; rfl
          rcases (show s[k].toNat < 32 ∨ s[k].toNat = 32 ∨ 126 < s[k].toNat ∨ s[k].toNat = 61 by omega) with hy | hy | hy | hy
          · have q0 : (s[k].toNat : Int) < 33 := by omega
            have q1 : ((s[k].toNat : Int) != 32) = true := by rw [bne, Bool.not_eq_true', beq_eq_false_iff_ne]; omega
            clear hf hbl hy hfo
            go_wp2_with fail
            clear q0 q1
            refine wp_region_any (by kernel_rfl) ?_
            try (change wpAny _ _ _ _ _ _ _ (World.drew _))
            refine wpAny_take (i := 0) (v := ?_) rfl (by kernel_rfl) (by kernel_rfl) (by kernel_rfl) (fun _ _ _ h => h) (Or.inl ⟨by rfl, ?_⟩) ?_
            rotate_left 1
            · (intro w; go_simp) <;> with_reducible rfl
            refine wpAny_take (i := 1) (v := ?_) rfl (by kernel_rfl) (by kernel_rfl) (by kernel_rfl) (fun _ _ _ h => h) (Or.inl ⟨by rfl, ?_⟩) ?_
            rotate_left 1
            · (intro w; go_simp) <;> with_reducible rfl
            refine wpAny_take (i := 2) (v := ?_) rfl (by kernel_rfl) (by kernel_rfl) (by kernel_rfl) (fun _ _ _ h => h) (Or.inl ⟨by rfl, ?_⟩) ?_
            rotate_left 1
            · (intro w; go_simp) <;> with_reducible rfl
            refine wpAny_take (i := 3) (v := ?_) rfl (by kernel_rfl) (by kernel_rfl) (by kernel_rfl) (fun _ _ _ h => h) (Or.inl ⟨by rfl, ?_⟩) ?_
            rotate_left 1
            · (intro w; go_simp) <;> with_reducible rfl
            refine wpAny_take (i := 4) (v := ?_) rfl (by kernel_rfl) (by kernel_rfl) (by kernel_rfl) (fun _ _ _ h => h) (Or.inl ⟨by rfl, ?_⟩) ?_
            rotate_left 1
            · (intro w; go_simp) <;> with_reducible rfl
            refine wpAny_take (i := 5) (v := ?_) rfl (by kernel_rfl) (by kernel_rfl) (by kernel_rfl) (fun _ _ _ h => h) (Or.inl ⟨by rfl, ?_⟩) ?_
            rotate_left 1
            · (intro w; go_simp) <;> with_reducible rfl
            refine wpAny_ready (rs := [6]) (by kernel_rfl) (by simp) ?_
            refine AllReady.cons rfl (fun K hK => ?_) AllReady.nil
            go_simp
            refine hK _ _ ?_
            clear hK K
            refine wpAny_take (i := 7) (v := ?_) rfl (by kernel_rfl) (by kernel_rfl) (by kernel_rfl) (fun _ _ _ h => h) (Or.inl ⟨by rfl, ?_⟩) ?_
            rotate_left 1
            · (intro w; go_simp) <;> with_reducible rfl
            refine wpAny_done (by kernel_rfl) ?_ _
            try rw [hcsd]
            have hBp := (((hB.allocB (.cells #[.int .u8 (s[k].toNat : Int)] 5)).allocB (.cells cs 5)).drewB)
            have hblk : (((wr.alloc (.cells #[.int .u8 (s[k].toNat : Int)] 5)).alloc (.cells cs 5)).drew).heap[wr.heap.size + 1]? = some (.cells cs 5 (0, 0)) := Bld.at_size (by simp)
            have hle : wr.heap.size ≤ wr.heap.size + 1 := Nat.le_succ _
            clear hcsd
            go_upto_region 10 with fail
            by_cases hx : 75 < n + 3
            · have hbr := Lib.hid (show brk n 3 = [61, 13, 10] ∧ fill n 3 = 3 by unfold brk fill; rw [if_pos hx, if_pos hx]; exact ⟨rfl, rfl⟩)
              have q9 : (75 : Int) < n + 3 := by omega
              clear hx
              go_wp2_with (at_builtin; refine Buf.app_at rfl _ _ rfl w _ _ out (hBp.allocB _) [61, 13, 10] 3 3 (wr.heap.size + 2) _ (0, 0) rfl (by decide) rfl (Bld.at_size (by simp)) rfl rfl ?la ?_)
              case la => omega
              intro g1 c1 w1 hB1 hg1 hat1
              have hk1 := Buf.keeps hB hle (Bld.old_one hblk _) hg1
              obtain ⟨L1, hL1⟩ : ∃ L, out ++ [61, 13, 10] = L := ⟨_, rfl⟩
              rw [hL1] at hB1
              have hl1 : L1.length = out.length + 3 := by rw [← hL1, List.length_append]; rfl
              have HL1 := Lib.hid hL1
              clear hL1
              clear hBp hat1 hg1
              go_wp2_with (at_builtin; refine Buf.app_at rfl _ _ rfl w _ _ _ hB1 [61, dg ((s[k].toNat : Int) / 16).toNat, dg ((s[k].toNat : Int) % 16).toNat] 3 3 _ _ (0, 0) rfl (by decide) ?lc hk1 rfl rfl ?ld ?_)
              case lc => exact hcs
              case ld => omega
              intro g2 c2 w2 hB2 _ _
              obtain ⟨L, hL⟩ : ∃ L, L1 ++ [61, dg ((s[k].toNat : Int) / 16).toNat, dg ((s[k].toNat : Int) % 16).toNat] = L := ⟨_, rfl⟩
              rw [hL] at hB2
              have hLl : L.length = L1.length + 3 := by rw [← hL, List.length_append]; rfl
              have hnx := Lib.hid (show L ++ quoL 3 (s.data.toList.drop (k + 1)) = quoL 0 s.data.toList by
                have := hst.out
                rwa [show [61, dg ((s[k].toNat : Int) / 16).toNat, dg ((s[k].toNat : Int) % 16).toNat].length = 3 from rfl, hbr.out.1, hbr.out.2, ← List.append_assoc out, HL1.out, hL] at this)
              clear hL
              have hb2 := hB2.below
              go_wp2
              go_roundw
              case rel => exact ⟨k + 1, 3, L, by omega, by omega, by omega, by go_num, by go_num, hnx, hB2⟩
              case measure => simp [intOf]; omega
            · have hbr := Lib.hid (show brk n 3 = [] ∧ fill n 3 = n + 3 by unfold brk fill; rw [if_neg hx, if_neg hx]; exact ⟨rfl, rfl⟩)
              have q9 : (n : Int) + 3 ≤ 75 := by omega
              clear hx
              go_wp2_with (at_builtin; refine Buf.app_at rfl _ _ rfl w _ _ _ hBp [61, dg ((s[k].toNat : Int) / 16).toNat, dg ((s[k].toNat : Int) % 16).toNat] 3 3 _ _ (0, 0) rfl (by decide) ?le hblk rfl rfl ?lf ?_)
              case le => exact hcs
              case lf => omega
              intro g2 c2 w2 hB2 _ _
              obtain ⟨L, hL⟩ : ∃ L, out ++ [61, dg ((s[k].toNat : Int) / 16).toNat, dg ((s[k].toNat : Int) % 16).toNat] = L := ⟨_, rfl⟩
              rw [hL] at hB2
              have hLl : L.length = out.length + 3 := by rw [← hL, List.length_append]; rfl
              have hnx := Lib.hid (show L ++ quoL (n + 3) (s.data.toList.drop (k + 1)) = quoL 0 s.data.toList by
                have := hst.out
                rwa [show [61, dg ((s[k].toNat : Int) / 16).toNat, dg ((s[k].toNat : Int) % 16).toNat].length = 3 from rfl, hbr.out.1, hbr.out.2, List.nil_append, hL] at this)
              clear hL
              have hb2 := hB2.below
              go_wp2
              go_roundw
              case rel => exact ⟨k + 1, n + 3, L, by omega, by omega, by omega, by go_num, by go_num, hnx, hB2⟩
              case measure => simp [intOf]; omega
          · have q0 : (s[k].toNat : Int) < 33 := by omega
            have q1 : ((s[k].toNat : Int) != 32) = false := by rw [bne, Bool.not_eq_false', beq_iff_eq]; omega
            have q2 : ((k : Int) == ((s.size : Int) - 1)) = true := by rw [beq_iff_eq]; omega
            clear hf hbl hy hfo
            go_wp2_with fail
            clear q0 q1 q2
            refine wp_region_any (by kernel_rfl) ?_
            try (change wpAny _ _ _ _ _ _ _ (World.drew _))
            refine wpAny_take (i := 0) (v := ?_) rfl (by kernel_rfl) (by kernel_rfl) (by kernel_rfl) (fun _ _ _ h => h) (Or.inl ⟨by rfl, ?_⟩) ?_
            rotate_left 1
            · (intro w; go_simp) <;> with_reducible rfl
            refine wpAny_take (i := 1) (v := ?_) rfl (by kernel_rfl) (by kernel_rfl) (by kernel_rfl) (fun _ _ _ h => h) (Or.inl ⟨by rfl, ?_⟩) ?_
            rotate_left 1
            · (intro w; go_simp) <;> with_reducible rfl
            refine wpAny_take (i := 2) (v := ?_) rfl (by kernel_rfl) (by kernel_rfl) (by kernel_rfl) (fun _ _ _ h => h) (Or.inl ⟨by rfl, ?_⟩) ?_
            rotate_left 1
            · (intro w; go_simp) <;> with_reducible rfl
            refine wpAny_take (i := 3) (v := ?_) rfl (by kernel_rfl) (by kernel_rfl) (by kernel_rfl) (fun _ _ _ h => h) (Or.inl ⟨by rfl, ?_⟩) ?_
            rotate_left 1
            · (intro w; go_simp) <;> with_reducible rfl
            refine wpAny_take (i := 4) (v := ?_) rfl (by kernel_rfl) (by kernel_rfl) (by kernel_rfl) (fun _ _ _ h => h) (Or.inl ⟨by rfl, ?_⟩) ?_
            rotate_left 1
            · (intro w; go_simp) <;> with_reducible rfl
            refine wpAny_take (i := 5) (v := ?_) rfl (by kernel_rfl) (by kernel_rfl) (by kernel_rfl) (fun _ _ _ h => h) (Or.inl ⟨by rfl, ?_⟩) ?_
            rotate_left 1
            · (intro w; go_simp) <;> with_reducible rfl
            refine wpAny_ready (rs := [6]) (by kernel_rfl) (by simp) ?_
            refine AllReady.cons rfl (fun K hK => ?_) AllReady.nil
            go_simp
            refine hK _ _ ?_
            clear hK K
            refine wpAny_take (i := 7) (v := ?_) rfl (by kernel_rfl) (by kernel_rfl) (by kernel_rfl) (fun _ _ _ h => h) (Or.inl ⟨by rfl, ?_⟩) ?_
            rotate_left 1
            · (intro w; go_simp) <;> with_reducible rfl
            refine wpAny_done (by kernel_rfl) ?_ _
            try rw [hcsd]
            have hBp := (((hB.allocB (.cells #[.int .u8 (s[k].toNat : Int)] 5)).allocB (.cells cs 5)).drewB)
            have hblk : (((wr.alloc (.cells #[.int .u8 (s[k].toNat : Int)] 5)).alloc (.cells cs 5)).drew).heap[wr.heap.size + 1]? = some (.cells cs 5 (0, 0)) := Bld.at_size (by simp)
            have hle : wr.heap.size ≤ wr.heap.size + 1 := Nat.le_succ _
            clear hcsd
            go_upto_region 10 with fail
            by_cases hx : 75 < n + 3
            · have hbr := Lib.hid (show brk n 3 = [61, 13, 10] ∧ fill n 3 = 3 by unfold brk fill; rw [if_pos hx, if_pos hx]; exact ⟨rfl, rfl⟩)
              have q9 : (75 : Int) < n + 3 := by omega
              clear hx
              go_wp2_with (at_builtin; refine Buf.app_at rfl _ _ rfl w _ _ out (hBp.allocB _) [61, 13, 10] 3 3 (wr.heap.size + 2) _ (0, 0) rfl (by decide) rfl (Bld.at_size (by simp)) rfl rfl ?la ?_)
              case la => omega
              intro g1 c1 w1 hB1 hg1 hat1
              have hk1 := Buf.keeps hB hle (Bld.old_one hblk _) hg1
              obtain ⟨L1, hL1⟩ : ∃ L, out ++ [61, 13, 10] = L := ⟨_, rfl⟩
              rw [hL1] at hB1
              have hl1 : L1.length = out.length + 3 := by rw [← hL1, List.length_append]; rfl
              have HL1 := Lib.hid hL1
              clear hL1
              clear hBp hat1 hg1
              go_wp2_with (at_builtin; refine Buf.app_at rfl _ _ rfl w _ _ _ hB1 [61, dg ((s[k].toNat : Int) / 16).toNat, dg ((s[k].toNat : Int) % 16).toNat] 3 3 _ _ (0, 0) rfl (by decide) ?lc hk1 rfl rfl ?ld ?_)
              case lc => exact hcs
              case ld => omega
              intro g2 c2 w2 hB2 _ _
              obtain ⟨L, hL⟩ : ∃ L, L1 ++ [61, dg ((s[k].toNat : Int) / 16).toNat, dg ((s[k].toNat : Int) % 16).toNat] = L := ⟨_, rfl⟩
              rw [hL] at hB2
              have hLl : L.length = L1.length + 3 := by rw [← hL, List.length_append]; rfl
              have hnx := Lib.hid (show L ++ quoL 3 (s.data.toList.drop (k + 1)) = quoL 0 s.data.toList by
                have := hst.out
                rwa [show [61, dg ((s[k].toNat : Int) / 16).toNat, dg ((s[k].toNat : Int) % 16).toNat].length = 3 from rfl, hbr.out.1, hbr.out.2, ← List.append_assoc out, HL1.out, hL] at this)
              clear hL
              have hb2 := hB2.below
              go_wp2
              go_roundw
              case rel => exact ⟨k + 1, 3, L, by omega, by omega, by omega, by go_num, by go_num, hnx, hB2⟩
              case measure => simp [intOf]; omega
            · have hbr := Lib.hid (show brk n 3 = [] ∧ fill n 3 = n + 3 by unfold brk fill; rw [if_neg hx, if_neg hx]; exact ⟨rfl, rfl⟩)
              have q9 : (n : Int) + 3 ≤ 75 := by omega
              clear hx
              go_wp2_with (at_builtin; refine Buf.app_at rfl _ _ rfl w _ _ _ hBp [61, dg ((s[k].toNat : Int) / 16).toNat, dg ((s[k].toNat : Int) % 16).toNat] 3 3 _ _ (0, 0) rfl (by decide) ?le hblk rfl rfl ?lf ?_)
              case le => exact hcs
              case lf => omega
              intro g2 c2 w2 hB2 _ _
              obtain ⟨L, hL⟩ : ∃ L, out ++ [61, dg ((s[k].toNat : Int) / 16).toNat, dg ((s[k].toNat : Int) % 16).toNat] = L := ⟨_, rfl⟩
              rw [hL] at hB2
              have hLl : L.length = out.length + 3 := by rw [← hL, List.length_append]; rfl
              have hnx := Lib.hid (show L ++ quoL (n + 3) (s.data.toList.drop (k + 1)) = quoL 0 s.data.toList by
                have := hst.out
                rwa [show [61, dg ((s[k].toNat : Int) / 16).toNat, dg ((s[k].toNat : Int) % 16).toNat].length = 3 from rfl, hbr.out.1, hbr.out.2, List.nil_append, hL] at this)
              clear hL
              have hb2 := hB2.below
              go_wp2
              go_roundw
              case rel => exact ⟨k + 1, n + 3, L, by omega, by omega, by omega, by go_num, by go_num, hnx, hB2⟩
              case measure => simp [intOf]; omega
          · have q0 : (33 : Int) ≤ s[k].toNat := by omega
            have q1 : 126 < (s[k].toNat : Int) := by omega
            have q2 : ((s[k].toNat : Int) != 32) = true := by rw [bne, Bool.not_eq_true', beq_eq_false_iff_ne]; omega
            clear hf hbl hy hfo
            go_wp2_with fail
            clear q0 q1 q2
            refine wp_region_any (by kernel_rfl) ?_
            try (change wpAny _ _ _ _ _ _ _ (World.drew _))
            refine wpAny_take (i := 0) (v := ?_) rfl (by kernel_rfl) (by kernel_rfl) (by kernel_rfl) (fun _ _ _ h => h) (Or.inl ⟨by rfl, ?_⟩) ?_
            rotate_left 1
            · (intro w; go_simp) <;> with_reducible rfl
            refine wpAny_take (i := 1) (v := ?_) rfl (by kernel_rfl) (by kernel_rfl) (by kernel_rfl) (fun _ _ _ h => h) (Or.inl ⟨by rfl, ?_⟩) ?_
            rotate_left 1
            · (intro w; go_simp) <;> with_reducible rfl
            refine wpAny_take (i := 2) (v := ?_) rfl (by kernel_rfl) (by kernel_rfl) (by kernel_rfl) (fun _ _ _ h => h) (Or.inl ⟨by rfl, ?_⟩) ?_
            rotate_left 1
            · (intro w; go_simp) <;> with_reducible rfl
            refine wpAny_take (i := 3) (v := ?_) rfl (by kernel_rfl) (by kernel_rfl) (by kernel_rfl) (fun _ _ _ h => h) (Or.inl ⟨by rfl, ?_⟩) ?_
            rotate_left 1
            · (intro w; go_simp) <;> with_reducible rfl
            refine wpAny_take (i := 4) (v := ?_) rfl (by kernel_rfl) (by kernel_rfl) (by kernel_rfl) (fun _ _ _ h => h) (Or.inl ⟨by rfl, ?_⟩) ?_
            rotate_left 1
            · (intro w; go_simp) <;> with_reducible rfl
            refine wpAny_take (i := 5) (v := ?_) rfl (by kernel_rfl) (by kernel_rfl) (by kernel_rfl) (fun _ _ _ h => h) (Or.inl ⟨by rfl, ?_⟩) ?_
            rotate_left 1
            · (intro w; go_simp) <;> with_reducible rfl
            refine wpAny_ready (rs := [6]) (by kernel_rfl) (by simp) ?_
            refine AllReady.cons rfl (fun K hK => ?_) AllReady.nil
            go_simp
            refine hK _ _ ?_
            clear hK K
            refine wpAny_take (i := 7) (v := ?_) rfl (by kernel_rfl) (by kernel_rfl) (by kernel_rfl) (fun _ _ _ h => h) (Or.inl ⟨by rfl, ?_⟩) ?_
            rotate_left 1
            · (intro w; go_simp) <;> with_reducible rfl
            refine wpAny_done (by kernel_rfl) ?_ _
            try rw [hcsd]
            have hBp := (((hB.allocB (.cells #[.int .u8 (s[k].toNat : Int)] 5)).allocB (.cells cs 5)).drewB)
            have hblk : (((wr.alloc (.cells #[.int .u8 (s[k].toNat : Int)] 5)).alloc (.cells cs 5)).drew).heap[wr.heap.size + 1]? = some (.cells cs 5 (0, 0)) := Bld.at_size (by simp)
            have hle : wr.heap.size ≤ wr.heap.size + 1 := Nat.le_succ _
            clear hcsd
            go_upto_region 10 with fail
            by_cases hx : 75 < n + 3
            · have hbr := Lib.hid (show brk n 3 = [61, 13, 10] ∧ fill n 3 = 3 by unfold brk fill; rw [if_pos hx, if_pos hx]; exact ⟨rfl, rfl⟩)
              have q9 : (75 : Int) < n + 3 := by omega
              clear hx
              go_wp2_with (at_builtin; refine Buf.app_at rfl _ _ rfl w _ _ out (hBp.allocB _) [61, 13, 10] 3 3 (wr.heap.size + 2) _ (0, 0) rfl (by decide) rfl (Bld.at_size (by simp)) rfl rfl ?la ?_)
              case la => omega
              intro g1 c1 w1 hB1 hg1 hat1
              have hk1 := Buf.keeps hB hle (Bld.old_one hblk _) hg1
              obtain ⟨L1, hL1⟩ : ∃ L, out ++ [61, 13, 10] = L := ⟨_, rfl⟩
              rw [hL1] at hB1
              have hl1 : L1.length = out.length + 3 := by rw [← hL1, List.length_append]; rfl
              have HL1 := Lib.hid hL1
              clear hL1
              clear hBp hat1 hg1
              go_wp2_with (at_builtin; refine Buf.app_at rfl _ _ rfl w _ _ _ hB1 [61, dg ((s[k].toNat : Int) / 16).toNat, dg ((s[k].toNat : Int) % 16).toNat] 3 3 _ _ (0, 0) rfl (by decide) ?lc hk1 rfl rfl ?ld ?_)
              case lc => exact hcs
              case ld => omega
              intro g2 c2 w2 hB2 _ _
              obtain ⟨L, hL⟩ : ∃ L, L1 ++ [61, dg ((s[k].toNat : Int) / 16).toNat, dg ((s[k].toNat : Int) % 16).toNat] = L := ⟨_, rfl⟩
              rw [hL] at hB2
              have hLl : L.length = L1.length + 3 := by rw [← hL, List.length_append]; rfl
              have hnx := Lib.hid (show L ++ quoL 3 (s.data.toList.drop (k + 1)) = quoL 0 s.data.toList by
                have := hst.out
                rwa [show [61, dg ((s[k].toNat : Int) / 16).toNat, dg ((s[k].toNat : Int) % 16).toNat].length = 3 from rfl, hbr.out.1, hbr.out.2, ← List.append_assoc out, HL1.out, hL] at this)
              clear hL
              have hb2 := hB2.below
              go_wp2
              go_roundw
              case rel => exact ⟨k + 1, 3, L, by omega, by omega, by omega, by go_num, by go_num, hnx, hB2⟩
              case measure => simp [intOf]; omega
            · have hbr := Lib.hid (show brk n 3 = [] ∧ fill n 3 = n + 3 by unfold brk fill; rw [if_neg hx, if_neg hx]; exact ⟨rfl, rfl⟩)
              have q9 : (n : Int) + 3 ≤ 75 := by omega
              clear hx
              go_wp2_with (at_builtin; refine Buf.app_at rfl _ _ rfl w _ _ _ hBp [61, dg ((s[k].toNat : Int) / 16).toNat, dg ((s[k].toNat : Int) % 16).toNat] 3 3 _ _ (0, 0) rfl (by decide) ?le hblk rfl rfl ?lf ?_)
              case le => exact hcs
              case lf => omega
              intro g2 c2 w2 hB2 _ _
              obtain ⟨L, hL⟩ : ∃ L, out ++ [61, dg ((s[k].toNat : Int) / 16).toNat, dg ((s[k].toNat : Int) % 16).toNat] = L := ⟨_, rfl⟩
              rw [hL] at hB2
              have hLl : L.length = out.length + 3 := by rw [← hL, List.length_append]; rfl
              have hnx := Lib.hid (show L ++ quoL (n + 3) (s.data.toList.drop (k + 1)) = quoL 0 s.data.toList by
                have := hst.out
                rwa [show [61, dg ((s[k].toNat : Int) / 16).toNat, dg ((s[k].toNat : Int) % 16).toNat].length = 3 from rfl, hbr.out.1, hbr.out.2, List.nil_append, hL] at this)
              clear hL
              have hb2 := hB2.below
              go_wp2
              go_roundw
              case rel => exact ⟨k + 1, n + 3, L, by omega, by omega, by omega, by go_num, by go_num, hnx, hB2⟩
              case measure => simp [intOf]; omega
          · have q0 : (33 : Int) ≤ s[k].toNat := by omega
            have q1 : (s[k].toNat : Int) ≤ 126 := by omega
            have q2 : ((s[k].toNat : Int) == 61) = true := by rw [beq_iff_eq]; omega
            have q3 : ((s[k].toNat : Int) != 32) = true := by rw [bne, Bool.not_eq_true', beq_eq_false_iff_ne]; omega
            clear hf hbl hy hfo
            go_wp2_with fail
            clear q0 q1 q2 q3
            refine wp_region_any (by kernel_rfl) ?_
            try (change wpAny _ _ _ _ _ _ _ (World.drew _))
            refine wpAny_take (i := 0) (v := ?_) rfl (by kernel_rfl) (by kernel_rfl) (by kernel_rfl) (fun _ _ _ h => h) (Or.inl ⟨by rfl, ?_⟩) ?_
            rotate_left 1
            · (intro w; go_simp) <;> with_reducible rfl
            refine wpAny_take (i := 1) (v := ?_) rfl (by kernel_rfl) (by kernel_rfl) (by kernel_rfl) (fun _ _ _ h => h) (Or.inl ⟨by rfl, ?_⟩) ?_
            rotate_left 1
            · (intro w; go_simp) <;> with_reducible rfl
            refine wpAny_take (i := 2) (v := ?_) rfl (by kernel_rfl) (by kernel_rfl) (by kernel_rfl) (fun _ _ _ h => h) (Or.inl ⟨by rfl, ?_⟩) ?_
            rotate_left 1
            · (intro w; go_simp) <;> with_reducible rfl
            refine wpAny_take (i := 3) (v := ?_) rfl (by kernel_rfl) (by kernel_rfl) (by kernel_rfl) (fun _ _ _ h => h) (Or.inl ⟨by rfl, ?_⟩) ?_
            rotate_left 1
            · (intro w; go_simp) <;> with_reducible rfl
            refine wpAny_take (i := 4) (v := ?_) rfl (by kernel_rfl) (by kernel_rfl) (by kernel_rfl) (fun _ _ _ h => h) (Or.inl ⟨by rfl, ?_⟩) ?_
            rotate_left 1
            · (intro w; go_simp) <;> with_reducible rfl
            refine wpAny_take (i := 5) (v := ?_) rfl (by kernel_rfl) (by kernel_rfl) (by kernel_rfl) (fun _ _ _ h => h) (Or.inl ⟨by rfl, ?_⟩) ?_
            rotate_left 1
            · (intro w; go_simp) <;> with_reducible rfl
            refine wpAny_ready (rs := [6]) (by kernel_rfl) (by simp) ?_
            refine AllReady.cons rfl (fun K hK => ?_) AllReady.nil
            go_simp
            refine hK _ _ ?_
            clear hK K
            refine wpAny_take (i := 7) (v := ?_) rfl (by kernel_rfl) (by kernel_rfl) (by kernel_rfl) (fun _ _ _ h => h) (Or.inl ⟨by rfl, ?_⟩) ?_
            rotate_left 1
            · (intro w; go_simp) <;> with_reducible rfl
            refine wpAny_done (by kernel_rfl) ?_ _
            try rw [hcsd]
            have hBp := (((hB.allocB (.cells #[.int .u8 (s[k].toNat : Int)] 5)).allocB (.cells cs 5)).drewB)
            have hblk : (((wr.alloc (.cells #[.int .u8 (s[k].toNat : Int)] 5)).alloc (.cells cs 5)).drew).heap[wr.heap.size + 1]? = some (.cells cs 5 (0, 0)) := Bld.at_size (by simp)
            have hle : wr.heap.size ≤ wr.heap.size + 1 := Nat.le_succ _
            clear hcsd
            go_upto_region 10 with fail
            by_cases hx : 75 < n + 3
            · have hbr := Lib.hid (show brk n 3 = [61, 13, 10] ∧ fill n 3 = 3 by unfold brk fill; rw [if_pos hx, if_pos hx]; exact ⟨rfl, rfl⟩)
              have q9 : (75 : Int) < n + 3 := by omega
              clear hx
              go_wp2_with (at_builtin; refine Buf.app_at rfl _ _ rfl w _ _ out (hBp.allocB _) [61, 13, 10] 3 3 (wr.heap.size + 2) _ (0, 0) rfl (by decide) rfl (Bld.at_size (by simp)) rfl rfl ?la ?_)
              case la => omega
              intro g1 c1 w1 hB1 hg1 hat1
              have hk1 := Buf.keeps hB hle (Bld.old_one hblk _) hg1
              obtain ⟨L1, hL1⟩ : ∃ L, out ++ [61, 13, 10] = L := ⟨_, rfl⟩
              rw [hL1] at hB1
              have hl1 : L1.length = out.length + 3 := by rw [← hL1, List.length_append]; rfl
              have HL1 := Lib.hid hL1
              clear hL1
              clear hBp hat1 hg1
              go_wp2_with (at_builtin; refine Buf.app_at rfl _ _ rfl w _ _ _ hB1 [61, dg ((s[k].toNat : Int) / 16).toNat, dg ((s[k].toNat : Int) % 16).toNat] 3 3 _ _ (0, 0) rfl (by decide) ?lc hk1 rfl rfl ?ld ?_)
              case lc => exact hcs
              case ld => omega
              intro g2 c2 w2 hB2 _ _
              obtain ⟨L, hL⟩ : ∃ L, L1 ++ [61, dg ((s[k].toNat : Int) / 16).toNat, dg ((s[k].toNat : Int) % 16).toNat] = L := ⟨_, rfl⟩
              rw [hL] at hB2
              have hLl : L.length = L1.length + 3 := by rw [← hL, List.length_append]; rfl
              have hnx := Lib.hid (show L ++ quoL 3 (s.data.toList.drop (k + 1)) = quoL 0 s.data.toList by
                have := hst.out
                rwa [show [61, dg ((s[k].toNat : Int) / 16).toNat, dg ((s[k].toNat : Int) % 16).toNat].length = 3 from rfl, hbr.out.1, hbr.out.2, ← List.append_assoc out, HL1.out, hL] at this)
              clear hL
              have hb2 := hB2.below
              go_wp2
              go_roundw
              case rel => exact ⟨k + 1, 3, L, by omega, by omega, by omega, by go_num, by go_num, hnx, hB2⟩
              case measure => simp [intOf]; omega
            · have hbr := Lib.hid (show brk n 3 = [] ∧ fill n 3 = n + 3 by unfold brk fill; rw [if_neg hx, if_neg hx]; exact ⟨rfl, rfl⟩)
              have q9 : (n : Int) + 3 ≤ 75 := by omega
              clear hx
              go_wp2_with (at_builtin; refine Buf.app_at rfl _ _ rfl w _ _ _ hBp [61, dg ((s[k].toNat : Int) / 16).toNat, dg ((s[k].toNat : Int) % 16).toNat] 3 3 _ _ (0, 0) rfl (by decide) ?le hblk rfl rfl ?lf ?_)
              case le => exact hcs
              case lf => omega
              intro g2 c2 w2 hB2 _ _
              obtain ⟨L, hL⟩ : ∃ L, out ++ [61, dg ((s[k].toNat : Int) / 16).toNat, dg ((s[k].toNat : Int) % 16).toNat] = L := ⟨_, rfl⟩
              rw [hL] at hB2
              have hLl : L.length = out.length + 3 := by rw [← hL, List.length_append]; rfl
              have hnx := Lib.hid (show L ++ quoL (n + 3) (s.data.toList.drop (k + 1)) = quoL 0 s.data.toList by
                have := hst.out
                rwa [show [61, dg ((s[k].toNat : Int) / 16).toNat, dg ((s[k].toNat : Int) % 16).toNat].length = 3 from rfl, hbr.out.1, hbr.out.2, List.nil_append, hL] at this)
              clear hL
              have hb2 := hB2.below
              go_wp2
              go_roundw
              case rel => exact ⟨k + 1, n + 3, L, by omega, by omega, by omega, by go_num, by go_num, hnx, hB2⟩
              case measure => simp [intOf]; omega
    · have hend := Lib.hid (show out = (quoB s).data.toList by rw [← hend0.out, ← hq.out, List.drop_of_length_le (by rw [← Lib.size_eq]; omega), quoL, List.append_nil])
      have g1 : ¬ (k : Int) < s.size := by omega
      have hb := hB.below
      have hrun := hB.string
      clear hB
      go_wp2
      go_ret
      exact ⟨ret_string (Kit.bytes_ext (by rw [← hend.out])), hb⟩
end Go.Proofs.Ytdfjkncfbcmleaa.Q4
