/-
  utf8.first returns how many bytes stand where a byte is first, and its bits; utf8.Get returns the code point whose bytes stand at a place, and the place behind it, or -1 and the place. Condition: the text has at most 2^47 bytes.
-/
import Derived.Test.YtnnbbjdidbggmaaGreatDoorU8Size
namespace Go.Proofs.YtnnbbjdidbggmaaGreatDoor.U8
open Go Go.RowKit Go.Joins Kit

theorem first_any (c : Int) (h0 : 0 ≤ c) (h1 : c < 256) (w : World) :
    Calls Tryz.prog 101 #[.int .u8 c] w fun e w' => e = .returned (.tuple #[.int .i64 (firstN c.toNat : Nat), .int .i64 (firstB c.toNat : Nat)]) ∧ w = w' := by
  rcases (show c < 128 ∨ (128 ≤ c ∧ c < 192) ∨ (192 ≤ c ∧ c < 224) ∨ (224 ≤ c ∧ c < 240) ∨ (240 ≤ c ∧ c < 248) ∨ 248 ≤ c by omega) with h | ⟨h, h2⟩ | ⟨h, h2⟩ | ⟨h, h2⟩ | ⟨h, h2⟩ | h
  all_goals
    have hN : Hid (firstN c.toNat = if c.toNat < 128 then 1 else if c.toNat < 192 then 0 else if c.toNat < 224 then 2 else if c.toNat < 240 then 3 else if c.toNat < 248 then 4 else 0) := by show _ = _; rfl
    have hB : Hid (firstB c.toNat = if c.toNat < 128 then c.toNat else if c.toNat < 192 then 0 else if c.toNat < 224 then c.toNat - 192 else if c.toNat < 240 then c.toNat - 224 else if c.toNat < 248 then c.toNat - 240 else 0) := by show _ = _; rfl
    go_enter Tryz.func101, Tryz.ntmps101
    go_wp2
    go_ret2
    refine ⟨ret_two ?_ ?_, rfl⟩
    · rw [hN.out]; clear hN hB; split <;> (try split) <;> (try split) <;> (try split) <;> (try split) <;> omega
    · rw [hB.out]; clear hN hB; split <;> (try split) <;> (try split) <;> (try split) <;> (try split) <;> omega
set_option maxHeartbeats 1000000 in
set_option maxRecDepth 100000 in
theorem get_at (s : ByteArray) (a : Nat) (ha : a < s.size) (hs : s.size ≤ 140737488355328) (w : World) :
    Calls Tryz.prog 61 #[.string s, .int .i64 (a : Int)] w fun e w' => e = .returned (getV (decL (fromL s (a : Int))) (a : Int)) ∧ w = w' := by
  have hd := Lib.hid ((congrArg decL (fromL_nat s a)).trans (decL_at s a ha))
  have hc := s[a].toNat_lt
  have hN := firstN_le s[a].toNat
  have hB := firstB_lt s[a].toNat
  by_cases hz : firstN s[a].toNat = 0 ∨ s.size - a < firstN s[a].toNat
  · have hnone : Hid (decL (fromL s (a : Int)) = none) := by show _ = _; rw [hd.out, if_pos hz]
    rcases (show firstN s[a].toNat = 0 ∨ (1 ≤ firstN s[a].toNat ∧ s.size - a < firstN s[a].toNat) by omega) with h | ⟨h, h2⟩
    all_goals
      clear hz
      have HZ := Lib.hid h
      go_enter Tryz.func61, Tryz.ntmps61
      go_wp2_with fail
      refine (first_any (s[a].toNat : Int) (by omega) (by omega) w).mono ?_
      rintro e w1 ⟨rfl, rfl⟩
      rw [show ((s[a].toNat : Int)).toNat = s[a].toNat from rfl]
      go_wp2
      go_ret2
      exact ⟨getV_none hnone.out, rfl⟩
  · obtain ⟨N, hNN⟩ : ∃ N, firstN s[a].toNat = N := ⟨_, rfl⟩
    obtain ⟨B, hBB⟩ : ∃ B, firstB s[a].toNat = B := ⟨_, rfl⟩
    rw [hNN] at hz hN
    rw [hBB] at hB
    have n1 : 1 ≤ N := by omega
    have n2 : N ≤ s.size - a := by omega
    have hopen : Hid (decL (fromL s (a : Int)) = decT N (accT B ((s.data.toList.drop (a + 1)).take (N - 1)))) := by
      show _ = _
      rw [hd.out, hNN, hBB, if_neg hz]
    have HN := Lib.hid hNN
    have HB := Lib.hid hBB
    clear hz hd hNN hBB
    have hstart : Hid (accT B ((s.data.toList.drop (a + 1)).take (a + N - (a + 1))) = accT B ((s.data.toList.drop (a + 1)).take (N - 1))) := by
      show _ = _
      rw [show a + N - (a + 1) = N - 1 by omega]
    go_enter Tryz.func61, Tryz.ntmps61
    go_wp2_with fail
    refine (first_any (s[a].toNat : Int) (by omega) (by omega) w).mono ?_
    rintro e w1 ⟨rfl, rfl⟩
    rw [show ((s[a].toNat : Int)).toNat = s[a].toNat from rfl, HN.out, HB.out]
    have b0 : ((N : Int) == 0) = false := by rw [beq_eq_false_iff_ne]; omega
    have g0 : (N : Int) ≤ (s.size : Int) - a := by omega
    go_wp2_with fail
    go_loop [4, 5, 7] (fun r u i => ∃ j m : Nat, u = .int .i64 ((a : Int) + N) ∧ a + 1 ≤ j ∧ j ≤ a + N ∧ Hid (m < 128 * 64 ^ (j - (a + 1))) ∧ i = .int .i64 j ∧ r = .int .i64 m ∧ Hid (accT m ((s.data.toList.drop j).take (a + N - j)) = accT B ((s.data.toList.drop (a + 1)).take (N - 1)))) (fun _ _ i => a + N - (intOf i).toNat)
    case atStart => exact ⟨a + 1, B, rfl, by omega, by omega, by show _ < _; rw [Nat.sub_self]; omega, by go_num, rfl, hstart⟩
    case round =>
      clear hstart
      obtain ⟨j, m, rfl, hj1, hj2, hm, rfl, rfl, hacc⟩ := hrel
      have hp := pow64 (d := j - (a + 1)) (by omega)
      have hm2 : m < 33554432 := by have := hm.out; omega
      clear hp
      by_cases hlt : j < a + N
      · have hj : j < s.size := by omega
        have hcj := s[j].toNat_lt
        have hst := accT_step s j (a + N - j - 1) m hj
        rw [show a + N - j - 1 + 1 = a + N - j by omega] at hst
        have HST := Lib.hid hst
        clear hst
        by_cases ht : 128 ≤ s[j].toNat ∧ s[j].toNat < 192
        · have hnx : Hid (accT (m * 64 + (s[j].toNat - 128)) ((s.data.toList.drop (j + 1)).take (a + N - (j + 1))) = accT B ((s.data.toList.drop (a + 1)).take (N - 1))) := by
            show _ = _
            rw [← hacc.out, HST.out, if_pos ht, show a + N - (j + 1) = a + N - j - 1 by omega]
          have hmn : Hid (m * 64 + (s[j].toNat - 128) < 128 * 64 ^ (j + 1 - (a + 1))) := pow_next hm.out (by omega) (by omega)
          obtain ⟨t1, t2⟩ := ht
          have g1 : (128 : Int) ≤ s[j].toNat := by omega
          have g2 : (s[j].toNat : Int) < 192 := by omega
          have g3 : (j : Int) < a + N := by omega
          have e1 := or6 ((m : Int) * 64) ((s[j].toNat : Int) - 128) (by omega) (by omega) (by omega) (by omega) (by omega)
          go_wp2
          go_round
          case rel => exact ⟨j + 1, m * 64 + (s[j].toNat - 128), rfl, by omega, by omega, hmn, by go_num, by congr 1; omega, hnx⟩
          case measure => simp [intOf]; omega
        · have hnone : Hid (decL (fromL s (a : Int)) = none) := by
            show _ = _
            rw [hopen.out, ← hacc.out, HST.out, if_neg ht]
            rfl
          have g3 : (j : Int) < a + N := by omega
          rcases (show s[j].toNat < 128 ∨ (128 ≤ s[j].toNat ∧ 192 ≤ s[j].toNat) by omega) with h | ⟨h, h2⟩
          all_goals
            clear ht
            go_wp2
            go_ret2
            exact ⟨getV_none hnone.out, rfl⟩
      · have hje : j = a + N := by omega
        have hend : Hid (decL (fromL s (a : Int)) = decT N (some m)) := by
          show _ = _
          rw [hopen.out, ← hacc.out, hje, Nat.sub_self, List.take_zero, accT]
        have g3 : ¬ (j : Int) < a + N := by omega
        clear hje
        go_wp2_with fail
        refine (size_any (m : Int) w).mono ?_
        rintro e w1 ⟨rfl, rfl⟩
        by_cases hsz : sizeN (m : Int) = N
        · have hfin : Hid (decL (fromL s (a : Int)) = some (m, N)) := by show _ = _; rw [hend.out]; unfold decT; simp only; rw [if_pos hsz]
          have HSZ := Lib.hid hsz
          rw [hsz]
          clear hsz
          go_wp2
          go_ret2
          exact ⟨getV_some hfin.out rfl rfl, rfl⟩
        · have hfin : Hid (decL (fromL s (a : Int)) = none) := by show _ = _; rw [hend.out]; unfold decT; simp only; rw [if_neg hsz]
          have hb : (((sizeN (m : Int) : Nat) : Int) == (N : Int)) = false := by rw [beq_eq_false_iff_ne]; omega
          have hb2 : (((sizeN (m : Int) : Nat) : Int) != (N : Int)) = true := by rw [bne_iff_ne]; omega
          generalize sizeN (m : Int) = z at hb hb2 ⊢
          clear hsz
          go_wp2
          go_ret2
          exact ⟨getV_none hfin.out, rfl⟩
theorem get_any (s : ByteArray) (p : Int) (hs : s.size ≤ 140737488355328) (w : World) :
    Calls Tryz.prog 61 #[.string s, .int .i64 p] w fun e w' => e = .returned (getV (decL (fromL s p)) p) ∧ w = w' := by
  rcases (show p < 0 ∨ (0 ≤ p ∧ (s.size : Int) ≤ p) ∨ (0 ≤ p ∧ p < s.size) by omega) with h | ⟨h0, h⟩ | ⟨h0, h⟩
  · have hn : Hid (decL (fromL s p) = none) := by show _ = _; rw [fromL_out (by omega)]; rfl
    go_enter Tryz.func61, Tryz.ntmps61
    go_wp2
    go_ret2
    exact ⟨getV_none hn.out, rfl⟩
  · have hn : Hid (decL (fromL s p) = none) := by show _ = _; rw [fromL_out (by omega)]; rfl
    go_enter Tryz.func61, Tryz.ntmps61
    go_wp2
    go_ret2
    exact ⟨getV_none hn.out, rfl⟩
  · obtain ⟨a, rfl⟩ := Int.eq_ofNat_of_zero_le h0
    exact get_at s a (by omega) hs w
theorem get_none {s : ByteArray} {a : Nat} (h : decL (s.data.toList.drop a) = none) (hs : s.size ≤ 140737488355328) (w : World) :
    Calls Tryz.prog 61 #[.string s, .int .i64 (a : Int)] w fun e w' => e = .returned (.tuple #[.int .i64 (-1), .int .i64 (a : Int)]) ∧ w = w' :=
  (get_any s (a : Int) hs w).mono fun _ _ h' => ⟨h'.1.trans (getV_none ((congrArg decL (fromL_nat s a)).trans h)).symm, h'.2⟩
theorem get_some {s : ByteArray} {a r n : Nat} (h : decL (s.data.toList.drop a) = some (r, n)) (hs : s.size ≤ 140737488355328) (w : World) :
    Calls Tryz.prog 61 #[.string s, .int .i64 (a : Int)] w fun e w' => e = .returned (.tuple #[.int .i64 (r : Int), .int .i64 ((a : Int) + n)]) ∧ w = w' :=
  (get_any s (a : Int) hs w).mono fun _ _ h' => ⟨h'.1.trans (getV_some ((congrArg decL (fromL_nat s a)).trans h) rfl rfl).symm, h'.2⟩
end Go.Proofs.YtnnbbjdidbggmaaGreatDoor.U8
