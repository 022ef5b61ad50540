/-
  The document's answer for package utf8, as the statements have it: Get, Valid, Cut return what the program's do. Condition: the texts have at most 2^47 bytes, the numbers are ints.
-/
import Derived.Test.YtnnbbjdidbggmaaGreatDoorU8Ref
namespace Go.Proofs.YtnnbbjdidbggmaaGreatDoor.U8
open Go Go.RowKit Go.Joins Kit

/-! ### The other way to read a code point: by as many bytes as the first one says, and by putting it again -/
def refN (c : Nat) : Nat := if 240 ≤ c then 4 else if 224 ≤ c then 3 else if 192 ≤ c then 2 else 1
def refB (c : Nat) : Nat := if 240 ≤ c then c % 8 else if 224 ≤ c then c % 16 else if 192 ≤ c then c % 32 else c
def accR : Nat → List UInt8 → Nat
  | r, [] => r
  | r, c :: t => accR (r * 64 + c.toNat % 64) t
theorem refN_pos (c : Nat) : 1 ≤ refN c ∧ refN c ≤ 4 := by unfold refN; split <;> (try split) <;> (try split) <;> omega
theorem refB_lt (c : Nat) (h : c < 256) : refB c < 256 := by unfold refB; split <;> (try split) <;> (try split) <;> omega
theorem ref_read (l : List UInt8) (c : UInt8) (t : List UInt8) (hl : l = c :: t) (r n : Nat) (h : decL l = some (r, n)) : refN c.toNat = n ∧ accR (refB c.toNat) (t.take (n - 1)) = r := by
  obtain ⟨h1, h2, h3, h4⟩ := decL_some h
  have hc : c.toNat < 256 := c.toNat_lt
  have h5 : l = putL r ++ l.drop n := by rw [← h4, List.take_append_drop]
  rw [hl] at h5
  rcases sizeN_cases r with e | e | e | e | e
  · omega
  · have hr := sizeN_one.1 e
    rw [putL_one e] at h5
    simp only [List.cons_append, List.nil_append, List.cons.injEq] at h5
    obtain ⟨rfl, h5⟩ := h5
    have hb := b8_nat (x := r) (by omega) (by omega)
    rw [e] at h1
    subst h1
    rw [hb]
    refine ⟨by unfold refN; split <;> (try split) <;> (try split) <;> omega, ?_⟩
    simp only [Nat.sub_self, List.take_zero, accR]
    unfold refB; split <;> (try split) <;> (try split) <;> omega
  · have hr := sizeN_two.1 e
    rw [putL_two e] at h5
    simp only [List.cons_append, List.nil_append, List.cons.injEq] at h5
    obtain ⟨rfl, h5⟩ := h5
    have hb := b8_nat (x := 192 + r / 64) (by omega) (by omega)
    have hb2 := b8_nat (x := 128 + r % 64) (by omega) (by omega)
    rw [e] at h1
    subst h1
    rw [hb, h5]
    refine ⟨by unfold refN; split <;> (try split) <;> (try split) <;> omega, ?_⟩
    simp only [Nat.add_one_sub_one, List.take_succ_cons, List.take_zero, accR, hb2]
    unfold refB; split <;> (try split) <;> (try split) <;> omega
  · have hr := sizeN_three.1 e
    rw [putL_three e] at h5
    simp only [List.cons_append, List.nil_append, List.cons.injEq] at h5
    obtain ⟨rfl, h5⟩ := h5
    have hb := b8_nat (x := 224 + r / 4096) (by omega) (by omega)
    have hb2 := b8_nat (x := 128 + r / 64 % 64) (by omega) (by omega)
    have hb3 := b8_nat (x := 128 + r % 64) (by omega) (by omega)
    rw [e] at h1
    subst h1
    rw [hb, h5]
    refine ⟨by unfold refN; split <;> (try split) <;> (try split) <;> omega, ?_⟩
    simp only [Nat.add_one_sub_one, List.take_succ_cons, List.take_zero, accR, hb2, hb3]
    unfold refB; split <;> (try split) <;> (try split) <;> omega
  · have hr := sizeN_four.1 e
    rw [putL_four e] at h5
    simp only [List.cons_append, List.nil_append, List.cons.injEq] at h5
    obtain ⟨rfl, h5⟩ := h5
    have hb := b8_nat (x := 240 + r / 262144) (by omega) (by omega)
    have hb2 := b8_nat (x := 128 + r / 4096 % 64) (by omega) (by omega)
    have hb3 := b8_nat (x := 128 + r / 64 % 64) (by omega) (by omega)
    have hb4 := b8_nat (x := 128 + r % 64) (by omega) (by omega)
    rw [e] at h1
    subst h1
    rw [hb, h5]
    refine ⟨by unfold refN; split <;> (try split) <;> (try split) <;> omega, ?_⟩
    simp only [Nat.add_one_sub_one, List.take_succ_cons, List.take_zero, accR, hb2, hb3, hb4]
    unfold refB; split <;> (try split) <;> (try split) <;> omega
theorem ref_short {c : UInt8} {t : List UInt8} (h : t.length + 1 < refN c.toNat) : decL (c :: t) = none := by
  cases hd : decL (c :: t) with
  | none => rfl
  | some p =>
    obtain ⟨r, n⟩ := p
    obtain ⟨h1, _⟩ := ref_read _ c t rfl r n hd
    obtain ⟨_, _, h3, _⟩ := decL_some hd
    simp only [List.length_cons] at h3
    omega
theorem ref_yes {c : UInt8} {t : List UInt8} {N m : Nat} (hN : refN c.toNat = N) (h : N ≤ t.length + 1) (he : putL m = (c :: t).take N) : decL (c :: t) = some (m, N) := by
  have hl : sizeN (m : Int) = N := by rw [← putL_length, he, List.length_take, List.length_cons]; omega
  have := refN_pos c.toNat
  exact decL_iff.2 ⟨hl, by omega, he.symm⟩
theorem ref_no {c : UInt8} {t : List UInt8} {N m : Nat} (hN : refN c.toNat = N) (hm : accR (refB c.toNat) (t.take (N - 1)) = m) (he : putL m ≠ (c :: t).take N) : decL (c :: t) = none := by
  cases hd : decL (c :: t) with
  | none => rfl
  | some p =>
    obtain ⟨r, n⟩ := p
    obtain ⟨h1, h2⟩ := ref_read _ c t rfl r n hd
    obtain ⟨_, _, _, h4⟩ := decL_some hd
    rw [hN] at h1
    subst h1
    rw [hm] at h2
    subst h2
    exact absurd h4.symm he
theorem accR_step (s : ByteArray) (j k m : Nat) (h : j < s.size) : accR m ((s.data.toList.drop j).take (k + 1)) = accR (m * 64 + s[j].toNat % 64) ((s.data.toList.drop (j + 1)).take k) := by
  rw [drop_cons s j h, List.take_succ_cons, accR]
theorem pow64' {d : Nat} (h : d ≤ 3) : 256 * 64 ^ d ≤ 67108864 := by
  rcases (show d = 0 ∨ d = 1 ∨ d = 2 ∨ d = 3 by omega) with rfl | rfl | rfl | rfl <;> decide
theorem pow_next' {m x d e : Nat} (h : m < 256 * 64 ^ d) (hx : x < 64) (he : e = d + 1) : m * 64 + x < 256 * 64 ^ e := by
  subst he
  rw [Nat.pow_succ]
  omega
theorem extract_mid (s : ByteArray) (a n : Nat) : (s.extract a (a + n)).toList = (s.data.toList.drop a).take n := by
  rw [Lib.extract_toList, show a + n - a = n by omega]

set_option maxHeartbeats 2000000 in
set_option maxRecDepth 100000 in
theorem ref_get4 (s : ByteArray) (a : Nat) (ha : a < s.size) (hs : s.size ≤ 140737488355328) (hcl : 240 ≤ s[a].toNat) (w : World) :
    Calls Tryz.prog 36 #[.string s, .int .i64 (a : Int)] w fun e w' => e = .returned (getV (decL (fromL s (a : Int))) (a : Int)) ∧ Below w.heap.size w w' := by
  have hl := drop_cons s a ha
  have hd := Lib.hid (fromL_nat s a)
  have hc := s[a].toNat_lt
  have hN : Hid (refN s[a].toNat = 4) := by show _ = _; unfold refN; split <;> (try split) <;> (try split) <;> omega
  have hB : Hid (refB s[a].toNat = s[a].toNat % 8) := by show _ = _; unfold refB; split <;> (try split) <;> (try split) <;> omega
  have HL := Lib.hid hl
  clear hl
  have bs : decide (s.size ≤ a) = false := by rw [decide_eq_false_iff_not]; omega
  have b240 : decide ((240 : Int) ≤ (s[a].toNat : Int)) = true := by rw [decide_eq_true_eq]; omega
  have ea := and7 (s[a].toNat : Int) (by omega) (by omega)
  by_cases hz : s.size - a < 4
  · have hnone : Hid (decL (fromL s (a : Int)) = none) := by
      show _ = _
      rw [hd.out, HL.out]
      refine ref_short ?_
      rw [hN.out, List.length_drop, ← Lib.size_eq]
      omega
    have g0 : (s.size : Int) - a < 4 := by omega
    clear hz
    go_enter Tryz.func36, Tryz.ntmps36
    go_wp2
    go_ret2
    exact ⟨getV_none hnone.out, Below.refl _ _⟩
  · have g0 : (4 : Int) ≤ (s.size : Int) - a := by omega
    have hstart : Hid (accR (s[a].toNat % 8) ((s.data.toList.drop (a + 1)).take (4 - 1)) = accR (refB s[a].toNat) ((s.data.toList.drop (a + 1)).take (4 - 1))) := by
      show _ = _
      rw [hB.out]
    go_enter Tryz.func36, Tryz.ntmps36
    go_wp2_with fail
    go_loop [8, 9] (fun r i => ∃ k m : Nat, 1 ≤ k ∧ k ≤ 4 ∧ Hid (m < 256 * 64 ^ (k - 1)) ∧ i = .int .i64 k ∧ r = .int .i64 m ∧ Hid (accR m ((s.data.toList.drop (a + k)).take (4 - k)) = accR (refB s[a].toNat) ((s.data.toList.drop (a + 1)).take (4 - 1)))) (fun _ i => 4 - (intOf i).toNat)
    case atStart => exact ⟨1, s[a].toNat % 8, by omega, by omega, by show _ < _; omega, rfl, rfl, hstart⟩
    case round =>
      clear hstart
      obtain ⟨k, m, hk1, hk2, hm, rfl, rfl, hacc⟩ := hrel
      have hp := pow64' (d := k - 1) (by omega)
      have hm2 : m < 67108864 := by have := hm.out; omega
      clear hp
      by_cases hlt : k < 4
      · have hj : a + k < s.size := by omega
        have hcj := s[a + k].toNat_lt
        have hst := accR_step s (a + k) (4 - k - 1) m hj
        rw [show 4 - k - 1 + 1 = 4 - k by omega] at hst
        have HST := Lib.hid hst
        clear hst
        have hnx : Hid (accR (m * 64 + s[a + k].toNat % 64) ((s.data.toList.drop (a + (k + 1))).take (4 - (k + 1))) = accR (refB s[a].toNat) ((s.data.toList.drop (a + 1)).take (4 - 1))) := by
          show _ = _
          rw [← hacc.out, HST.out, show 4 - (k + 1) = 4 - k - 1 by omega]
          rfl
        have hmn : Hid (m * 64 + s[a + k].toNat % 64 < 256 * 64 ^ (k + 1 - 1)) := pow_next' hm.out (by omega) (by omega)
        have e1 := and63 (s[a + k].toNat : Int) (by omega) (by omega)
        have e2 := or6 ((m : Int) * 64) ((s[a + k].toNat : Int) % 64) (by omega) (by omega) (by omega) (by omega) (by omega)
        go_wp2
        go_round
        case rel => exact ⟨k + 1, m * 64 + s[a + k].toNat % 64, by omega, by omega, hmn, by go_num, by congr 1, hnx⟩
        case measure => simp [intOf]; omega
      · have hke : k = 4 := by omega
        subst hke
        have hend : Hid (accR (refB s[a].toNat) ((s.data.toList.drop (a + 1)).take (4 - 1)) = m) := by
          show _ = _
          rw [← hacc.out, Nat.sub_self, List.take_zero, accR]
        have hx := extract_mid s a 4
        have hpl : (putB (m : Int)).toList = putL m := by rw [Lib.toList_data]; rfl
        have ex1 : IntKind.i64.wrap ((a : Int) + 4) = (a : Int) + 4 := IntWalk.i64_in _ (by omega)
        have ex2 : 0 ≤ (a : Int) + 4 := by omega
        have ex3 : ((a : Int) + 4).toNat = a + 4 := by omega
        by_cases he : putL m = (s.data.toList.drop a).take 4
        · have hfin : Hid (decL (fromL s (a : Int)) = some (m, 4)) := by
            show _ = _
            rw [hd.out, HL.out]
            rw [HL.out] at he
            exact ref_yes hN.out (by rw [List.length_drop, ← Lib.size_eq]; omega) he
          have heq : ((putB (m : Int)).toList == (s.extract a (a + 4)).toList) = true := by rw [hx, hpl, he]; simp
          have HE := Lib.hid he
          clear he hx hpl
          go_wp2_with fail
          go_region_with ((go_at_call 62; refine (ref_put (m : Int) _).mono ?_; rintro e w' ⟨rfl, hb⟩))
          all_goals
            go_wp2
            go_ret2
            exact ⟨getV_some hfin.out rfl rfl, by first | exact hb | exact below_first hb | exact hb.drew⟩
        · have hfin : Hid (decL (fromL s (a : Int)) = none) := by
            show _ = _
            rw [hd.out, HL.out]
            rw [HL.out] at he
            exact ref_no hN.out hend.out he
          have heq : ((putB (m : Int)).toList == (s.extract a (a + 4)).toList) = false := by rw [hx, hpl]; simpa using he
          have HE := Lib.hid he
          clear he hx hpl
          go_wp2_with fail
          go_region_with ((go_at_call 62; refine (ref_put (m : Int) _).mono ?_; rintro e w' ⟨rfl, hb⟩))
          all_goals
            go_wp2
            go_ret2
            exact ⟨getV_none hfin.out, by first | exact hb | exact below_first hb | exact hb.drew⟩
set_option maxHeartbeats 2000000 in
set_option maxRecDepth 100000 in
theorem ref_get3 (s : ByteArray) (a : Nat) (ha : a < s.size) (hs : s.size ≤ 140737488355328) (hcl : 224 ≤ s[a].toNat ∧ s[a].toNat < 240) (w : World) :
    Calls Tryz.prog 36 #[.string s, .int .i64 (a : Int)] w fun e w' => e = .returned (getV (decL (fromL s (a : Int))) (a : Int)) ∧ Below w.heap.size w w' := by
  have hl := drop_cons s a ha
  have hd := Lib.hid (fromL_nat s a)
  have hc := s[a].toNat_lt
  have hN : Hid (refN s[a].toNat = 3) := by show _ = _; unfold refN; split <;> (try split) <;> (try split) <;> omega
  have hB : Hid (refB s[a].toNat = s[a].toNat % 16) := by show _ = _; unfold refB; split <;> (try split) <;> (try split) <;> omega
  have HL := Lib.hid hl
  clear hl
  have bs : decide (s.size ≤ a) = false := by rw [decide_eq_false_iff_not]; omega
  have b240 : decide ((240 : Int) ≤ (s[a].toNat : Int)) = false := by rw [decide_eq_false_iff_not]; omega
  have b224 : decide ((224 : Int) ≤ (s[a].toNat : Int)) = true := by rw [decide_eq_true_eq]; omega
  have ea := and15 (s[a].toNat : Int) (by omega) (by omega)
  by_cases hz : s.size - a < 3
  · have hnone : Hid (decL (fromL s (a : Int)) = none) := by
      show _ = _
      rw [hd.out, HL.out]
      refine ref_short ?_
      rw [hN.out, List.length_drop, ← Lib.size_eq]
      omega
    have g0 : (s.size : Int) - a < 3 := by omega
    clear hz
    go_enter Tryz.func36, Tryz.ntmps36
    go_wp2
    go_ret2
    exact ⟨getV_none hnone.out, Below.refl _ _⟩
  · have g0 : (3 : Int) ≤ (s.size : Int) - a := by omega
    have hstart : Hid (accR (s[a].toNat % 16) ((s.data.toList.drop (a + 1)).take (3 - 1)) = accR (refB s[a].toNat) ((s.data.toList.drop (a + 1)).take (3 - 1))) := by
      show _ = _
      rw [hB.out]
    go_enter Tryz.func36, Tryz.ntmps36
    go_wp2_with fail
    go_loop [8, 9] (fun r i => ∃ k m : Nat, 1 ≤ k ∧ k ≤ 3 ∧ Hid (m < 256 * 64 ^ (k - 1)) ∧ i = .int .i64 k ∧ r = .int .i64 m ∧ Hid (accR m ((s.data.toList.drop (a + k)).take (3 - k)) = accR (refB s[a].toNat) ((s.data.toList.drop (a + 1)).take (3 - 1)))) (fun _ i => 3 - (intOf i).toNat)
    case atStart => exact ⟨1, s[a].toNat % 16, by omega, by omega, by show _ < _; omega, rfl, rfl, hstart⟩
    case round =>
      clear hstart
      obtain ⟨k, m, hk1, hk2, hm, rfl, rfl, hacc⟩ := hrel
      have hp := pow64' (d := k - 1) (by omega)
      have hm2 : m < 67108864 := by have := hm.out; omega
      clear hp
      by_cases hlt : k < 3
      · have hj : a + k < s.size := by omega
        have hcj := s[a + k].toNat_lt
        have hst := accR_step s (a + k) (3 - k - 1) m hj
        rw [show 3 - k - 1 + 1 = 3 - k by omega] at hst
        have HST := Lib.hid hst
        clear hst
        have hnx : Hid (accR (m * 64 + s[a + k].toNat % 64) ((s.data.toList.drop (a + (k + 1))).take (3 - (k + 1))) = accR (refB s[a].toNat) ((s.data.toList.drop (a + 1)).take (3 - 1))) := by
          show _ = _
          rw [← hacc.out, HST.out, show 3 - (k + 1) = 3 - k - 1 by omega]
          rfl
        have hmn : Hid (m * 64 + s[a + k].toNat % 64 < 256 * 64 ^ (k + 1 - 1)) := pow_next' hm.out (by omega) (by omega)
        have e1 := and63 (s[a + k].toNat : Int) (by omega) (by omega)
        have e2 := or6 ((m : Int) * 64) ((s[a + k].toNat : Int) % 64) (by omega) (by omega) (by omega) (by omega) (by omega)
        go_wp2
        go_round
        case rel => exact ⟨k + 1, m * 64 + s[a + k].toNat % 64, by omega, by omega, hmn, by go_num, by congr 1, hnx⟩
        case measure => simp [intOf]; omega
      · have hke : k = 3 := by omega
        subst hke
        have hend : Hid (accR (refB s[a].toNat) ((s.data.toList.drop (a + 1)).take (3 - 1)) = m) := by
          show _ = _
          rw [← hacc.out, Nat.sub_self, List.take_zero, accR]
        have hx := extract_mid s a 3
        have hpl : (putB (m : Int)).toList = putL m := by rw [Lib.toList_data]; rfl
        have ex1 : IntKind.i64.wrap ((a : Int) + 3) = (a : Int) + 3 := IntWalk.i64_in _ (by omega)
        have ex2 : 0 ≤ (a : Int) + 3 := by omega
        have ex3 : ((a : Int) + 3).toNat = a + 3 := by omega
        by_cases he : putL m = (s.data.toList.drop a).take 3
        · have hfin : Hid (decL (fromL s (a : Int)) = some (m, 3)) := by
            show _ = _
            rw [hd.out, HL.out]
            rw [HL.out] at he
            exact ref_yes hN.out (by rw [List.length_drop, ← Lib.size_eq]; omega) he
          have heq : ((putB (m : Int)).toList == (s.extract a (a + 3)).toList) = true := by rw [hx, hpl, he]; simp
          have HE := Lib.hid he
          clear he hx hpl
          go_wp2_with fail
          go_region_with ((go_at_call 62; refine (ref_put (m : Int) _).mono ?_; rintro e w' ⟨rfl, hb⟩))
          all_goals
            go_wp2
            go_ret2
            exact ⟨getV_some hfin.out rfl rfl, by first | exact hb | exact below_first hb | exact hb.drew⟩
        · have hfin : Hid (decL (fromL s (a : Int)) = none) := by
            show _ = _
            rw [hd.out, HL.out]
            rw [HL.out] at he
            exact ref_no hN.out hend.out he
          have heq : ((putB (m : Int)).toList == (s.extract a (a + 3)).toList) = false := by rw [hx, hpl]; simpa using he
          have HE := Lib.hid he
          clear he hx hpl
          go_wp2_with fail
          go_region_with ((go_at_call 62; refine (ref_put (m : Int) _).mono ?_; rintro e w' ⟨rfl, hb⟩))
          all_goals
            go_wp2
            go_ret2
            exact ⟨getV_none hfin.out, by first | exact hb | exact below_first hb | exact hb.drew⟩
set_option maxHeartbeats 2000000 in
set_option maxRecDepth 100000 in
theorem ref_get2 (s : ByteArray) (a : Nat) (ha : a < s.size) (hs : s.size ≤ 140737488355328) (hcl : 192 ≤ s[a].toNat ∧ s[a].toNat < 224) (w : World) :
    Calls Tryz.prog 36 #[.string s, .int .i64 (a : Int)] w fun e w' => e = .returned (getV (decL (fromL s (a : Int))) (a : Int)) ∧ Below w.heap.size w w' := by
  have hl := drop_cons s a ha
  have hd := Lib.hid (fromL_nat s a)
  have hc := s[a].toNat_lt
  have hN : Hid (refN s[a].toNat = 2) := by show _ = _; unfold refN; split <;> (try split) <;> (try split) <;> omega
  have hB : Hid (refB s[a].toNat = s[a].toNat % 32) := by show _ = _; unfold refB; split <;> (try split) <;> (try split) <;> omega
  have HL := Lib.hid hl
  clear hl
  have bs : decide (s.size ≤ a) = false := by rw [decide_eq_false_iff_not]; omega
  have b240 : decide ((240 : Int) ≤ (s[a].toNat : Int)) = false := by rw [decide_eq_false_iff_not]; omega
  have b224 : decide ((224 : Int) ≤ (s[a].toNat : Int)) = false := by rw [decide_eq_false_iff_not]; omega
  have b192 : decide ((192 : Int) ≤ (s[a].toNat : Int)) = true := by rw [decide_eq_true_eq]; omega
  have ea := and31 (s[a].toNat : Int) (by omega) (by omega)
  by_cases hz : s.size - a < 2
  · have hnone : Hid (decL (fromL s (a : Int)) = none) := by
      show _ = _
      rw [hd.out, HL.out]
      refine ref_short ?_
      rw [hN.out, List.length_drop, ← Lib.size_eq]
      omega
    have g0 : (s.size : Int) - a < 2 := by omega
    clear hz
    go_enter Tryz.func36, Tryz.ntmps36
    go_wp2
    go_ret2
    exact ⟨getV_none hnone.out, Below.refl _ _⟩
  · have g0 : (2 : Int) ≤ (s.size : Int) - a := by omega
    have hstart : Hid (accR (s[a].toNat % 32) ((s.data.toList.drop (a + 1)).take (2 - 1)) = accR (refB s[a].toNat) ((s.data.toList.drop (a + 1)).take (2 - 1))) := by
      show _ = _
      rw [hB.out]
    go_enter Tryz.func36, Tryz.ntmps36
    go_wp2_with fail
    go_loop [8, 9] (fun r i => ∃ k m : Nat, 1 ≤ k ∧ k ≤ 2 ∧ Hid (m < 256 * 64 ^ (k - 1)) ∧ i = .int .i64 k ∧ r = .int .i64 m ∧ Hid (accR m ((s.data.toList.drop (a + k)).take (2 - k)) = accR (refB s[a].toNat) ((s.data.toList.drop (a + 1)).take (2 - 1)))) (fun _ i => 2 - (intOf i).toNat)
    case atStart => exact ⟨1, s[a].toNat % 32, by omega, by omega, by show _ < _; omega, rfl, rfl, hstart⟩
    case round =>
      clear hstart
      obtain ⟨k, m, hk1, hk2, hm, rfl, rfl, hacc⟩ := hrel
      have hp := pow64' (d := k - 1) (by omega)
      have hm2 : m < 67108864 := by have := hm.out; omega
      clear hp
      by_cases hlt : k < 2
      · have hj : a + k < s.size := by omega
        have hcj := s[a + k].toNat_lt
        have hst := accR_step s (a + k) (2 - k - 1) m hj
        rw [show 2 - k - 1 + 1 = 2 - k by omega] at hst
        have HST := Lib.hid hst
        clear hst
        have hnx : Hid (accR (m * 64 + s[a + k].toNat % 64) ((s.data.toList.drop (a + (k + 1))).take (2 - (k + 1))) = accR (refB s[a].toNat) ((s.data.toList.drop (a + 1)).take (2 - 1))) := by
          show _ = _
          rw [← hacc.out, HST.out, show 2 - (k + 1) = 2 - k - 1 by omega]
          rfl
        have hmn : Hid (m * 64 + s[a + k].toNat % 64 < 256 * 64 ^ (k + 1 - 1)) := pow_next' hm.out (by omega) (by omega)
        have e1 := and63 (s[a + k].toNat : Int) (by omega) (by omega)
        have e2 := or6 ((m : Int) * 64) ((s[a + k].toNat : Int) % 64) (by omega) (by omega) (by omega) (by omega) (by omega)
        go_wp2
        go_round
        case rel => exact ⟨k + 1, m * 64 + s[a + k].toNat % 64, by omega, by omega, hmn, by go_num, by congr 1, hnx⟩
        case measure => simp [intOf]; omega
      · have hke : k = 2 := by omega
        subst hke
        have hend : Hid (accR (refB s[a].toNat) ((s.data.toList.drop (a + 1)).take (2 - 1)) = m) := by
          show _ = _
          rw [← hacc.out, Nat.sub_self, List.take_zero, accR]
        have hx := extract_mid s a 2
        have hpl : (putB (m : Int)).toList = putL m := by rw [Lib.toList_data]; rfl
        have ex1 : IntKind.i64.wrap ((a : Int) + 2) = (a : Int) + 2 := IntWalk.i64_in _ (by omega)
        have ex2 : 0 ≤ (a : Int) + 2 := by omega
        have ex3 : ((a : Int) + 2).toNat = a + 2 := by omega
        by_cases he : putL m = (s.data.toList.drop a).take 2
        · have hfin : Hid (decL (fromL s (a : Int)) = some (m, 2)) := by
            show _ = _
            rw [hd.out, HL.out]
            rw [HL.out] at he
            exact ref_yes hN.out (by rw [List.length_drop, ← Lib.size_eq]; omega) he
          have heq : ((putB (m : Int)).toList == (s.extract a (a + 2)).toList) = true := by rw [hx, hpl, he]; simp
          have HE := Lib.hid he
          clear he hx hpl
          go_wp2_with fail
          go_region_with ((go_at_call 62; refine (ref_put (m : Int) _).mono ?_; rintro e w' ⟨rfl, hb⟩))
          all_goals
            go_wp2
            go_ret2
            exact ⟨getV_some hfin.out rfl rfl, by first | exact hb | exact below_first hb | exact hb.drew⟩
        · have hfin : Hid (decL (fromL s (a : Int)) = none) := by
            show _ = _
            rw [hd.out, HL.out]
            rw [HL.out] at he
            exact ref_no hN.out hend.out he
          have heq : ((putB (m : Int)).toList == (s.extract a (a + 2)).toList) = false := by rw [hx, hpl]; simpa using he
          have HE := Lib.hid he
          clear he hx hpl
          go_wp2_with fail
          go_region_with ((go_at_call 62; refine (ref_put (m : Int) _).mono ?_; rintro e w' ⟨rfl, hb⟩))
          all_goals
            go_wp2
            go_ret2
            exact ⟨getV_none hfin.out, by first | exact hb | exact below_first hb | exact hb.drew⟩
set_option maxHeartbeats 2000000 in
set_option maxRecDepth 100000 in
theorem ref_get1 (s : ByteArray) (a : Nat) (ha : a < s.size) (hs : s.size ≤ 140737488355328) (hcl : s[a].toNat < 192) (w : World) :
    Calls Tryz.prog 36 #[.string s, .int .i64 (a : Int)] w fun e w' => e = .returned (getV (decL (fromL s (a : Int))) (a : Int)) ∧ Below w.heap.size w w' := by
  have hl := drop_cons s a ha
  have hd := Lib.hid (fromL_nat s a)
  have hc := s[a].toNat_lt
  have hN : Hid (refN s[a].toNat = 1) := by show _ = _; unfold refN; split <;> (try split) <;> (try split) <;> omega
  have hB : Hid (refB s[a].toNat = s[a].toNat) := by show _ = _; unfold refB; split <;> (try split) <;> (try split) <;> omega
  have HL := Lib.hid hl
  clear hl
  have bs : decide (s.size ≤ a) = false := by rw [decide_eq_false_iff_not]; omega
  have b240 : decide ((240 : Int) ≤ (s[a].toNat : Int)) = false := by rw [decide_eq_false_iff_not]; omega
  have b224 : decide ((224 : Int) ≤ (s[a].toNat : Int)) = false := by rw [decide_eq_false_iff_not]; omega
  have b192 : decide ((192 : Int) ≤ (s[a].toNat : Int)) = false := by rw [decide_eq_false_iff_not]; omega
  by_cases hz : s.size - a < 1
  · exact absurd hz (by omega)
  · have g0 : (1 : Int) ≤ (s.size : Int) - a := by omega
    have hstart : Hid (accR (s[a].toNat) ((s.data.toList.drop (a + 1)).take (1 - 1)) = accR (refB s[a].toNat) ((s.data.toList.drop (a + 1)).take (1 - 1))) := by
      show _ = _
      rw [hB.out]
    go_enter Tryz.func36, Tryz.ntmps36
    go_wp2_with fail
    go_loop [8, 9] (fun r i => ∃ k m : Nat, 1 ≤ k ∧ k ≤ 1 ∧ Hid (m < 256 * 64 ^ (k - 1)) ∧ i = .int .i64 k ∧ r = .int .i64 m ∧ Hid (accR m ((s.data.toList.drop (a + k)).take (1 - k)) = accR (refB s[a].toNat) ((s.data.toList.drop (a + 1)).take (1 - 1)))) (fun _ i => 1 - (intOf i).toNat)
    case atStart => exact ⟨1, s[a].toNat, by omega, by omega, by show _ < _; omega, rfl, rfl, hstart⟩
    case round =>
      clear hstart
      obtain ⟨k, m, hk1, hk2, hm, rfl, rfl, hacc⟩ := hrel
      have hp := pow64' (d := k - 1) (by omega)
      have hm2 : m < 67108864 := by have := hm.out; omega
      clear hp
      by_cases hlt : k < 1
      · exact absurd hlt (by omega)
      · have hke : k = 1 := by omega
        subst hke
        have hend : Hid (accR (refB s[a].toNat) ((s.data.toList.drop (a + 1)).take (1 - 1)) = m) := by
          show _ = _
          rw [← hacc.out, Nat.sub_self, List.take_zero, accR]
        have hx := extract_mid s a 1
        have hpl : (putB (m : Int)).toList = putL m := by rw [Lib.toList_data]; rfl
        have ex1 : IntKind.i64.wrap ((a : Int) + 1) = (a : Int) + 1 := IntWalk.i64_in _ (by omega)
        have ex2 : 0 ≤ (a : Int) + 1 := by omega
        have ex3 : ((a : Int) + 1).toNat = a + 1 := by omega
        by_cases he : putL m = (s.data.toList.drop a).take 1
        · have hfin : Hid (decL (fromL s (a : Int)) = some (m, 1)) := by
            show _ = _
            rw [hd.out, HL.out]
            rw [HL.out] at he
            exact ref_yes hN.out (by rw [List.length_drop, ← Lib.size_eq]; omega) he
          have heq : ((putB (m : Int)).toList == (s.extract a (a + 1)).toList) = true := by rw [hx, hpl, he]; simp
          have HE := Lib.hid he
          clear he hx hpl
          go_wp2_with fail
          go_region_with ((go_at_call 62; refine (ref_put (m : Int) _).mono ?_; rintro e w' ⟨rfl, hb⟩))
          all_goals
            go_wp2
            go_ret2
            exact ⟨getV_some hfin.out rfl rfl, by first | exact hb | exact below_first hb | exact hb.drew⟩
        · have hfin : Hid (decL (fromL s (a : Int)) = none) := by
            show _ = _
            rw [hd.out, HL.out]
            rw [HL.out] at he
            exact ref_no hN.out hend.out he
          have heq : ((putB (m : Int)).toList == (s.extract a (a + 1)).toList) = false := by rw [hx, hpl]; simpa using he
          have HE := Lib.hid he
          clear he hx hpl
          go_wp2_with fail
          go_region_with ((go_at_call 62; refine (ref_put (m : Int) _).mono ?_; rintro e w' ⟨rfl, hb⟩))
          all_goals
            go_wp2
            go_ret2
            exact ⟨getV_none hfin.out, by first | exact hb | exact below_first hb | exact hb.drew⟩

theorem ref_get (s : ByteArray) (p : Int) (hs : s.size ≤ 140737488355328) (w : World) :
    Calls Tryz.prog 36 #[.string s, .int .i64 p] w fun e w' => e = .returned (getV (decL (fromL s p)) p) ∧ Below w.heap.size w w' := by
  rcases (show p < 0 ∨ (0 ≤ p ∧ (s.size : Int) ≤ p) ∨ (0 ≤ p ∧ p < s.size) by omega) with h | ⟨h0, h⟩ | ⟨h0, h⟩
  · have hn : Hid (decL (fromL s p) = none) := by show _ = _; rw [fromL_out (by omega)]; rfl
    go_enter Tryz.func36, Tryz.ntmps36
    go_wp2
    go_ret2
    exact ⟨getV_none hn.out, Below.refl _ _⟩
  · have hn : Hid (decL (fromL s p) = none) := by show _ = _; rw [fromL_out (by omega)]; rfl
    go_enter Tryz.func36, Tryz.ntmps36
    go_wp2
    go_ret2
    exact ⟨getV_none hn.out, Below.refl _ _⟩
  · obtain ⟨a, rfl⟩ := Int.eq_ofNat_of_zero_le h0
    have ha : a < s.size := by omega
    rcases (show 240 ≤ s[a].toNat ∨ (224 ≤ s[a].toNat ∧ s[a].toNat < 240) ∨ (192 ≤ s[a].toNat ∧ s[a].toNat < 224) ∨ s[a].toNat < 192 by omega) with h | h | h | h
    · exact ref_get4 s a ha hs h w
    · exact ref_get3 s a ha hs h w
    · exact ref_get2 s a ha hs h w
    · exact ref_get1 s a ha hs h w
theorem rget_none {s : ByteArray} {a : Nat} (h : decL (s.data.toList.drop a) = none) (hs : s.size ≤ 140737488355328) (w : World) :
    Calls Tryz.prog 36 #[.string s, .int .i64 (a : Int)] w fun e w' => e = .returned (.tuple #[.int .i64 (-1), .int .i64 (a : Int)]) ∧ Below w.heap.size w w' :=
  (ref_get s (a : Int) hs w).mono fun _ _ h' => ⟨h'.1.trans (getV_none ((congrArg decL (fromL_nat s a)).trans h)).symm, h'.2⟩
theorem rget_some {s : ByteArray} {a r n : Nat} (h : decL (s.data.toList.drop a) = some (r, n)) (hs : s.size ≤ 140737488355328) (w : World) :
    Calls Tryz.prog 36 #[.string s, .int .i64 (a : Int)] w fun e w' => e = .returned (.tuple #[.int .i64 (r : Int), .int .i64 ((a : Int) + n)]) ∧ Below w.heap.size w w' :=
  (ref_get s (a : Int) hs w).mono fun _ _ h' => ⟨h'.1.trans (getV_some ((congrArg decL (fromL_nat s a)).trans h) rfl rfl).symm, h'.2⟩
end Go.Proofs.YtnnbbjdidbggmaaGreatDoor.U8
