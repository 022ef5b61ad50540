/-
  The law UtfSpoilt returns true: a text of a byte that stands alone where a code point goes on, or begins none, is not valid. Condition: the number is a byte.
-/
import Derived.Test.YtkdpcfogfjknoaaU8Back
namespace Go.Proofs.Ytkdpcfogfjknoaa.U8
open Go Go.RowKit Go.Joins Kit

theorem cutN_stop {t : List UInt8} (ht : decL t = none) (l : List UInt8) (hv : validL l = true) : ∀ k, l.length ≤ k → cutN k (l ++ t) = l.length := by
  refine valid_induct (P := fun l => ∀ k, l.length ≤ k → cutN k (l ++ t) = l.length) ?_ ?_ l hv
  · intro k _
    exact cutN_none ht
  · intro l r n h _ ih k hk
    obtain ⟨_, h2, h3, _⟩ := decL_some h
    obtain ⟨k, rfl⟩ : ∃ j, k = j + 1 := ⟨k - 1, by omega⟩
    rw [cutN_some (decL_append h t), drop_append h3, ih k (by rw [List.length_drop]; omega), List.length_drop]
    omega
theorem spoilt_valid {l t : List UInt8} (hl : validL l = true) (ht : decL t = none) (hn : t ≠ []) : validL (l ++ t) = false := by
  rw [validL_append l t hl]
  exact validL_none hn ht
theorem dec_spoilt (c : UInt8) (t : List UInt8) (h0 : 128 ≤ c.toNat) (h1 : c.toNat < 194) : decL (c :: t) = none := by
  cases hd : decL (c :: t) with
  | none => rfl
  | some p =>
    exfalso
    obtain ⟨r, n⟩ := p
    obtain ⟨h1, h2, _, h4⟩ := decL_some hd
    rcases sizeN_cases r with e | e | e | e | e
    · omega
    · have hr := sizeN_one.1 e
      rw [putL_one e, show n = 1 by omega] at h4
      simp only [List.take_succ_cons, List.take_zero, List.cons.injEq] at h4
      have := b8_nat (x := (r : Int)) (by omega) (by omega)
      rw [← h4.1] at this
      omega
    · have hr := sizeN_two.1 e
      rw [putL_two e, show n = 2 by omega] at h4
      simp only [List.take_succ_cons, List.cons.injEq] at h4
      have := b8_nat (x := 192 + (r : Int) / 64) (by omega) (by omega)
      rw [← h4.1] at this
      omega
    · have hr := sizeN_three.1 e
      rw [putL_three e, show n = 3 by omega] at h4
      simp only [List.take_succ_cons, List.cons.injEq] at h4
      have := b8_nat (x := 224 + (r : Int) / 4096) (by omega) (by omega)
      rw [← h4.1] at this
      omega
    · have hr := sizeN_four.1 e
      rw [putL_four e, show n = 4 by omega] at h4
      simp only [List.take_succ_cons, List.cons.injEq] at h4
      have := b8_nat (x := 240 + (r : Int) / 262144) (by omega) (by omega)
      rw [← h4.1] at this
      omega
theorem dec_half (t : List UInt8) : decL (237 :: 160 :: 128 :: t) = none := by
  rw [decL, show firstN (237 : UInt8).toNat = 3 by decide, show firstB (237 : UInt8).toNat = 13 by decide, if_neg (by simp)]
  rw [show (3 : Nat) - 1 = 2 by decide, List.take_succ_cons, List.take_succ_cons, List.take_zero]
  decide
theorem dec_beyond (t : List UInt8) : decL (244 :: 144 :: 128 :: 128 :: t) = none := by
  rw [decL, show firstN (244 : UInt8).toNat = 4 by decide, show firstB (244 : UInt8).toNat = 4 by decide, if_neg (by simp)]
  rw [show (4 : Nat) - 1 = 3 by decide, List.take_succ_cons, List.take_succ_cons, List.take_succ_cons, List.take_zero]
  decide
theorem cutB_spoilt {s a : ByteArray} {t : List UInt8} (hs : s.data.toList = a.data.toList ++ t) (hl : validL a.data.toList = true) (ht : decL t = none) {k : Nat} (hk : a.size ≤ k) : cutB s k = a := by
  apply Kit.bytes_ext
  unfold cutB
  rw [hs, cutN_stop ht _ hl k (by rw [← Lib.size_eq]; exact hk)]
  simp

set_option maxHeartbeats 1000000 in
set_option maxRecDepth 100000 in
theorem utfSpoilt_walk (c : Int) (a b : ByteArray) (c0 : 0 ≤ c) (c1 : c ≤ 255) (w : World) :
    Calls Try.prog 6 #[.int .u8 c, .string a, .string b] w fun e w' => e = .returned (.bool true) ∧ Below w.heap.size w w' := by
  rcases (show 100 < a.size ∨ (a.size ≤ 100 ∧ 100 < b.size) ∨ (a.size ≤ 100 ∧ b.size ≤ 100) by omega) with h | ⟨h, h'⟩ | ⟨h, h'⟩
  · have g : (100 : Int) < a.size := by omega
    go_enter Try.func6, Try.ntmps6
    go_wp2_with fail
    refine (awake_any w).mono ?_
    rintro e w1 ⟨rfl, hb1⟩
    go_wp2
    go_ret
    exact ⟨rfl, hb1⟩
  · have g : (a.size : Int) ≤ 100 := by omega
    have g' : (100 : Int) < b.size := by omega
    go_enter Try.func6, Try.ntmps6
    go_wp2_with fail
    refine (awake_any w).mono ?_
    rintro e w1 ⟨rfl, hb1⟩
    go_wp2
    go_ret
    exact ⟨rfl, hb1⟩
  have g : (a.size : Int) ≤ 100 := by omega
  have g' : (b.size : Int) ≤ 100 := by omega
  cases hva : validL a.data.toList
  · have HVA := Lib.hid hva
    clear hva
    go_enter Try.func6, Try.ntmps6
    go_wp2_with fail
    refine (valid_any a (by omega) w).mono ?_
    rintro e w' ⟨rfl, rfl⟩
    rw [HVA.out]
    go_wp2_with fail
    refine (awake_any w).mono ?_
    rintro e w1 ⟨rfl, hb1⟩
    go_wp2
    go_ret
    exact ⟨rfl, hb1⟩
  obtain ⟨m, hm⟩ : ∃ m : Int, c % 66 = m := ⟨_, rfl⟩
  have m0 : 0 ≤ m := by omega
  have m1 : m ≤ 65 := by omega
  have HM := Lib.hid hm
  clear hm
  have hbn := b8_nat (x := 128 + m) (by omega) (by omega)
  have d1 := dec_spoilt (b8 (128 + m)) b.data.toList (by omega) (by omega)
  have d2 := dec_half b.data.toList
  have d3 := dec_beyond []
  have hc := run_lit1 (128 + m) (by omega) (by omega) w
  obtain ⟨q, hq⟩ : ∃ q : ByteArray, (⟨[b8 (128 + m)].toArray⟩ : ByteArray) = q := ⟨_, rfl⟩
  rw [hq] at hc
  have hql : q.data.toList = [b8 (128 + m)] := by rw [← hq]
  have hqs : q.size = 1 := by rw [← hq]; rfl
  have hq1 : q.size ≤ 1 := by omega
  obtain ⟨s1, hs1⟩ : ∃ s1, a ++ q ++ b = s1 := ⟨_, rfl⟩
  have l1 : s1.data.toList = a.data.toList ++ (b8 (128 + m) :: b.data.toList) := by rw [← hs1, app_data, app_data, hql, List.append_assoc]; rfl
  have z1 : s1.size ≤ 201 ∧ a.size ≤ s1.size := by rw [← hs1, ByteArray.size_append, ByteArray.size_append, hqs]; omega
  obtain ⟨s2, hs2⟩ : ∃ s2, a ++ (⟨#[237, 160, 128]⟩ : ByteArray) ++ b = s2 := ⟨_, rfl⟩
  have l2 : s2.data.toList = a.data.toList ++ (237 :: 160 :: 128 :: b.data.toList) := by rw [← hs2, app_data, app_data, List.append_assoc]; rfl
  have z2 : s2.size ≤ 203 := by rw [← hs2, ByteArray.size_append, ByteArray.size_append]; show a.size + 3 + b.size ≤ _; omega
  obtain ⟨s3, hs3⟩ : ∃ s3, a ++ (⟨#[244, 144, 128, 128]⟩ : ByteArray) = s3 := ⟨_, rfl⟩
  have l3 : s3.data.toList = a.data.toList ++ [244, 144, 128, 128] := by rw [← hs3, app_data]
  have z3 : s3.size ≤ 104 := by rw [← hs3, ByteArray.size_append]; show a.size + 4 ≤ _; omega
  have v1 := Lib.hid (show validL s1.data.toList = false by rw [l1]; exact spoilt_valid hva d1 (by simp))
  have v2 := Lib.hid (show validL s2.data.toList = false by rw [l2]; exact spoilt_valid hva d2 (by simp))
  have v3 := Lib.hid (show validL s3.data.toList = false by rw [l3]; exact spoilt_valid hva d3 (by simp))
  have cu := Lib.hid (cutB_spoilt l1 hva d1 z1.2)
  obtain ⟨z1, _⟩ := z1
  have HC := Lib.hid hc
  have HS1 := Lib.hid hs1
  have HS2 := Lib.hid hs2
  have HS3 := Lib.hid hs3
  have HVA := Lib.hid hva
  clear hc hs1 hs2 hs3 hva hq hql hqs l1 l2 l3 d1 d2 d3 hbn
  go_enter Try.func6, Try.ntmps6
  go_wp2_with fail
  refine (valid_any a (by omega) w).mono ?_
  rintro e w' ⟨rfl, rfl⟩
  rw [HVA.out]
  have em := HM.out
  have hc := HC.out
  go_wp2_with fail
  clear em hc
  rw [HS1.out]
  refine (valid_any s1 (by omega) _).mono ?_
  rintro e w1 ⟨rfl, rfl⟩
  rw [v1.out]
  go_wp2_with fail
  refine (cut_any s1 s1.size (by omega) (by omega) _).mono ?_
  rintro e w2 ⟨rfl, hb2⟩
  rw [show ((s1.size : Nat) : Int).toNat = s1.size from rfl, cu.out]
  have hb := ((Below.refl _ w).alloc (Nat.le_refl _) (Obj.cells #[Value.int IntKind.u8 (128 + m)] 5)).trans (hb2.mono (by simp))
  clear hb2
  go_wp2_with fail
  rw [HS2.out]
  refine (valid_any s2 (by omega) _).mono ?_
  rintro e w1 ⟨rfl, rfl⟩
  rw [v2.out]
  go_wp2_with fail
  rw [HS3.out]
  refine (valid_any s3 (by omega) _).mono ?_
  rintro e w1 ⟨rfl, rfl⟩
  rw [v3.out]
  go_wp2_with fail
  refine (awake_tail w w2 hb).mono ?_
  rintro e w3 ⟨rfl, hb1⟩
  go_wp2
  go_ret
  exact ⟨rfl, hb1⟩
end Go.Proofs.Ytkdpcfogfjknoaa.U8
