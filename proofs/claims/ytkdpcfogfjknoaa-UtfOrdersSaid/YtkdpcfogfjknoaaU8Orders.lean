/-
  The law UtfOrders returns true: code points and their bytes are in one order; the greater needs no fewer bytes. Condition: the numbers are uint32.
-/
import Derived.Test.YtkdpcfogfjknoaaU8Back
import Derived.Sort.Walk0
namespace Go.Proofs.Ytkdpcfogfjknoaa.U8
open Go Go.RowKit Go.Joins Kit

theorem lt_cons (a b : UInt8) (l m : List UInt8) : a :: l < b :: m ↔ a.toNat < b.toNat ∨ a.toNat = b.toNat ∧ l < m := by
  rw [List.cons_lt_cons_iff, UInt8.lt_iff_toNat_lt, ← UInt8.toNat_inj]
theorem lt_nil (l : List UInt8) : ¬ l < [] := List.not_lt_nil l
theorem four (a0 a1 a2 a3 b0 b1 b2 b3 x y : Int) (hx : x = 262144 * a0 + 4096 * a1 + 64 * a2 + a3) (hy : y = 262144 * b0 + 4096 * b1 + 64 * b2 + b3)
    (h1 : 0 ≤ a1 ∧ a1 < 64) (h2 : 0 ≤ a2 ∧ a2 < 64) (h3 : 0 ≤ a3 ∧ a3 < 64) (g1 : 0 ≤ b1 ∧ b1 < 64) (g2 : 0 ≤ b2 ∧ b2 < 64) (g3 : 0 ≤ b3 ∧ b3 < 64) :
    (a0 < b0 ∨ a0 = b0 ∧ (a1 < b1 ∨ a1 = b1 ∧ (a2 < b2 ∨ a2 = b2 ∧ a3 < b3))) ↔ x < y := by omega
theorem put_lt (x y : Int) (hx : sizeN x ≠ 0) (hy : sizeN y ≠ 0) (h : x < y) : putL x < putL y := by
  rcases sizeN_cases x with e | e | e | e | e
  · exact absurd e hx
  · have hr := sizeN_one.1 e
    have b1 := b8_nat (x := x) (by omega) (by omega)
    rcases sizeN_cases y with f | f | f | f | f
    · exact absurd f hy
    · have hs := sizeN_one.1 f
      have c1 := b8_nat (x := y) (by omega) (by omega)
      rw [putL_one e, putL_one f, lt_cons, b1, c1]; omega
    · have hs := sizeN_two.1 f
      have c1 := b8_nat (x := 192 + y / 64) (by omega) (by omega)
      rw [putL_one e, putL_two f, lt_cons, b1, c1]; omega
    · have hs := sizeN_three.1 f
      have c1 := b8_nat (x := 224 + y / 4096) (by omega) (by omega)
      rw [putL_one e, putL_three f, lt_cons, b1, c1]; omega
    · have hs := sizeN_four.1 f
      have c1 := b8_nat (x := 240 + y / 262144) (by omega) (by omega)
      rw [putL_one e, putL_four f, lt_cons, b1, c1]; omega
  · have hr := sizeN_two.1 e
    have b1 := b8_nat (x := 192 + x / 64) (by omega) (by omega)
    rcases sizeN_cases y with f | f | f | f | f
    · exact absurd f hy
    · have hs := sizeN_one.1 f; omega
    · have hs := sizeN_two.1 f
      have b2 := b8_nat (x := 128 + x % 64) (by omega) (by omega)
      have c1 := b8_nat (x := 192 + y / 64) (by omega) (by omega)
      have c2 := b8_nat (x := 128 + y % 64) (by omega) (by omega)
      rw [putL_two e, putL_two f, lt_cons, lt_cons, b1, b2, c1, c2]; omega
    · have hs := sizeN_three.1 f
      have c1 := b8_nat (x := 224 + y / 4096) (by omega) (by omega)
      rw [putL_two e, putL_three f, lt_cons, b1, c1]; omega
    · have hs := sizeN_four.1 f
      have c1 := b8_nat (x := 240 + y / 262144) (by omega) (by omega)
      rw [putL_two e, putL_four f, lt_cons, b1, c1]; omega
  · have hr := sizeN_three.1 e
    have b1 := b8_nat (x := 224 + x / 4096) (by omega) (by omega)
    rcases sizeN_cases y with f | f | f | f | f
    · exact absurd f hy
    · have hs := sizeN_one.1 f; omega
    · have hs := sizeN_two.1 f; omega
    · have hs := sizeN_three.1 f
      have b2 := b8_nat (x := 128 + x / 64 % 64) (by omega) (by omega)
      have b3 := b8_nat (x := 128 + x % 64) (by omega) (by omega)
      have c1 := b8_nat (x := 224 + y / 4096) (by omega) (by omega)
      have c2 := b8_nat (x := 128 + y / 64 % 64) (by omega) (by omega)
      have c3 := b8_nat (x := 128 + y % 64) (by omega) (by omega)
      have k := (four 0 (x / 4096) (x / 64 % 64) (x % 64) 0 (y / 4096) (y / 64 % 64) (y % 64) x y (by omega) (by omega) (by omega) (by omega) (by omega) (by omega) (by omega) (by omega)).2 h
      rw [putL_three e, putL_three f, lt_cons, lt_cons, lt_cons, b1, b2, b3, c1, c2, c3]; omega
    · have hs := sizeN_four.1 f
      have c1 := b8_nat (x := 240 + y / 262144) (by omega) (by omega)
      rw [putL_three e, putL_four f, lt_cons, b1, c1]; omega
  · have hr := sizeN_four.1 e
    have b1 := b8_nat (x := 240 + x / 262144) (by omega) (by omega)
    rcases sizeN_cases y with f | f | f | f | f
    · exact absurd f hy
    · have hs := sizeN_one.1 f; omega
    · have hs := sizeN_two.1 f; omega
    · have hs := sizeN_three.1 f; omega
    · have hs := sizeN_four.1 f
      have b2 := b8_nat (x := 128 + x / 4096 % 64) (by omega) (by omega)
      have b3 := b8_nat (x := 128 + x / 64 % 64) (by omega) (by omega)
      have b4 := b8_nat (x := 128 + x % 64) (by omega) (by omega)
      have c1 := b8_nat (x := 240 + y / 262144) (by omega) (by omega)
      have c2 := b8_nat (x := 128 + y / 4096 % 64) (by omega) (by omega)
      have c3 := b8_nat (x := 128 + y / 64 % 64) (by omega) (by omega)
      have c4 := b8_nat (x := 128 + y % 64) (by omega) (by omega)
      have k := (four (x / 262144) (x / 4096 % 64) (x / 64 % 64) (x % 64) (y / 262144) (y / 4096 % 64) (y / 64 % 64) (y % 64) x y (by omega) (by omega) (by omega) (by omega) (by omega) (by omega) (by omega) (by omega)).2 h
      rw [putL_four e, putL_four f, lt_cons, lt_cons, lt_cons, lt_cons, b1, b2, b3, b4, c1, c2, c3, c4]; omega
theorem less_lt {x y : Int} (hx : sizeN x ≠ 0) (hy : sizeN y ≠ 0) (h : x < y) : Op.bytesLess (putB x).toList (putB y).toList = true := by
  rw [bytesLess_eq, Lib.toList_data, Lib.toList_data, decide_eq_true_eq]
  exact put_lt x y hx hy h
theorem less_gt {x y : Int} (hx : sizeN x ≠ 0) (hy : sizeN y ≠ 0) (h : y < x) : Op.bytesLess (putB x).toList (putB y).toList = false := by
  rw [bytesLess_eq, Lib.toList_data, Lib.toList_data, decide_eq_false_iff_not]
  exact List.lt_asymm (put_lt y x hy hx h)
theorem less_self (p : ByteArray) : Op.bytesLess p.toList p.toList = false := by
  rw [bytesLess_eq, decide_eq_false_iff_not]
  exact List.lt_irrefl _
theorem putB_ne {x y : Int} (hx : sizeN x ≠ 0) (hy : sizeN y ≠ 0) (h : x ≠ y) : ((putB x).toList == (putB y).toList) = false := by
  rw [beq_eq_false_iff_ne, Lib.toList_data, Lib.toList_data]
  intro e
  have e' : putL x = putL y := e
  rcases Int.lt_or_gt_of_ne h with h | h
  · have := put_lt x y hx hy h; rw [e'] at this; exact List.lt_irrefl _ this
  · have := put_lt y x hy hx h; rw [e'] at this; exact List.lt_irrefl _ this
theorem sizeN_mono {x y : Int} (hy : sizeN y ≠ 0) (h : x ≤ y) : sizeN x ≤ sizeN y := by
  rcases sizeN_cases x with e | e | e | e | e <;> rcases sizeN_cases y with f | f | f | f | f <;> (try omega)
  · have := sizeN_two.1 e; have := sizeN_one.1 f; omega
  · have := sizeN_three.1 e; have := sizeN_one.1 f; omega
  · have := sizeN_three.1 e; have := sizeN_two.1 f; omega
  · have := sizeN_four.1 e; have := sizeN_one.1 f; omega
  · have := sizeN_four.1 e; have := sizeN_two.1 f; omega
  · have := sizeN_four.1 e; have := sizeN_three.1 f; omega

set_option maxHeartbeats 1000000 in
set_option maxRecDepth 100000 in
theorem utfOrders_walk (a b : Int) (a0 : 0 ≤ a) (a1 : a ≤ 4294967295) (b0 : 0 ≤ b) (b1 : b ≤ 4294967295) (w : World) :
    Calls Try.prog 7 #[.int .u32 a, .int .u32 b] w fun e w' => e = .returned (.bool true) ∧ Below w.heap.size w w' := by
  obtain ⟨x, hx⟩ : ∃ x : Int, a % 1114112 = x := ⟨_, rfl⟩
  obtain ⟨y, hy⟩ : ∃ y : Int, b % 1114112 = y := ⟨_, rfl⟩
  have x0 : 0 ≤ x := by omega
  have x1 : x < 1114112 := by omega
  have y0 : 0 ≤ y := by omega
  have y1 : y < 1114112 := by omega
  have HX := Lib.hid hx
  have HY := Lib.hid hy
  clear hx hy
  rcases (show (sizeN x = 0 ∧ 55296 ≤ x ∧ x ≤ 57343) ∨ (sizeN x ≠ 0 ∧ sizeN y = 0 ∧ 55296 ≤ y ∧ y ≤ 57343) ∨ (sizeN x ≠ 0 ∧ sizeN y ≠ 0) by have := @sizeN_none x; have := @sizeN_none y; omega) with ⟨h, h1, h2⟩ | ⟨h0, h, h1, h2⟩ | ⟨h1, h2⟩
  · have p1 := Lib.hid (putB_none h)
    clear h
    go_enter Try.func7, Try.ntmps7
    go_wp2_with fail
    rw [HX.out, HY.out]
    refine (put_any x w).mono ?_
    rintro e w1 ⟨rfl, hb⟩
    rw [p1.out]
    go_wp2_with fail
    refine (put_any y w1).mono ?_
    rintro e w2 ⟨rfl, hb2⟩
    replace hb := hb.trans (hb2.mono hb.size)
    clear hb2
    go_wp2_with fail
    refine (awake_tail w w2 hb).mono ?_
    rintro e w3 ⟨rfl, hb1⟩
    go_wp2
    go_ret
    exact ⟨rfl, hb1⟩
  · have p1 := Lib.hid (putB_none h)
    have p2 := toList_isEmpty (s := putB x) (by rw [putB_size]; exact h0)
    clear h h0
    have P2 := Lib.hid p2
    clear p2
    go_enter Try.func7, Try.ntmps7
    go_wp2_with fail
    rw [HX.out, HY.out]
    refine (put_any x w).mono ?_
    rintro e w1 ⟨rfl, hb⟩
    generalize putB x = p at P2 ⊢
    go_wp2_with fail
    refine (put_any y w1).mono ?_
    rintro e w2 ⟨rfl, hb2⟩
    rw [p1.out]
    replace hb := hb.trans (hb2.mono hb.size)
    clear hb2
    have p2 := P2.out
    rcases (show x < 55296 ∨ (55296 ≤ x ∧ 57343 < x) ∨ (55296 ≤ x ∧ x ≤ 57343) by omega) with i | ⟨i, i'⟩ | ⟨i, i'⟩
    all_goals
      go_wp2_with fail
      refine (awake_tail w w2 hb).mono ?_
      rintro e w3 ⟨rfl, hb1⟩
      go_wp2
      go_ret
      exact ⟨rfl, hb1⟩
  · have P1 := Lib.hid (toList_isEmpty (s := putB x) (by rw [putB_size]; exact h1))
    have P2 := Lib.hid (toList_isEmpty (s := putB y) (by rw [putB_size]; exact h2))
    rcases Int.lt_trichotomy x y with i | i | i
    · have L := Lib.hid (less_lt h1 h2 i)
      have E := Lib.hid (putB_ne h1 h2 (by omega))
      have Z := Lib.hid (show (putB x).size ≤ (putB y).size by rw [putB_size, putB_size]; exact sizeN_mono h2 (by omega))
      have e1 : ((x : Int) == y) = false := by rw [beq_eq_false_iff_ne]; omega
      clear h1 h2
      go_enter Try.func7, Try.ntmps7
      go_wp2_with fail
      rw [HX.out, HY.out]
      refine (put_any x w).mono ?_
      rintro e w1 ⟨rfl, hb⟩
      generalize putB x = p at P1 L E Z ⊢
      go_wp2_with fail
      refine (put_any y w1).mono ?_
      rintro e w2 ⟨rfl, hb2⟩
      generalize putB y = q at P2 L E Z ⊢
      replace hb := hb.trans (hb2.mono hb.size)
      clear hb2
      have p1 := P1.out
      have p2 := P2.out
      have l := L.out
      have e2 := E.out
      have z : (p.size : Int) ≤ q.size := by have := Z.out; omega
      go_wp2_with fail
      refine (awake_tail w w2 hb).mono ?_
      rintro e w3 ⟨rfl, hb1⟩
      go_wp2
      go_ret
      exact ⟨rfl, hb1⟩
    · subst i
      clear h1 h2 P2
      go_enter Try.func7, Try.ntmps7
      go_wp2_with fail
      rw [HX.out, HY.out]
      refine (put_any x w).mono ?_
      rintro e w1 ⟨rfl, hb⟩
      go_wp2_with fail
      refine (put_any x w1).mono ?_
      rintro e w2 ⟨rfl, hb2⟩
      generalize putB x = p at P1 ⊢
      replace hb := hb.trans (hb2.mono hb.size)
      clear hb2
      have p1 := P1.out
      have l := less_self p
      go_wp2_with fail
      refine (awake_tail w w2 hb).mono ?_
      rintro e w3 ⟨rfl, hb1⟩
      go_wp2
      go_ret
      exact ⟨rfl, hb1⟩
    · have L := Lib.hid (less_gt h1 h2 i)
      have E := Lib.hid (putB_ne h1 h2 (by omega))
      have e0 : decide (x < y) = false := by rw [decide_eq_false_iff_not]; omega
      have e1 : ((x : Int) == y) = false := by rw [beq_eq_false_iff_ne]; omega
      clear h1 h2
      go_enter Try.func7, Try.ntmps7
      go_wp2_with fail
      rw [HX.out, HY.out]
      refine (put_any x w).mono ?_
      rintro e w1 ⟨rfl, hb⟩
      generalize putB x = p at P1 L E ⊢
      go_wp2_with fail
      refine (put_any y w1).mono ?_
      rintro e w2 ⟨rfl, hb2⟩
      generalize putB y = q at P2 L E ⊢
      replace hb := hb.trans (hb2.mono hb.size)
      clear hb2
      have p1 := P1.out
      have p2 := P2.out
      have l := L.out
      have e2 := E.out
      go_wp2_with fail
      refine (awake_tail w w2 hb).mono ?_
      rintro e w3 ⟨rfl, hb1⟩
      go_wp2
      go_ret
      exact ⟨rfl, hb1⟩
end Go.Proofs.Ytkdpcfogfjknoaa.U8
