/-
  The law FieldSplits returns true, of any text and places. Condition: the bound of the library's search is some number.
-/
import Derived.Test.YtbhdopcegfdnnaaDoorF0Any
namespace Go.Proofs.YtbhdopcegfdnnaaDoor.F0
open Go Go.RowKit Go.Joins Kit

set_option maxHeartbeats 2000000 in
set_option maxRecDepth 100000 in
theorem fieldSplits_walk (s : ByteArray) (a t : Int) (_h0 : -9223372036854775808 ≤ a) (_h1 : a ≤ 9223372036854775807) (_h2 : -9223372036854775808 ≤ t) (_h3 : t ≤ 9223372036854775807) (w : World) (hE : Srch.Env w) :
    Calls Tryd.prog 3 #[.string s, .int .i64 a, .int .i64 t] w fun e w' => e = .returned (.bool true) ∧ Below w.heap.size w w' := by
  have HE := Lib.hid hE
  clear hE
  by_cases hn : s.size ≤ 3000
  rotate_left 1
  · have g0 : (3000 : Int) < (s.size : Int) := by omega
    clear hn
    go_enter Tryd.func3, Tryd.ntmps3
    go_wp2_with fail
    refine (awake_any w HE.out).mono ?_
    rintro e w1 ⟨rfl, hb1⟩
    go_wp2_with fail
    go_ret
    exact ⟨rfl, hb1⟩
  have g0 : ¬ (3000 : Int) < (s.size : Int) := by omega
  have HS : Hid (s.size ≤ 32768) := Lib.hid (by omega)
  have HL : Hid (s.data.toList.length ≤ 32768) := Lib.hid (by rw [← Lib.size_eq]; omega)
  clear hn
  obtain ⟨D1, hD1⟩ : ∃ D, docS s.data.toList a t = D := ⟨_, rfl⟩
  obtain ⟨D2, hD2⟩ : ∃ D, docS s.data.toList 0 (s.size : Int) = D := ⟨_, rfl⟩
  have hL1 : Hid (D1.1.length ≤ 140737488351232) := Lib.hid (by rw [← hD1]; exact Nat.le_trans (docS_le _ _ _ HL.out) (by decide))
  have hL2 : Hid (D2.1.length ≤ 140737488351232) := Lib.hid (by rw [← hD2]; exact Nat.le_trans (docS_le _ _ _ HL.out) (by decide))
  have HD1 := Lib.hid hD1
  have HD2 := Lib.hid hD2
  obtain ⟨F1, b1⟩ := D1
  obtain ⟨F2, b2⟩ := D2
  clear hD1 hD2
  go_enter Tryd.func3, Tryd.ntmps3
  go_wp2_with fail
  refine (split_any s a t w HS.out HE.out).mono ?_
  rintro e w1 ⟨f, rfl, hr1, hb1⟩
  rw [HD1.out] at hr1 ⊢
  obtain ⟨fa, fc, rfl⟩ := hr1.form
  have A1 := Lib.hid (RowF.at hr1)
  have B1 := Lib.hid hb1
  clear hr1 hb1
  go_wp2_with fail
  refine (rsplit_any s a t w1 HS.out).mono ?_
  rintro e w2 ⟨g, rfl, hr2, hb2⟩
  rw [HD1.out] at hr2 ⊢
  obtain ⟨ga, gc, rfl⟩ := hr2.form
  have A2 := Lib.hid (RowF.at hr2)
  have A1' := Lib.hid (A1.out.below hb2)
  have B2 := Lib.hid (B1.out.trans (hb2.mono B1.out.size))
  clear hr2 hb2 A1
  go_wp2_with fail
  refine (split_any s 0 (s.size : Int) w2 HS.out (HE.out.next B2.out)).mono ?_
  rintro e w3 ⟨h, rfl, hr3, hb3⟩
  rw [HD2.out] at hr3 ⊢
  obtain ⟨ha, hc, rfl⟩ := hr3.form
  have A3 := Lib.hid (RowF.at hr3)
  have A1 := Lib.hid (A1'.out.below hb3)
  have A2' := Lib.hid (A2.out.below hb3)
  have B3 := Lib.hid (B2.out.trans (hb3.mono B2.out.size))
  clear hr3 hb3 A1' A2
  go_wp2_with fail
  refine (rsplit_any s 0 (s.size : Int) w3 HS.out).mono ?_
  rintro e w4 ⟨i, rfl, hr4, hb4⟩
  rw [HD2.out] at hr4 ⊢
  obtain ⟨ia, ic, rfl⟩ := hr4.form
  have A4 := Lib.hid (RowF.at hr4)
  have A1' := Lib.hid (A1.out.below hb4)
  have A2 := Lib.hid (A2'.out.below hb4)
  have A3' := Lib.hid (A3.out.below hb4)
  have B4 := Lib.hid (B3.out.trans (hb4.mono B3.out.size))
  clear hr4 hb4 A1 A2' A3
  go_wp2_with fail
  refine (fields_any _ _ F1 F1 w4 A1'.out A2.out hL1.out).mono ?_
  rintro e w5 ⟨rfl, hb5⟩
  rw [show decide (F1 = F1) = true by simp]
  go_wp2_with fail
  refine (fields_any _ _ F2 F2 w5 (A3'.out.below hb5) (A4.out.below hb5) hL2.out).mono ?_
  rintro e w6 ⟨rfl, hb6⟩
  rw [show decide (F2 = F2) = true by simp]
  have B6 : Below w.heap.size w w6 := (B4.out.trans (hb5.mono B4.out.size)).trans (hb6.mono (Nat.le_trans B4.out.size hb5.size))
  go_wp2_with fail
  refine (awake_any w6 (HE.out.next B6)).mono ?_
  rintro e w7 ⟨rfl, hb7⟩
  go_wp2_with fail
  go_ret
  exact ⟨rfl, B6.trans (hb7.mono B6.size)⟩
end Go.Proofs.YtbhdopcegfdnnaaDoor.F0
