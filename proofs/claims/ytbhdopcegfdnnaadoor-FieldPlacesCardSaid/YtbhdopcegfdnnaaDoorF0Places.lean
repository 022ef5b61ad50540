/-
  The law FieldPlaces returns true, of any texts. Condition: the bound of the library's search is some number.
-/
import Derived.Test.YtbhdopcegfdnnaaDoorF0Any
namespace Go.Proofs.YtbhdopcegfdnnaaDoor.F0
open Go Go.RowKit Go.Joins Kit

theorem places (A L C : List UInt8) : docS (A ++ L ++ C) (A.length : Int) ((A.length : Int) + (L.length : Int)) = ((docS L 0 L.length).1, (docS L 0 L.length).2 + (A.length : Int)) := by
  have h1 := docS_in (l := A ++ L ++ C) (a := A.length) (t := A.length + L.length) (by omega) (by simp)
  rw [Int.natCast_add] at h1
  have h2 : ((A ++ L ++ C).take (A.length + L.length)).drop A.length = L := by
    rw [List.append_assoc, List.take_append, List.drop_append]
    simp
  have h3 := split_shift A.length 0 L.length L
  rw [Nat.zero_add] at h3
  rw [h1, h2, docS_all, show A.length + L.length = L.length + A.length by omega, h3]
  simp

set_option maxHeartbeats 2000000 in
set_option maxRecDepth 100000 in
theorem fieldPlaces_walk (s a c : ByteArray) (w : World) (hE : Srch.Env w) :
    Calls Tryd.prog 8 #[.string s, .string a, .string c] w fun e w' => e = .returned (.bool true) ∧ Below w.heap.size w w' := by
  have HE := Lib.hid hE
  clear hE
  by_cases hn : s.size ≤ 1000
  rotate_left 1
  · have g0 : (1000 : Int) < (s.size : Int) := by omega
    clear hn
    go_enter Tryd.func8, Tryd.ntmps8
    go_wp2_with fail
    refine (awake_any w HE.out).mono ?_
    rintro e w1 ⟨rfl, hb1⟩
    go_wp2_with fail
    go_ret
    exact ⟨rfl, hb1⟩
  have g0 : ¬ (1000 : Int) < (s.size : Int) := by omega
  by_cases ha : a.size ≤ 300
  rotate_left 1
  · have g1 : (300 : Int) < (a.size : Int) := by omega
    clear ha hn
    go_enter Tryd.func8, Tryd.ntmps8
    go_wp2_with fail
    refine (awake_any w HE.out).mono ?_
    rintro e w1 ⟨rfl, hb1⟩
    go_wp2_with fail
    go_ret
    exact ⟨rfl, hb1⟩
  have g1 : ¬ (300 : Int) < (a.size : Int) := by omega
  by_cases hc : c.size ≤ 300
  rotate_left 1
  · have g2 : (300 : Int) < (c.size : Int) := by omega
    clear ha hn hc
    go_enter Tryd.func8, Tryd.ntmps8
    go_wp2_with fail
    refine (awake_any w HE.out).mono ?_
    rintro e w1 ⟨rfl, hb1⟩
    go_wp2_with fail
    go_ret
    exact ⟨rfl, hb1⟩
  have g2 : ¬ (300 : Int) < (c.size : Int) := by omega
  have k0 : (s.size : Int) ≤ 1000 := by omega
  have k1 : (a.size : Int) ≤ 300 := by omega
  have k2 : (c.size : Int) ≤ 300 := by omega
  have HS : Hid (s.size ≤ 32768 ∧ (a ++ s ++ c).size ≤ 32768) := Lib.hid ⟨by omega, by rw [ByteArray.size_append, ByteArray.size_append]; omega⟩
  obtain ⟨D, hD⟩ : ∃ D, docS s.data.toList 0 (s.size : Int) = D := ⟨_, rfl⟩
  have hL : Hid (D.1.length ≤ 140737488351232) := Lib.hid (by rw [← hD]; exact Nat.le_trans (docS_le _ _ _ (by rw [← Lib.size_eq]; omega)) (by decide))
  have HD := Lib.hid hD
  have HP : Hid (docS (a ++ s ++ c).data.toList (a.size : Int) ((a.size : Int) + (s.size : Int)) = (D.1, D.2 + (a.size : Int))) := Lib.hid (by
    have h := places a.data.toList s.data.toList c.data.toList
    rw [Joins.data_append, Joins.data_append, Lib.size_eq a, Lib.size_eq s, h, ← Lib.size_eq s, hD])
  have HDN : Hid (0 ≤ D.2 ∧ D.2 ≤ 9000) := Lib.hid (by
    have h := docS_body s.data.toList
    rw [← Lib.size_eq s, hD] at h
    omega)
  obtain ⟨F, b⟩ := D
  obtain ⟨b0, b1⟩ := HDN.out
  clear hD ha hn hc
  go_enter Tryd.func8, Tryd.ntmps8
  go_wp2_with fail
  refine (split_any s 0 (s.size : Int) w HS.out.1 HE.out).mono ?_
  rintro e w1 ⟨f, rfl, hr1, hb1⟩
  rw [HD.out] at hr1 ⊢
  obtain ⟨fa, fc, rfl⟩ := hr1.form
  have A1 := Lib.hid (RowF.at hr1)
  have B1 := Lib.hid hb1
  clear hr1 hb1
  go_wp2_with fail
  refine (split_any (a ++ s ++ c) (a.size : Int) ((a.size : Int) + (s.size : Int)) w1 HS.out.2 (HE.out.next B1.out)).mono ?_
  rintro e w2 ⟨g, rfl, hr2, hb2⟩
  rw [HP.out] at hr2 ⊢
  obtain ⟨ga, gc, rfl⟩ := hr2.form
  have A2 := Lib.hid (RowF.at hr2)
  have A1' := Lib.hid (A1.out.below hb2)
  have B2 := Lib.hid (B1.out.trans (hb2.mono B1.out.size))
  clear hr2 hb2 A1
  go_wp2_with fail
  refine (fields_any _ _ F F w2 A1'.out A2.out hL.out).mono ?_
  rintro e w5 ⟨rfl, hb5⟩
  rw [show decide (F = F) = true by simp]
  have B5 : Below w.heap.size w w5 := B2.out.trans (hb5.mono B2.out.size)
  go_wp2_with fail
  refine (awake_any w5 (HE.out.next B5)).mono ?_
  rintro e w7 ⟨rfl, hb7⟩
  go_wp2_with fail
  go_ret
  exact ⟨rfl, B5.trans (hb7.mono B5.size)⟩
end Go.Proofs.YtbhdopcegfdnnaaDoor.F0
