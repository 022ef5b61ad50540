/-
  The law FieldBodies returns true, of any texts. Condition: the bound of the library's search is some number.
-/
import Derived.Test.YtbhdopcegfdnnaaDoorF0Any
import Derived.Test.YtbhdopcegfdnnaaDoorRxIdx
namespace Go.Proofs.YtbhdopcegfdnnaaDoor.F0
open Go Go.RowKit Go.Joins Kit

def gapB : ByteArray := ⟨#[13, 10, 13, 10]⟩
theorem with_gap (s a : ByteArray) : (s ++ gapB ++ a).data.toList = s.data.toList ++ 13 :: 10 :: 13 :: 10 :: a.data.toList := by
  rw [Joins.data_append, Joins.data_append]
  simp [gapB]
theorem bodies (s a b : ByteArray) : docS (s ++ gapB ++ a).data.toList 0 ((s ++ gapB ++ a).size : Int) = docS (s ++ gapB ++ b).data.toList 0 ((s ++ gapB ++ b).size : Int) ∧
    (∃ n : Nat, (docS (s ++ gapB ++ a).data.toList 0 ((s ++ gapB ++ a).size : Int)).2 = (n : Int) ∧ n ≤ s.size + 4 ∧ ∀ u v, (s ++ gapB ++ a).data.toList = u ++ 10 :: v → (∀ c ∈ u, c ≠ 10) → u.length < n) := by
  rw [Lib.size_eq (s ++ gapB ++ a), Lib.size_eq (s ++ gapB ++ b), docS_all, docS_all, with_gap, with_gap]
  obtain ⟨h1, h2, h3⟩ := split_bodies s.data.toList a.data.toList b.data.toList (s.data.toList ++ 13 :: 10 :: 13 :: 10 :: a.data.toList).length (s.data.toList ++ 13 :: 10 :: 13 :: 10 :: b.data.toList).length
  exact ⟨by rw [h1], _, rfl, by rw [Lib.size_eq]; exact h2, h3⟩

set_option maxHeartbeats 2000000 in
set_option maxRecDepth 100000 in
theorem fieldBodies_walk (s a b : ByteArray) (w : World) (hE : Srch.Env w) :
    Calls Tryd.prog 6 #[.string s, .string a, .string b] w fun e w' => e = .returned (.bool true) ∧ Below w.heap.size w w' := by
  have HE := Lib.hid hE
  clear hE
  by_cases h0 : s.size ≤ 1000
  rotate_left 1
  · have g0 : (1000 : Int) < (s.size : Int) := by omega
    clear h0
    go_enter Tryd.func6, Tryd.ntmps6
    go_wp2_with fail
    refine (awake_any w HE.out).mono ?_
    rintro e w1 ⟨rfl, hb1⟩
    go_wp2_with fail
    go_ret
    exact ⟨rfl, hb1⟩
  have g0 : ¬ (1000 : Int) < (s.size : Int) := by omega
  by_cases h1 : a.size ≤ 1000
  rotate_left 1
  · have g1 : (1000 : Int) < (a.size : Int) := by omega
    clear h0 h1
    go_enter Tryd.func6, Tryd.ntmps6
    go_wp2_with fail
    refine (awake_any w HE.out).mono ?_
    rintro e w1 ⟨rfl, hb1⟩
    go_wp2_with fail
    go_ret
    exact ⟨rfl, hb1⟩
  have g1 : ¬ (1000 : Int) < (a.size : Int) := by omega
  by_cases h2 : b.size ≤ 1000
  rotate_left 1
  · have g2 : (1000 : Int) < (b.size : Int) := by omega
    clear h0 h1 h2
    go_enter Tryd.func6, Tryd.ntmps6
    go_wp2_with fail
    refine (awake_any w HE.out).mono ?_
    rintro e w1 ⟨rfl, hb1⟩
    go_wp2_with fail
    go_ret
    exact ⟨rfl, hb1⟩
  have g2 : ¬ (1000 : Int) < (b.size : Int) := by omega
  have k0 : (s.size : Int) ≤ 1000 := by omega
  have k1 : (a.size : Int) ≤ 1000 := by omega
  have k2 : (b.size : Int) ≤ 1000 := by omega
  have hX : (s ++ gapB ++ a).size = s.size + 4 + a.size := by rw [ByteArray.size_append, ByteArray.size_append]; rfl
  have hY : (s ++ gapB ++ b).size = s.size + 4 + b.size := by rw [ByteArray.size_append, ByteArray.size_append]; rfl
  obtain ⟨HB1, n, HB2, HB3, HB4⟩ := bodies s a b
  have HBI := Lib.hid HB4
  clear HB4
  have HS : Hid ((s ++ gapB ++ a).size ≤ 32768 ∧ (s ++ gapB ++ b).size ≤ 32768) := Lib.hid ⟨by omega, by omega⟩
  have HDL : Hid ((docS (s ++ gapB ++ a).data.toList 0 ((s ++ gapB ++ a).size : Int)).1.length ≤ 140737488351232) := Lib.hid (Nat.le_trans (docS_le _ _ _ (by rw [← Lib.size_eq]; omega)) (by decide))
  have HGX : Hid (s ++ gapB ++ a = s ++ ⟨#[13, 10, 13, 10]⟩ ++ a) := Lib.hid rfl
  have HGY : Hid (s ++ gapB ++ b = s ++ ⟨#[13, 10, 13, 10]⟩ ++ b) := Lib.hid rfl
  rw [HGX.out] at HB1 HB2 HBI HS HDL hX
  rw [HGY.out] at HB1 HS hY
  obtain ⟨D, hD⟩ : ∃ D, docS (s ++ ⟨#[13, 10, 13, 10]⟩ ++ a).data.toList 0 ((s ++ ⟨#[13, 10, 13, 10]⟩ ++ a).size : Int) = D := ⟨_, rfl⟩
  rw [hD] at HB1 HB2 HDL
  have hXi : ((s ++ ⟨#[13, 10, 13, 10]⟩ ++ a).size : Int) = (s.size : Int) + 4 + (a.size : Int) := by omega
  have hYi : ((s ++ ⟨#[13, 10, 13, 10]⟩ ++ b).size : Int) = (s.size : Int) + 4 + (b.size : Int) := by omega
  rw [hXi] at hD
  rw [hYi] at HB1
  have HD1 := Lib.hid hD
  have HD2 := Lib.hid HB1.symm
  obtain ⟨F, m⟩ := D
  obtain rfl : m = (n : Int) := HB2
  have k3 : (n : Int) ≤ (s.size : Int) + 4 := by omega
  have HXY := Lib.hid (And.intro hX hY)
  clear HB1 HB3 hD h0 h1 h2 hX hY hXi hYi
  go_enter Tryd.func6, Tryd.ntmps6
  go_wp2_with fail
  refine (split_any (s ++ ⟨#[13, 10, 13, 10]⟩ ++ a) 0 ((s.size : Int) + 4 + (a.size : Int)) w HS.out.1 HE.out).mono ?_
  rintro e w1 ⟨f, rfl, hr1, hb1⟩
  rw [HD1.out] at hr1 ⊢
  obtain ⟨fa, fc, rfl⟩ := hr1.form
  have A1 := Lib.hid (RowF.at hr1)
  have B1 := Lib.hid hb1
  clear hr1 hb1
  go_wp2_with fail
  refine (split_any (s ++ ⟨#[13, 10, 13, 10]⟩ ++ b) 0 ((s.size : Int) + 4 + (b.size : Int)) w1 HS.out.2 (HE.out.next B1.out)).mono ?_
  rintro e w2 ⟨g, rfl, hr2, hb2⟩
  rw [HD2.out] at hr2 ⊢
  obtain ⟨ga, gc, rfl⟩ := hr2.form
  have A2 := Lib.hid (RowF.at hr2)
  have A1' := Lib.hid (A1.out.below hb2)
  have B2 := Lib.hid (B1.out.trans (hb2.mono B1.out.size))
  clear hr2 hb2 A1
  go_wp2_with fail
  refine (fields_any _ _ F F w2 A1'.out A2.out HDL.out).mono ?_
  rintro e w5 ⟨rfl, hb5⟩
  rw [show decide (F = F) = true by simp]
  have B5 := Lib.hid (B2.out.trans (hb5.mono B2.out.size))
  clear hb5
  go_wp2_with fail
  have hk : (s ++ ⟨#[13, 10, 13, 10]⟩ ++ a).size ≤ 1099511627776 := Nat.le_trans HS.out.1 (by decide)
  have hI := Rx.index_one (s ++ ⟨#[13, 10, 13, 10]⟩ ++ a) 10 w5 hk
  clear hk
  refine hI.mono ?_
  clear hI
  rintro e w6 ⟨rfl, hidx⟩
  obtain ⟨k, rfl, hk⟩ : ∃ k : Int, e = .returned (.int .i64 k) ∧ k < (n : Int) := by
    rcases hidx with ⟨rfl, _⟩ | ⟨u, v, h1, h2, rfl⟩
    · exact ⟨-1, rfl, by omega⟩
    · exact ⟨_, rfl, by have := HBI.out u v h1 h2; omega⟩
  clear hidx
  go_wp2_with fail
  refine (awake_any w5 (HE.out.next B5.out)).mono ?_
  rintro e w7 ⟨rfl, hb7⟩
  go_wp2_with fail
  go_ret
  exact ⟨rfl, B5.out.trans (hb7.mono B5.out.size)⟩
end Go.Proofs.YtbhdopcegfdnnaaDoor.F0
