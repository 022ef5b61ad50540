/-
  The law TextWithin returns true: a part of a text is within it, in letters of any size; a longer one is not. Condition: the library's table and bound read as the program's text lays them.
-/
import Derived.Test.YtjhhaepmlllfaaaDoorTxFolds
namespace Go.Proofs.YtjhhaepmlllfaaaDoor.Tx
open Go Go.RowKit Go.Joins

def inB (s sub : ByteArray) : Bool := inL s.data.toList sub.data.toList
theorem in_call (s sub : ByteArray) (w : World) (hs : s.size ≤ 4000000000) (hsub : sub.size ≤ 4000000000) (hE : Env w) :
    Calls Tryd.prog 22 #[.string s, .string sub] w fun e w' => e = .returned (.bool (inB s sub)) ∧ Below w.heap.size w w' := in_any s sub w hs hsub hE
theorem in_part (a b c : ByteArray) : inB (a ++ b ++ c) b = true := by
  unfold inB inL
  rw [data_append, data_append, foldL_append, foldL_append]
  exact contains_of_append _ _ _
theorem in_foldL (s sub : ByteArray) : inB (fold s) sub = inB s sub := by unfold inB inL; rw [fold_data, foldL_twice]
theorem in_foldR (s sub : ByteArray) : inB s (fold sub) = inB s sub := by unfold inB inL; rw [fold_data, foldL_twice]
theorem in_longer (s : ByteArray) (t : ByteArray) (h : s.size < t.size) : inB s t = false := by
  unfold inB inL
  refine contains_longer _ _ ?_
  rw [foldL_length, foldL_length, ← Lib.size_eq, ← Lib.size_eq]
  exact h
theorem in_empty (s : ByteArray) : inB s ⟨#[]⟩ = true := by
  unfold inB inL Lib.contains
  rw [show foldL (ByteArray.mk #[]).data.toList = [] from rfl, Lib.index_empty]
  rfl

theorem x_size (s : ByteArray) : (s ++ ⟨#[120]⟩).size = s.size + 1 := by rw [ByteArray.size_append]; rfl

theorem awake_tail (w w1 : World) (hE : Env w) (hb : Below w.heap.size w w1) :
    Calls Tryd.prog 11 #[] w1 fun e w' => e = .returned (.bool true) ∧ Below w.heap.size w w' :=
  (awake_any w1 (hE.next hb)).mono fun _ _ h => ⟨h.1, hb.trans (h.2.mono hb.size)⟩

set_option maxHeartbeats 1000000 in
set_option maxRecDepth 100000 in
theorem textWithin_walk (a b c : ByteArray) (w : World) (hE : Env w) :
    Calls Tryd.prog 7 #[.string a, .string b, .string c] w fun e w' => e = .returned (.bool true) ∧ Below w.heap.size w w' := by
  rcases (show 300 < a.size ∨ (a.size ≤ 300 ∧ 300 < b.size) ∨ (a.size ≤ 300 ∧ b.size ≤ 300 ∧ 300 < c.size) ∨ (a.size ≤ 300 ∧ b.size ≤ 300 ∧ c.size ≤ 300) by omega) with h | ⟨h, h'⟩ | ⟨h, h', h''⟩ | ⟨h, h', h''⟩
  · have g : (300 : Int) < a.size := by omega
    go_enter Tryd.func7, Tryd.ntmps7
    go_wp2_with fail
    refine (awake_any w hE).mono ?_
    rintro e w1 ⟨rfl, hb1⟩
    go_wp2
    go_ret
    exact ⟨rfl, hb1⟩
  · have g : (a.size : Int) ≤ 300 := by omega
    have g' : (300 : Int) < b.size := by omega
    go_enter Tryd.func7, Tryd.ntmps7
    go_wp2_with fail
    refine (awake_any w hE).mono ?_
    rintro e w1 ⟨rfl, hb1⟩
    go_wp2
    go_ret
    exact ⟨rfl, hb1⟩
  · have g : (a.size : Int) ≤ 300 := by omega
    have g' : (b.size : Int) ≤ 300 := by omega
    have g'' : (300 : Int) < c.size := by omega
    go_enter Tryd.func7, Tryd.ntmps7
    go_wp2_with fail
    refine (awake_any w hE).mono ?_
    rintro e w1 ⟨rfl, hb1⟩
    go_wp2
    go_ret
    exact ⟨rfl, hb1⟩
  have g : (a.size : Int) ≤ 300 := by omega
  have g' : (b.size : Int) ≤ 300 := by omega
  have g'' : (c.size : Int) ≤ 300 := by omega
  have hpart := Lib.hid (in_part a b c)
  go_enter Tryd.func7, Tryd.ntmps7
  go_wp2_with fail
  have hsz : (a ++ b ++ c).size ≤ 900 := by simp; omega
  generalize hs : a ++ b ++ c = s at hpart hsz ⊢
  clear hs
  refine (in_call s b w (by omega) (by omega) hE).mono ?_
  rintro e w1 ⟨rfl, hb1⟩
  rw [hpart.out]
  go_wp2_with fail
  refine (fold_call s w1 (by omega)).mono ?_
  rintro e w2 ⟨rfl, hb2⟩
  replace hb2 := hb1.trans (hb2.mono hb1.size)
  go_wp2_with fail
  refine (in_call (fold s) b w2 (by rw [fold_size]; omega) (by omega) (hE.next hb2)).mono ?_
  rintro e w3 ⟨rfl, hb3⟩
  replace hb3 := hb2.trans (hb3.mono hb2.size)
  rw [in_foldL, hpart.out]
  go_wp2_with fail
  refine (fold_call b w3 (by omega)).mono ?_
  rintro e w4 ⟨rfl, hb4⟩
  replace hb4 := hb3.trans (hb4.mono hb3.size)
  go_wp2_with fail
  refine (in_call s (fold b) w4 (by omega) (by rw [fold_size]; omega) (hE.next hb4)).mono ?_
  rintro e w5 ⟨rfl, hb5⟩
  replace hb5 := hb4.trans (hb5.mono hb4.size)
  rw [in_foldR, hpart.out]
  go_wp2_with fail
  refine (in_call s _ w5 (by omega) ?hx (hE.next hb5)).mono ?_
  case hx => rw [x_size]; omega
  rintro e w6 ⟨rfl, hb6⟩
  replace hb6 := hb5.trans (hb6.mono hb5.size)
  rw [in_longer s _ (by rw [x_size]; omega)]
  go_wp2_with fail
  refine (in_call s ⟨#[]⟩ w6 (by omega) (by decide) (hE.next hb6)).mono ?_
  rintro e w7 ⟨rfl, hb7⟩
  replace hb7 := hb6.trans (hb7.mono hb6.size)
  rw [in_empty]
  go_wp2_with fail
  refine (awake_tail w w7 hE hb7).mono ?_
  rintro e w8 ⟨rfl, hb8⟩
  go_wp2
  go_ret
  exact ⟨rfl, hb8⟩
end Go.Proofs.YtjhhaepmlllfaaaDoor.Tx
