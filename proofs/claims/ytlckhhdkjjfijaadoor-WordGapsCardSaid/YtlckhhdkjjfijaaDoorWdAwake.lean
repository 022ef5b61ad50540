/-
  The laws' awake returns true: word.Decode gives the document's example; the law WordAll returns true. Condition: the bound of the library's search is some number.
-/
import Derived.Test.YtlckhhdkjjfijaaDoorWdDec
import Derived.Test.YtlckhhdkjjfijaaDoorWdLawP
namespace Go.Proofs.YtlckhhdkjjfijaaDoor.Wd
open Go Go.RowKit Go.Joins Kit

theorem decode_to {X : ByteArray} (Y : ByteArray) (w : World) (hs : X.size ≤ 1099511627) (h : decW true X.data.toList = Y.data.toList) (hE : Srch.Env w) :
    Calls Tryd.prog 8 #[.string X] w fun e w' => e = .returned (.string Y) ∧ Below w.heap.size w w' := by
  have := decode_any X w hs hE
  rw [h] at this
  exact this
theorem dec_example : decW true [61, 63, 117, 116, 102, 45, 56, 63, 81, 63, 97, 95, 98, 63, 61] = [97, 32, 98] := by
  have ho : octL [81] [97, 95, 98] = some [97, 32, 98] := by
    unfold octL
    rw [show wayB [81] = false from rfl, if_neg (by decide), if_pos (show wayQ [81] = true from rfl), show blankU [97, 95, 98] = [97, 32, 98] from rfl, Q4.plain_self (by decide)]
  have := dec_put (g := []) true (by simp) (okP_of (l := utfN) (by decide)) (okP_of (l := [81]) (by decide)) (okP_of (l := [97, 95, 98]) (by decide)) (says_utf (a := utfN) (by decide) ho (by decide)) []
  rw [decW_nil] at this
  exact this

set_option maxHeartbeats 1000000 in
set_option maxRecDepth 100000 in
theorem awake_any (w : World) (hE : Srch.Env w) :
    Calls Tryd.prog 10 #[] w fun e w' => e = .returned (.bool true) ∧ Below w.heap.size w w' := by
  go_enter Tryd.func10, Tryd.ntmps10
  go_wp2_with fail
  refine (decode_to ⟨#[97, 32, 98]⟩ w (by decide) dec_example hE).mono ?_
  rintro e w1 ⟨rfl, hb1⟩
  go_wp2
  go_ret
  exact ⟨rfl, hb1⟩
end Go.Proofs.YtlckhhdkjjfijaaDoor.Wd
