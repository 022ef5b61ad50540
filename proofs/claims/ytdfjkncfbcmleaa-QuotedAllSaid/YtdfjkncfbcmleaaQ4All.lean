/-
  The law QuotedAll returns true: Encode and Decode are the document's. Condition: the bound of the library's search is some number.
-/
import Derived.Test.YtdfjkncfbcmleaaQ4RefPlain
namespace Go.Proofs.Ytdfjkncfbcmleaa.Q4
open Go Go.RowKit Go.Joins Kit Srch

set_option maxHeartbeats 1000000 in
set_option maxRecDepth 100000 in
theorem quotedAll_walk (s : ByteArray) (w : World) (hE : Env w) :
    Calls Try.prog 3 #[.string s] w fun e w' => e = .returned (.bool true) ∧ Below w.heap.size w w' := by
  by_cases h : 3000 < s.size
  · have g : (3000 : Int) < s.size := by omega
    go_enter Try.func3, Try.ntmps3
    go_wp2
    go_ret
    exact ⟨rfl, Below.refl _ _⟩
  have g : (s.size : Int) ≤ 3000 := by omega
  go_enter Try.func3, Try.ntmps3
  go_wp2_with fail
  refine (enc_call s w (by omega)).mono ?_
  rintro e w1 ⟨rfl, hb1⟩
  go_wp2_with fail
  refine (quoted_any s w1 (by omega)).mono ?_
  rintro e w2 ⟨rfl, hb2⟩
  replace hb2 := hb1.trans (hb2.mono hb1.size)
  generalize quoB s = eb
  go_wp2_with fail
  refine (dec_call s w2 (by omega) (hE.next hb2)).mono ?_
  rintro e w3 ⟨rfl, hb3⟩
  replace hb3 := hb2.trans (hb3.mono hb2.size)
  go_wp2_with fail
  refine (plain_any s w3 (by omega)).mono ?_
  rintro e w4 ⟨rfl, hb4⟩
  replace hb4 := hb3.trans (hb4.mono hb3.size)
  generalize plainB s = db
  go_wp2_with fail
  refine (awake_tail w w4 hE hb4).mono ?_
  rintro e w5 ⟨rfl, hb5⟩
  go_wp2
  go_ret
  exact ⟨rfl, hb5⟩
end Go.Proofs.Ytdfjkncfbcmleaa.Q4
