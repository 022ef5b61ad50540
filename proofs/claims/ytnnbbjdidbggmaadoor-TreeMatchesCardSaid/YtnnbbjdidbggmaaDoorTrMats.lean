/-
  The law TreeMatches returns true: whether any pattern matches any path is the document's. Condition: none.
-/
import Derived.Test.YtnnbbjdidbggmaaDoorTrAwake
import Derived.Test.YtnnbbjdidbggmaaDoorTrRMatch
namespace Go.Proofs.YtnnbbjdidbggmaaDoor.Tr
open Go Go.RowKit Go.Joins Kit

set_option maxHeartbeats 1000000 in
set_option maxRecDepth 100000 in
theorem treeMatches_walk (P S : ByteArray) (w : World) :
    Calls Tryd.prog 3 #[.string P, .string S] w fun e w' => e = .returned (.bool true) ∧ Below w.heap.size w w' := by
  rcases (show 200 < P.size ∨ (P.size ≤ 200 ∧ 500 < S.size) ∨ (P.size ≤ 200 ∧ S.size ≤ 500) by omega) with h | ⟨h, h'⟩ | ⟨h, h'⟩
  · have g : (200 : Int) < P.size := by omega
    go_enter Tryd.func3, Tryd.ntmps3
    go_wp2_with fail
    go_ret
    exact ⟨rfl, Below.refl _ _⟩
  · have g : (P.size : Int) ≤ 200 := by omega
    have g' : (500 : Int) < S.size := by omega
    go_enter Tryd.func3, Tryd.ntmps3
    go_wp2_with fail
    go_ret
    exact ⟨rfl, Below.refl _ _⟩
  have d1 : decide ((200 : Int) < P.size) = false := by rw [decide_eq_false_iff_not]; omega
  have d2 : decide ((500 : Int) < S.size) = false := by rw [decide_eq_false_iff_not]; omega
  obtain ⟨b, hb⟩ : ∃ b, mat P.data.toList S.data.toList = b := ⟨_, rfl⟩
  have HA : Hid (∀ W, Calls Tryd.prog 8 #[.string P, .string S] W fun e w' => e = .returned (.bool b) ∧ Below W.heap.size W w') := Lib.hid (fun W => match_to b W (by omega) (by omega) hb)
  have HR : Hid (∀ W, Calls Tryd.prog 9 #[.string P, .string S] W fun e w' => e = .returned (.bool b) ∧ Below W.heap.size W w') := Lib.hid (fun W => by
    have := rmatch_any P S W (by omega) (by omega)
    rw [hb] at this
    exact this)
  clear hb
  cases b
  · go_enter Tryd.func3, Tryd.ntmps3
    go_wp2_with fail
    refine (HA.out w).mono ?_
    rintro e w1 ⟨rfl, hb1⟩
    go_wp2_with fail
    refine (HR.out w1).mono ?_
    rintro e w2 ⟨rfl, hb2⟩
    have HB2 := Lib.hid (hb1.trans (hb2.mono hb1.size))
    clear hb1 hb2
    go_wp2_with fail
    refine (awake_any w2).mono ?_
    rintro e w3 ⟨rfl, hb3⟩
    have HB3 := Lib.hid (HB2.out.trans (hb3.mono HB2.out.size))
    clear hb3
    go_wp2_with fail
    go_ret
    exact ⟨rfl, HB3.out⟩
  · go_enter Tryd.func3, Tryd.ntmps3
    go_wp2_with fail
    refine (HA.out w).mono ?_
    rintro e w1 ⟨rfl, hb1⟩
    go_wp2_with fail
    refine (HR.out w1).mono ?_
    rintro e w2 ⟨rfl, hb2⟩
    have HB2 := Lib.hid (hb1.trans (hb2.mono hb1.size))
    clear hb1 hb2
    go_wp2_with fail
    refine (awake_any w2).mono ?_
    rintro e w3 ⟨rfl, hb3⟩
    have HB3 := Lib.hid (HB2.out.trans (hb3.mono HB2.out.size))
    clear hb3
    go_wp2_with fail
    go_ret
    exact ⟨rfl, HB3.out⟩
end Go.Proofs.YtnnbbjdidbggmaaDoor.Tr
