/-
  The law WordAll returns true: what any text says is the document's. Condition: the bound of the library's search is some number.
-/
import Derived.Test.YtlckhhdkjjfijaaDoorWdAwake
import Derived.Test.YtlckhhdkjjfijaaDoorWdRWords
namespace Go.Proofs.YtlckhhdkjjfijaaDoor.Wd
open Go Go.RowKit Go.Joins Kit

set_option maxHeartbeats 1000000 in
set_option maxRecDepth 100000 in
theorem wordAll_walk (s : ByteArray) (w : World) (hE : Srch.Env w) :
    Calls Tryd.prog 3 #[.string s] w fun e w' => e = .returned (.bool true) ∧ Below w.heap.size w w' := by
  have HE := Lib.hid hE
  clear hE
  by_cases h : 2000 < s.size
  · have g : (2000 : Int) < s.size := by omega
    clear h
    go_enter Tryd.func3, Tryd.ntmps3
    go_wp2
    go_ret
    exact ⟨rfl, Below.refl _ w⟩
  have g : ¬ (2000 : Int) < s.size := by omega
  go_enter Tryd.func3, Tryd.ntmps3
  obtain ⟨Y, hY⟩ : ∃ Y : ByteArray, (⟨(decW true s.data.toList).toArray⟩ : ByteArray) = Y := ⟨_, rfl⟩
  have HD := Lib.hid (fun w1 => decode_any s w1 (by omega))
  have HR := Lib.hid (fun w1 => words_any s w1 (by omega))
  rw [hY] at HD HR
  clear hY
  go_wp2_with fail
  refine (HD.out w HE.out).mono ?_
  rintro e w1 ⟨rfl, hb1⟩
  go_wp2_with fail
  refine (HR.out w1).mono ?_
  rintro e w2 ⟨rfl, hb2⟩
  replace hb2 := hb1.trans (hb2.mono hb1.size)
  have hq : (Y.toList == Y.toList) = true := by simp
  go_wp2_with fail
  refine (awake_any w2 (HE.out.next hb2)).mono ?_
  rintro e w3 ⟨rfl, hb3⟩
  go_wp2
  go_ret
  exact ⟨rfl, hb2.trans (hb3.mono hb2.size)⟩
end Go.Proofs.YtlckhhdkjjfijaaDoor.Wd
