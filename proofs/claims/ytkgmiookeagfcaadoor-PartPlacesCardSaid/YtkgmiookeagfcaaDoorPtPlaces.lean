/-
  The law PartPlaces returns true. Condition: the bound of the library's search is some number.
-/
import Derived.Test.YtkgmiookeagfcaaDoorPtTop
import Derived.Test.YtkgmiookeagfcaaDoorPtIns
namespace Go.Proofs.YtkgmiookeagfcaaDoor.Pt
open Go Go.RowKit Go.Joins Kit F0

set_option maxHeartbeats 1000000 in
set_option maxRecDepth 100000 in
theorem partPlaces_of (hT : TreeOk) (s : ByteArray) (w : World) (hE : Srch.Env w) :
    Calls Tryd.prog 10 #[.string s] w fun e w' => e = .returned (.bool true) ∧ Below w.heap.size w w' := by
  have HE := Lib.hid hE
  have HT := Lib.hid hT
  clear hE hT
  by_cases hs : 3000 < s.size
  · have g1 : (3000 : Int) < (s.size : Int) := by omega
    go_enter Tryd.func10, Tryd.ntmps10
    go_wp2_with fail
    go_ret
    exact ⟨rfl, Below.refl _ _⟩
  · have g1 : ¬ (3000 : Int) < (s.size : Int) := by omega
    have hs2 : s.size ≤ 32768 := by omega
    clear hs
    have HI := Lib.hid (tree_ins s.data.toList)
    rw [← Lib.size_eq] at HI
    go_enter Tryd.func10, Tryd.ntmps10
    go_wp2_with fail
    refine (HT.out s w hs2 HE.out).mono ?_
    rintro e w1 ⟨c0, c1, c2, c3, c4, c5, c6, c7, rfl, hp, hb1⟩
    have HP := Lib.hid hp
    clear hp
    go_wp2_with fail
    refine (inside_any (treeL s.data.toList) (fun g => w.heap.size ≤ g) w1 0 s.size c0 c1 c2 c3 c4 c5 c6 c7 (tree_slim _) HI.out HP.out).mono ?_
    rintro e w2 ⟨rfl, hb2⟩
    go_wp2_with fail
    refine (awake_any HT.out w2 (HE.out.next (hb1.trans (hb2.mono hb1.size)))).mono ?_
    rintro e w3 ⟨rfl, hb3⟩
    go_wp2
    go_ret
    exact ⟨rfl, (hb1.trans (hb2.mono hb1.size)).trans (hb3.mono (Nat.le_trans hb1.size hb2.size))⟩
end Go.Proofs.YtkgmiookeagfcaaDoor.Pt
