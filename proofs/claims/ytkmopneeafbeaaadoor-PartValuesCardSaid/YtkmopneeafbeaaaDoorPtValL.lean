/-
  The law PartValues returns true, where Tree is right. Condition: the bound of the library's search is some number.
-/
import Derived.Test.YtkmopneeafbeaaaDoorPtTop
import Derived.Test.YtkmopneeafbeaaaDoorPtVals
import Derived.Test.YtkmopneeafbeaaaDoorPtRVals
import Derived.Test.YtkmopneeafbeaaaDoorF0RFs
namespace Go.Proofs.YtkmopneeafbeaaaDoor.Pt
open Go Go.RowKit Go.Joins Kit F0

set_option maxHeartbeats 2000000 in
set_option maxRecDepth 100000 in
theorem partValues_of (hT : TreeOk) (s : ByteArray) (w : World) (hE : Srch.Env w) :
    Calls Tryd.prog 3 #[.string s] w fun e w' => e = .returned (.bool true) ∧ Below w.heap.size w w' := by
  have HE := Lib.hid hE
  have HT := Lib.hid hT
  clear hE hT
  by_cases g : 2000 < s.size
  · have g1 : (2000 : Int) < (s.size : Int) := by omega
    go_enter Tryd.func3, Tryd.ntmps3
    go_wp2_with fail
    refine (awake_any HT.out w HE.out).mono ?_
    rintro e w1 ⟨rfl, hb1⟩
    go_wp2
    go_ret
    exact ⟨rfl, hb1⟩
  · have g1 : ¬ (2000 : Int) < (s.size : Int) := by omega
    have HL := Lib.hid (values_len s.data.toList)
    go_enter Tryd.func3, Tryd.ntmps3
    go_wp2_with fail
    refine (values_any s w (by omega) HE.out).mono ?_
    rintro e w1 ⟨v, rfl, hr1, hb1⟩
    obtain ⟨V, hV⟩ : ∃ V, valuesL s.data.toList = V := ⟨_, rfl⟩
    rw [hV] at hr1 HL ⊢
    have HV := Lib.hid hV
    have HR1 := Lib.hid hr1.at
    have HB1 := Lib.hid hb1
    obtain ⟨A, hA⟩ : ∃ A : ByteArray, (⟨V.1.toArray⟩ : ByteArray) = A := ⟨_, rfl⟩
    unfold sV
    rw [hA]
    have HA := Lib.hid hA
    clear hV hr1 hb1 hA
    go_wp2_with fail
    refine (rvalues_any s w1 (by omega)).mono ?_
    rintro e w2 ⟨u, rfl, hr2, hb2⟩
    rw [HV.out] at hr2 ⊢
    unfold sV
    rw [HA.out]
    have HR2 := Lib.hid hr2.at
    have HB2 := Lib.hid hb2
    clear hr2 hb2
    have HFF : Hid (V.2.length ≤ 2000) := Lib.hid (by have := HL.out.2.1; rw [← Lib.size_eq] at this; omega)
    go_wp2_with fail
    refine (fields_any v u V.2 V.2 w2 (HR1.out.below HB2.out) HR2.out (by have := HFF.out; omega)).mono ?_
    rintro e w3 ⟨rfl, hb3⟩
    rw [decide_eq_true rfl]
    have HB3 := Lib.hid ((HB1.out.trans (HB2.out.mono HB1.out.size)).trans (hb3.mono (Nat.le_trans HB1.out.size HB2.out.size)))
    clear hb3
    go_wp2_with fail
    refine (awake_any HT.out w3 (HE.out.next HB3.out)).mono ?_
    rintro e w4 ⟨rfl, hb4⟩
    go_wp2
    go_ret
    exact ⟨rfl, HB3.out.trans (hb4.mono HB3.out.size)⟩
end Go.Proofs.YtkmopneeafbeaaaDoor.Pt
