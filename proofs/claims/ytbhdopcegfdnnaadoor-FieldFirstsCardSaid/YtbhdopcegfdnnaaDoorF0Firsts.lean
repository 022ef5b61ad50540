/-
  The law FieldFirsts returns true, of any fields and name. Condition: the bound of the library's search is some number.
-/
import Derived.Test.YtbhdopcegfdnnaaDoorF0Any
import Derived.Test.YtbhdopcegfdnnaaDoorF0RFirst
namespace Go.Proofs.YtbhdopcegfdnnaaDoor.F0
open Go Go.RowKit Go.Joins Kit

set_option maxHeartbeats 2000000 in
set_option maxRecDepth 100000 in
theorem fieldFirsts_core (v : Value) (fs : List Fl) (name : ByteArray) (w : World) (hv : FAt w v fs) (hsz : ∀ f ∈ fs, f.1.length ≤ 140737488351232 ∧ f.2.length ≤ 140737488351232) (hc : fs.length ≤ 140737488351232) (hE : Srch.Env w) :
    Calls Tryd.prog 4 #[v, .string name] w fun e w' => e = .returned (.bool true) ∧ Below w.heap.size w w' := by
  have HE := Lib.hid hE
  have HV := Lib.hid hv
  have HSZ := Lib.hid hsz
  obtain ⟨a, cap, rfl, _⟩ := hv.form
  have gc : (fs.length : Int) ≤ 140737488351232 := by omega
  clear hE hv hsz
  by_cases h0 : fs.length ≤ 200
  rotate_left 1
  · have g0 : (200 : Int) < (fs.length : Int) := by omega
    clear h0
    go_enter Tryd.func4, Tryd.ntmps4
    go_wp2_with fail
    refine (awake_any w HE.out).mono ?_
    rintro e w1 ⟨rfl, hb1⟩
    go_wp2_with fail
    go_ret
    exact ⟨rfl, hb1⟩
  have g0 : ¬ (200 : Int) < (fs.length : Int) := by omega
  by_cases h1 : name.size ≤ 300
  rotate_left 1
  · have g1 : (300 : Int) < (name.size : Int) := by omega
    clear h0 h1
    go_enter Tryd.func4, Tryd.ntmps4
    go_wp2_with fail
    refine (awake_any w HE.out).mono ?_
    rintro e w1 ⟨rfl, hb1⟩
    go_wp2_with fail
    go_ret
    exact ⟨rfl, hb1⟩
  have g1 : ¬ (300 : Int) < (name.size : Int) := by omega
  have HN : Hid (name.size ≤ 140737488351232) := Lib.hid (by omega)
  have HC := Lib.hid hc
  clear h0 h1 hc
  go_enter Tryd.func4, Tryd.ntmps4
  go_wp2_with fail
  refine (first_any _ fs name w HV.out HSZ.out HN.out HC.out).mono ?_
  rintro e w1 ⟨rfl, hb1⟩
  have HV1 := Lib.hid (HV.out.below hb1)
  have B1 := Lib.hid hb1
  clear hb1
  obtain ⟨o, ho⟩ : ∃ o, firstL fs name.data.toList = o := ⟨_, rfl⟩
  have HO := Lib.hid ho
  rw [ho]
  clear ho
  cases o with
  | none =>
    unfold oV
    go_wp2_with fail
    refine (rfirst_any _ fs name w1 HV1.out HSZ.out HN.out HC.out).mono ?_
    rintro e w2 ⟨rfl, hb2⟩
    rw [HO.out]
    have B2 := Lib.hid (B1.out.trans (hb2.mono B1.out.size))
    clear hb2
    unfold oV
    go_wp2_with fail
    refine (awake_any w2 (HE.out.next B2.out)).mono ?_
    rintro e w3 ⟨rfl, hb3⟩
    go_wp2_with fail
    go_ret
    exact ⟨rfl, B2.out.trans (hb3.mono B2.out.size)⟩
  | some f =>
    obtain ⟨fn, fw⟩ := f
    unfold oV sV
    go_wp2_with fail
    refine (rfirst_any _ fs name w1 HV1.out HSZ.out HN.out HC.out).mono ?_
    rintro e w2 ⟨rfl, hb2⟩
    rw [HO.out]
    have B2 := Lib.hid (B1.out.trans (hb2.mono B1.out.size))
    clear hb2
    unfold oV sV
    go_wp2_with fail
    refine (awake_any w2 (HE.out.next B2.out)).mono ?_
    rintro e w3 ⟨rfl, hb3⟩
    go_wp2_with fail
    go_ret
    exact ⟨rfl, B2.out.trans (hb3.mono B2.out.size)⟩
theorem fieldFirsts_walk (A : Option Addr) (n c : Nat) (fs : List Fl) (name : ByteArray) (w : World) (l : fs.length = n) (b : n ≤ 140737488351232) (hv : FAt w (.slice A n c) fs) (hsz : ∀ f ∈ fs, f.1.length ≤ 140737488351232 ∧ f.2.length ≤ 140737488351232) (hE : Srch.Env w) :
    Calls Tryd.prog 4 #[.slice A n c, .string name] w fun e w' => e = .returned (.bool true) ∧ Below w.heap.size w w' :=
  fieldFirsts_core _ fs name w hv hsz (by omega) hE
end Go.Proofs.YtbhdopcegfdnnaaDoor.F0
