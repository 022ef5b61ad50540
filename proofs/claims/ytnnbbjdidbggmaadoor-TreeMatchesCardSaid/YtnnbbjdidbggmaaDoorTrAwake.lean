/-
  The laws' awake returns true: the document's example of names and patterns. Condition: none.
-/
import Derived.Test.YtnnbbjdidbggmaaDoorTrMatch
import Derived.Test.YtnnbbjdidbggmaaDoorU8Valid
namespace Go.Proofs.YtnnbbjdidbggmaaDoor.Tr
open Go Go.RowKit Go.Joins Kit

def barred (x : Nat) : Bool := decide (x < 32) || x == 127 || x == 47 || x == 42 || x == 37
set_option maxHeartbeats 1000000 in
set_option maxRecDepth 100000 in
theorem barred_any (x : Nat) (w : World) : Calls Tryd.prog 34 #[.int .i32 (x : Int)] w fun e w' => e = .returned (.bool (barred x)) ∧ ∃ q, w' = w.drewN q := by
  by_cases h0 : x < 32
  · have g0 : (x : Int) < 32 := by omega
    go_enter Tryd.func34, Tryd.ntmps34
    go_wp2
    go_ret
    exact ⟨by simp [barred, h0], 0, rfl⟩
  · have g0 : ¬ (x : Int) < 32 := by omega
    have e0 : decide (x < 32) = false := decide_eq_false h0
    by_cases h1 : x = 127
    · subst h1
      go_enter Tryd.func34, Tryd.ntmps34
      go_wp2
      go_ret
      exact ⟨rfl, 0, rfl⟩
    · have g1 : ((x : Int) == 127) = false := by rw [beq_eq_false_iff_ne]; omega
      by_cases h2 : x = 47
      · subst h2
        go_enter Tryd.func34, Tryd.ntmps34
        go_wp2
        go_ret
        exact ⟨rfl, 0, rfl⟩
      · have g2 : ((x : Int) == 47) = false := by rw [beq_eq_false_iff_ne]; omega
        by_cases h3 : x = 42
        · subst h3
          go_enter Tryd.func34, Tryd.ntmps34
          go_wp2
          go_ret
          exact ⟨rfl, 0, rfl⟩
        · have g3 : ((x : Int) == 42) = false := by rw [beq_eq_false_iff_ne]; omega
          by_cases h4 : x = 37
          · subst h4
            go_enter Tryd.func34, Tryd.ntmps34
            go_wp2
            go_ret
            exact ⟨rfl, 0, rfl⟩
          · have g4 : ((x : Int) == 37) = false := by rw [beq_eq_false_iff_ne]; omega
            have hb : barred x = false := by
              unfold barred
              rw [e0, beq_eq_false_iff_ne.2 h1, beq_eq_false_iff_ne.2 h2, beq_eq_false_iff_ne.2 h3, beq_eq_false_iff_ne.2 h4]
              rfl
            rw [hb]
            clear hb e0 h0 h1 h2 h3 h4
            go_enter Tryd.func34, Tryd.ntmps34
            go_wp2
            go_ret
            exact ⟨rfl, 0, rfl⟩
theorem contains_x (w : World) : Calls Tryd.prog 33 #[.string ⟨#[120]⟩, .func (.func 34) #[] #[]] w fun e w' => e = .returned (.bool false) ∧ Below w.heap.size w w' := by
  have h := Tryd.strings_ContainsFunc 34 #[] (enters_of Tryd.func34 (by kernel_rfl) rfl) barred ⟨#[120]⟩ w (fun W x _ => barred_any x W)
  rw [show Lib.idxFunc barred true ⟨#[120]⟩ = -1 by decide +kernel] at h
  exact h
set_option maxHeartbeats 1000000 in
set_option maxRecDepth 100000 in
theorem right_x (w : World) : Calls Tryd.prog 17 #[.string ⟨#[120]⟩] w fun e w' => e = .returned (.bool true) ∧ Below w.heap.size w w' := by
  have HV : Hid (∀ W, Calls Tryd.prog 32 #[.string ⟨#[120]⟩] W fun e w' => e = .returned (.bool true) ∧ W = w') := Lib.hid (fun W => by
    have := U8.valid_any ⟨#[120]⟩ (by decide) W
    rw [show U8.validL (ByteArray.mk #[120]).data.toList = true by decide +kernel] at this
    exact this)
  go_enter Tryd.func17, Tryd.ntmps17
  go_wp2_with fail
  refine (HV.out w).mono ?_
  rintro e w1 ⟨rfl, rfl⟩
  go_wp2_with fail
  refine (contains_x w).mono ?_
  rintro e w1 ⟨rfl, hb⟩
  go_wp2_with fail
  go_ret
  exact ⟨rfl, hb⟩
theorem match_to {P S : ByteArray} (b : Bool) (w : World) (hP : P.size ≤ 1048576) (hS : S.size ≤ 1048576) (h : mat P.data.toList S.data.toList = b) :
    Calls Tryd.prog 8 #[.string P, .string S] w fun e w' => e = .returned (.bool b) ∧ Below w.heap.size w w' := by
  have := match_any P S w hP hS
  rw [h] at this
  exact this
set_option maxHeartbeats 1000000 in
set_option maxRecDepth 100000 in
theorem awake_any (w : World) : Calls Tryd.prog 10 #[] w fun e w' => e = .returned (.bool true) ∧ Below w.heap.size w w' := by
  have HA : Hid (∀ W, Calls Tryd.prog 8 #[.string ⟨#[97, 37]⟩, .string ⟨#[97, 47, 98]⟩] W fun e w' => e = .returned (.bool false) ∧ Below W.heap.size W w') := Lib.hid (fun W => match_to false W (by decide) (by decide) (by decide +kernel))
  have HB : Hid (∀ W, Calls Tryd.prog 8 #[.string ⟨#[97, 42]⟩, .string ⟨#[97, 47, 98]⟩] W fun e w' => e = .returned (.bool true) ∧ Below W.heap.size W w') := Lib.hid (fun W => match_to true W (by decide) (by decide) (by decide +kernel))
  go_enter Tryd.func10, Tryd.ntmps10
  go_wp2_with fail
  refine (HA.out w).mono ?_
  rintro e w1 ⟨rfl, hb1⟩
  go_wp2_with fail
  refine (HB.out w1).mono ?_
  rintro e w2 ⟨rfl, hb2⟩
  go_wp2_with fail
  refine (right_x w2).mono ?_
  rintro e w3 ⟨rfl, hb3⟩
  have hb := hb1.trans ((hb2.trans (hb3.mono hb2.size)).mono hb1.size)
  clear hb1 hb2 hb3
  go_wp2_with fail
  go_ret
  exact ⟨rfl, hb⟩
end Go.Proofs.YtnnbbjdidbggmaaDoor.Tr
