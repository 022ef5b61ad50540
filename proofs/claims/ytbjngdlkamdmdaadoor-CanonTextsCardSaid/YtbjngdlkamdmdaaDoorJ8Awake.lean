/-
  The statements' own example over package canon is awake. Condition: the library's table of powers of ten reads as its text lays it.
-/
import Derived.Test.YtbjngdlkamdmdaaDoorJ8Wt
import Derived.Test.YtbjngdlkamdmdaaDoorL3Num
namespace Go.Proofs.YtbjngdlkamdmdaaDoor.J8
open Go Go.RowKit Go.Joins Kit J7 Nds

/-- A value without keys and kids, in its own cells. -/
theorem in_plain (w : World) (k n : Int) (t : ByteArray) : NodeIn w (.mk k n t [] []) (.agg #[.int .i64 k, .int .i64 n, .string t, .slice none 0 0, .slice none 0 0]) :=
  NodeIn.mk k n t [] [] _ none 0 (fun _ _ => .slice none 0 0) ⟨none, 0, rfl, fun j hj => absurd hj (Nat.not_lt_zero j)⟩ (fun i hi => absurd hi (Nat.not_lt_zero i)) (fun i hi => absurd hi (Nat.not_lt_zero i))
def objJ : J := .mk 7 0 ⟨#[]⟩ [] []
theorem tame_obj : Tame objJ := Tame.mk 7 0 ⟨#[]⟩ [] [] (by decide) (by decide) (by decide) (fun q hq => absurd hq (Nat.not_lt_zero q)) (fun i hi => absurd hi (Nat.not_lt_zero i))
theorem right_obj : RightIn 0 objJ := RightIn.mk 0 _ ⟨by decide, by decide, fun _ => rfl, by decide, by decide, fun _ => rfl, rfl, fun h => absurd h (by decide), fun h => absurd rfl h, fun _ => rfl, fun _ => by decide⟩ (fun i hi => absurd hi (Nat.not_lt_zero i)) (fun q hq => absurd hq (Nat.not_lt_zero q))
theorem put_obj : putJ objJ = [123, 125] := by unfold objJ; rw [putJ, putKs]; rfl
theorem print_obj : printP objJ = (⟨#[123, 125]⟩, 0) := by
  unfold printP
  rw [if_pos (rightP_yes right_obj), put_obj]
  rfl

set_option maxHeartbeats 2000000 in
set_option maxRecDepth 100000 in
theorem awake_any {w : World} (hE : EnvW w) :
    Calls Tryd.prog 10 #[] w fun e w' => e = .returned (.bool true) ∧ Below w.heap.size w w' := by
  have hp := cprint_any tame_obj (fun _ => by rw [put_obj]; decide) hE (in_plain w 7 0 ⟨#[]⟩)
  rw [print_obj] at hp
  clear hE
  go_enter Tryd.func10, Tryd.ntmps10
  go_wp2_with fail
  refine hp.mono ?_
  rintro e' w1 ⟨rfl, hb1⟩
  go_wp2_with fail
  refine (L3.num_any 0 _).mono ?_
  rintro e' w2 ⟨rfl, rfl⟩
  go_wp2_with fail
  go_ret
  exact ⟨rfl, hb1⟩
end Go.Proofs.YtbjngdlkamdmdaaDoor.J8
