/-
  The statements' own Num returns its number. Conditions: none.
-/
import Derived.Test.YtoofcclcimkipaaDoorKit
namespace Go.Proofs.YtoofcclcimkipaaDoor.L3
open Go Go.RowKit Go.Joins Kit

theorem num_any (n : Int) (w : World) :
    Calls Tryd.prog 13 #[.int .i64 n] w fun e w' => e = .returned (.int .i64 n) ∧ w = w' := by
  go_enter Tryd.func13, Tryd.ntmps13
  go_wp2
  go_ret
  exact ⟨rfl, rfl⟩
end Go.Proofs.YtoofcclcimkipaaDoor.L3
