/-
  The statements' own Num returns its number. Conditions: none.
-/
import Derived.Test.YtlhoellimldimaaDoorKit
namespace Go.Proofs.YtlhoellimldimaaDoor.L3
open Go Go.RowKit Go.Joins Kit

theorem num_any (n : Int) (w : World) :
    Calls Tryd.prog 24 #[.int .i64 n] w fun e w' => e = .returned (.int .i64 n) ∧ w = w' := by
  go_enter Tryd.func24, Tryd.ntmps24
  go_wp2
  go_ret
  exact ⟨rfl, rfl⟩
end Go.Proofs.YtlhoellimldimaaDoor.L3
