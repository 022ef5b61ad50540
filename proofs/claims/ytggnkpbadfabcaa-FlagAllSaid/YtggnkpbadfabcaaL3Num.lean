/-
  The statements' own Num returns its number. Conditions: none.
-/
import Derived.Test.YtggnkpbadfabcaaKit
namespace Go.Proofs.Ytggnkpbadfabcaa.L3
open Go Go.RowKit Go.Joins Kit

theorem num_any (n : Int) (w : World) :
    Calls Try.prog 19 #[.int .i64 n] w fun e w' => e = .returned (.int .i64 n) ∧ w = w' := by
  go_enter Try.func19, Try.ntmps19
  go_wp2
  go_ret
  exact ⟨rfl, rfl⟩
end Go.Proofs.Ytggnkpbadfabcaa.L3
