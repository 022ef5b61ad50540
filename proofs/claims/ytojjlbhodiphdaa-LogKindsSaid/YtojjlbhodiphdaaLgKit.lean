/-
  The environment's own knob of this program. Conditions: none.
-/
import Derived.Test.YtojjlbhodiphdaaRows
import Derived.WalkKit
namespace Go.Proofs.Ytojjlbhodiphdaa.Kit
open Go
theorem own : ownKnob Try.prog.godebug = none := by kernel_rfl
end Go.Proofs.Ytojjlbhodiphdaa.Kit
