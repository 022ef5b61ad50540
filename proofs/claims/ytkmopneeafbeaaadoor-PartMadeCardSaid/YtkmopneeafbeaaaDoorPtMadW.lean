/-
  The law PartMade returns true. Condition: the bound of the library's search is some number.
-/
import Derived.Test.YtkmopneeafbeaaaDoorPtTree
import Derived.Test.YtkmopneeafbeaaaDoorPtMade
namespace Go.Proofs.YtkmopneeafbeaaaDoor.Pt
open Go Go.RowKit Go.Joins Kit F0

theorem partMade_walk (A0 : Option Addr) (n0 c0 : Nat) (xs : List ByteArray) (ahead behind : ByteArray) (nl : Bool) (w : World) (l0 : xs.length = n0) (_b0 : n0 ≤ 9223372036854775807) (L0 : ListAt w A0 (xs.map .string)) (hE : Srch.Env w) :
    Calls Tryd.prog 6 #[.slice A0 n0 c0, .string ahead, .string behind, .bool nl] w fun e w' => e = .returned (.bool true) ∧ Below w.heap.size w w' := partMade_of tree_ok A0 n0 c0 xs ahead behind nl w l0 L0 hE
end Go.Proofs.YtkmopneeafbeaaaDoor.Pt
