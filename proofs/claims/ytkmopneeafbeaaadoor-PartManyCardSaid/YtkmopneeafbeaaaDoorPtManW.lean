/-
  The law PartMany returns true. Condition: the bound of the library's search is some number.
-/
import Derived.Test.YtkmopneeafbeaaaDoorPtTree
import Derived.Test.YtkmopneeafbeaaaDoorPtMany
namespace Go.Proofs.YtkmopneeafbeaaaDoor.Pt
open Go Go.RowKit Go.Joins Kit F0

theorem partMany_walk (x y : Int) (h0 : 0 ≤ x) (h1 : x ≤ 255) (k0 : 0 ≤ y) (k1 : y ≤ 255) (w : World) (hE : Srch.Env w) :
    Calls Tryd.prog 7 #[.int .u8 x, .int .u8 y] w fun e w' => e = .returned (.bool true) ∧ Below w.heap.size w w' := by
  have h := partMany_of tree_ok x.toNat y.toNat (by omega) (by omega) w hE
  rw [show ((x.toNat : Nat) : Int) = x by omega, show ((y.toNat : Nat) : Int) = y by omega] at h
  exact h
end Go.Proofs.YtkmopneeafbeaaaDoor.Pt
