/-
  The law PartCodes returns true. Condition: the bound of the library's search is some number.
-/
import Derived.Test.YtkgmiookeagfcaaDoorPtTree
import Derived.Test.YtkgmiookeagfcaaDoorPtCodes
namespace Go.Proofs.YtkgmiookeagfcaaDoor.Pt
open Go Go.RowKit Go.Joins Kit F0

theorem partCodes_walk (b : ByteArray) (x : Int) (h0 : 0 ≤ x) (h1 : x ≤ 255) (w : World) (hE : Srch.Env w) :
    Calls Tryd.prog 7 #[.string b, .int .u8 x] w fun e w' => e = .returned (.bool true) ∧ Below w.heap.size w w' := by
  have h := partCodes_of tree_ok b x.toNat (by omega) w hE
  rw [show ((x.toNat : Nat) : Int) = x by omega] at h
  exact h
end Go.Proofs.YtkgmiookeagfcaaDoor.Pt
