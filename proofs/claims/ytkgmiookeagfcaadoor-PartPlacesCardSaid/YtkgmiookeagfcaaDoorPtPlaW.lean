/-
  The law PartPlaces returns true. Condition: the bound of the library's search is some number.
-/
import Derived.Test.YtkgmiookeagfcaaDoorPtTree
import Derived.Test.YtkgmiookeagfcaaDoorPtPlaces
namespace Go.Proofs.YtkgmiookeagfcaaDoor.Pt
open Go Go.RowKit Go.Joins Kit F0

theorem partPlaces_walk (s : ByteArray) (w : World) (hE : Srch.Env w) :
    Calls Tryd.prog 10 #[.string s] w fun e w' => e = .returned (.bool true) ∧ Below w.heap.size w w' := partPlaces_of tree_ok s w hE
end Go.Proofs.YtkgmiookeagfcaaDoor.Pt
