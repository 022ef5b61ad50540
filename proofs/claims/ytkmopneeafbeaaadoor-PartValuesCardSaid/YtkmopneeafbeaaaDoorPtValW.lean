/-
  The law PartValues returns true. Condition: the bound of the library's search is some number.
-/
import Derived.Test.YtkmopneeafbeaaaDoorPtTree
import Derived.Test.YtkmopneeafbeaaaDoorPtValL
namespace Go.Proofs.YtkmopneeafbeaaaDoor.Pt
open Go Go.RowKit Go.Joins Kit F0

theorem partValues_walk (s : ByteArray) (w : World) (hE : Srch.Env w) :
    Calls Tryd.prog 3 #[.string s] w fun e w' => e = .returned (.bool true) ∧ Below w.heap.size w w' := partValues_of tree_ok s w hE
end Go.Proofs.YtkmopneeafbeaaaDoor.Pt
