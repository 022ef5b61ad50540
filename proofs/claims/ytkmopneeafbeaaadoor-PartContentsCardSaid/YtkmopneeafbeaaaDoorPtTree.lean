/-
  The program's Tree: the parts of a message. Conditions: the text has at most 32768 bytes; the bound of the library's search is some number.
-/
import Derived.Test.YtkmopneeafbeaaaDoorPtRall
import Derived.Test.YtkmopneeafbeaaaDoorPtTop
namespace Go.Proofs.YtkmopneeafbeaaaDoor.Pt
open Go Go.RowKit Go.Joins Kit F0

theorem read_all (s : ByteArray) (w0 : World) (hs : s.size ≤ 32768) (hE : Srch.Env w0) : ∀ d, d ≤ 6 → ReadOk s w0 d
  | 0, h => read_in s w0 hs hE 0 h (fun d' e => by cases e)
  | d + 1, h => read_in s w0 hs hE (d + 1) h (fun d' e => by
    have : d' = d := by omega
    subst this
    exact read_all s w0 hs hE d' (by omega))
theorem tree_any (s : ByteArray) (w : World) (hs : s.size ≤ 32768) (hE : Srch.Env w) :
    Calls Tryd.prog 14 #[.string s] w fun e w' => ∃ c0 c1 c2 c3 c4 c5 c6 c7, e = .returned (.agg #[c0, c1, c2, c3, c4, c5, c6, c7]) ∧ PartAt (fun g => w.heap.size ≤ g) w' (treeL s.data.toList) (.agg #[c0, c1, c2, c3, c4, c5, c6, c7]) ∧ Below w.heap.size w w' :=
  tree_of s w (fun b C w' hb hC hC0 hCw hbw => (read_all s w hs hE 6 (Nat.le_refl _) 0 b 1 C w' (Nat.zero_le _) hb (by omega) hC hC0 hCw hbw).mono (fun e w'' h => by
    obtain ⟨c0, c1, c2, c3, c4, c5, c6, c7, he, hp, hst, _⟩ := h
    exact ⟨c0, c1, c2, c3, c4, c5, c6, c7, he, hp, hst⟩))
theorem tree_ok : TreeOk := tree_any
end Go.Proofs.YtkmopneeafbeaaaDoor.Pt
