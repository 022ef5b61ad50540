/-
  What the laws of package utf7 take of the code: Encode's and Decode's contracts. Condition: the text has at most 131072 bytes.
-/
import Derived.Test.YtcakcpnmbclieaaDoorU7Dec
namespace Go.Proofs.YtcakcpnmbclieaaDoor.U7
open Go Go.RowKit Go.Joins Kit

abbrev Env (w : World) : Prop := Srch.Env w
theorem Env.next {w w1 : World} (h : Env w) (hb : Below w.heap.size w w1) : Env w1 := Srch.Env.next h hb
theorem env_of {W : World} (h : W.ShapedOpen Tryd.prog) : Env W := Srch.env_of h
theorem enc_any (s : ByteArray) (w : World) (hs : s.size ≤ 131072) (hE : Env w) :
    Calls Tryd.prog 10 #[.string s] w fun e w' => e = .returned (encV s.data.toList) ∧ Below w.heap.size w w' := U7C.enc_walk s w (by omega) hE
theorem dec_any (s : ByteArray) (w : World) (hs : s.size ≤ 131072) (hE : Env w) :
    Calls Tryd.prog 12 #[.string s] w fun e w' => e = .returned (decV s.data.toList) ∧ Below w.heap.size w w' := U7C.dec_walk s w hs hE
end Go.Proofs.YtcakcpnmbclieaaDoor.U7
