/-
  The program's Content: what the octets of a part tell. Conditions: the part lies in the text; the text has at most 32768 bytes; the bound of the library's search is some number.
-/
import Derived.Test.YtkmopneeafbeaaaDoorPtMem
import Derived.Test.YtkmopneeafbeaaaDoorPtLine
import Derived.Test.YtkmopneeafbeaaaDoorB6Loose
import Derived.Test.YtkmopneeafbeaaaDoorQ4Decode
import Derived.Test.YtkmopneeafbeaaaDoorU8Clone
namespace Go.Proofs.YtkmopneeafbeaaaDoor.Pt
open Go Go.RowKit Go.Joins Kit F0

def b64T : List UInt8 := [98, 97, 115, 101, 54, 52]
def quotT : List UInt8 := [113, 117, 111, 116, 101, 100, 45, 112, 114, 105, 110, 116, 97, 98, 108, 101]
def contL (s enc : List UInt8) (f t : Nat) : List UInt8 := if enc = b64T then B6.looseL (segL s f t) else if enc = quotT then Q4.plainL (segL s f t) else segL s f t

set_option maxHeartbeats 4000000 in
set_option maxRecDepth 100000 in
theorem content_any (s : ByteArray) (enc : List UInt8) (f t : Nat) (c0 c1 c3 c4 c7 : Value) (w : World) (hs : s.size ≤ 32768) (hft : f ≤ t) (hts : t ≤ s.size) (hE : Srch.Env w) :
    Calls Tryd.prog 18 #[.string s, .agg #[c0, c1, .string ⟨enc.toArray⟩, c3, c4, .int .i64 (f : Int), .int .i64 (t : Int), c7]] w fun e w' => e = .returned (.string ⟨(contL s.data.toList enc f t).toArray⟩) ∧ Below w.heap.size w w' := by
  have HX : Hid ((s.extract f t).data.toList = segL s.data.toList f t ∧ (s.extract f t).size ≤ 32768) := Lib.hid ⟨ext_seg s f t, by rw [ByteArray.size_extract]; omega⟩
  obtain ⟨W, hW⟩ : ∃ W, w.alloc (.cells #[c0, c1, .string ⟨enc.toArray⟩, c3, c4, .int .i64 (f : Int), .int .i64 (t : Int), c7] 31) = W := ⟨_, rfl⟩
  have HB : Hid (Below w.heap.size w W) := Lib.hid (by rw [← hW]; exact (Below.refl _ w).alloc (Nat.le_refl _) _)
  have HE : Hid (Srch.Env W) := Lib.hid (hE.next HB.out)
  have HQ : Hid (∀ b, (enc == b64T) = b → ∀ q, (enc == quotT) = q → contL s.data.toList enc f t = if b then B6.looseL (segL s.data.toList f t) else if q then Q4.plainL (segL s.data.toList f t) else segL s.data.toList f t) := Lib.hid (by
    intro b hb q hq
    unfold contL
    subst hb hq
    simp only [beq_iff_eq])
  have HW := Lib.hid hW
  clear hE hW
  go_enter Tryd.func18, Tryd.ntmps18
  go_wp2_with fail
  all_goals rw [HW.out]
  · rename_i h1 _ _ _ _
    refine (B6.loose_any (s.extract f t) W (by have := HX.out.2; omega) ⟨HE.out.max⟩).mono ?_
    rintro e w1 ⟨rfl, hb1⟩
    have HR := Lib.hid (HQ.out true h1 _ rfl)
    rw [HX.out.1]
    go_wp2
    go_ret
    exact ⟨by rw [HR.out]; rfl, HB.out.trans (hb1.mono HB.out.size)⟩
  · rename_i h1 h2 _ _ _ _
    refine (Q4.decode_any (s.extract f t) W (by have := HX.out.2; omega) HE.out).mono ?_
    rintro e w1 ⟨rfl, hb1⟩
    have HR := Lib.hid (HQ.out false h1 true h2)
    rw [HX.out.1]
    go_wp2
    go_ret
    exact ⟨by rw [HR.out]; rfl, HB.out.trans (hb1.mono HB.out.size)⟩
  · rename_i h1 h2 _ _ _ _
    refine (U8.clone_any (s.extract f t) W (by have := HX.out.2; omega)).mono ?_
    rintro e w1 ⟨rfl, hb1⟩
    have HR := Lib.hid (HQ.out false h1 false h2)
    rw [show s.extract f t = ⟨(segL s.data.toList f t).toArray⟩ by rw [← HX.out.1]]
    go_wp2
    go_ret
    exact ⟨by rw [HR.out]; rfl, HB.out.trans (hb1.mono HB.out.size)⟩
end Go.Proofs.YtkmopneeafbeaaaDoor.Pt
