/-
  The law SevenAll returns true: Encode and Decode are the document's. Condition: what Encode and Decode want (Env).
-/
import Derived.Test.YtcakcpnmbclieaaDoorU7Laws
import Derived.Test.YtcakcpnmbclieaaDoorU7From
namespace Go.Proofs.YtcakcpnmbclieaaDoor.U7
open Go Go.RowKit Go.Joins Kit

theorem e_call (s : ByteArray) (w : World) (hs : s.size ≤ 131072) (hE : Env w) :
    Calls Tryd.prog 10 #[.string s] w fun e w' => e = .returned (.tuple #[.string (etext s.data.toList), .int .i64 (eerr s.data.toList)]) ∧ Below w.heap.size w w' := by
  have := enc_any s w hs hE
  rwa [encV_eq] at this
theorem re_call (s : ByteArray) (w : World) (hs : s.size ≤ 131072) :
    Calls Tryd.prog 11 #[.string s] w fun e w' => e = .returned (.tuple #[.string (etext s.data.toList), .int .i64 (eerr s.data.toList)]) ∧ Below w.heap.size w w' := by
  have := utf7_any s w (by omega)
  rwa [encV_eq] at this
theorem d_call (s : ByteArray) (w : World) (hs : s.size ≤ 131072) (hE : Env w) :
    Calls Tryd.prog 12 #[.string s] w fun e w' => e = .returned (.tuple #[.string (dtext s.data.toList), .int .i64 (derr s.data.toList)]) ∧ Below w.heap.size w w' := by
  have := dec_any s w hs hE
  rwa [decV_eq] at this
theorem rd_call (s : ByteArray) (w : World) (hs : s.size ≤ 131072) :
    Calls Tryd.prog 13 #[.string s] w fun e w' => e = .returned (.tuple #[.string (dtext s.data.toList), .int .i64 (derr s.data.toList)]) ∧ Below w.heap.size w w' := by
  have := from_any s w (by omega)
  rwa [decV_eq] at this

set_option maxHeartbeats 1000000 in
set_option maxRecDepth 100000 in
theorem sevenAll_walk (s : ByteArray) (w : World) (hE : Env w) :
    Calls Tryd.prog 3 #[.string s] w fun e w' => e = .returned (.bool true) ∧ Below w.heap.size w w' := by
  by_cases h : 2000 < s.size
  · have g : (2000 : Int) < s.size := by omega
    go_enter Tryd.func3, Tryd.ntmps3
    go_wp2_with fail
    refine (awake_any w hE).mono ?_
    rintro e w9 ⟨rfl, hb9⟩
    go_wp2
    go_ret
    exact ⟨rfl, hb9⟩
  have g : (s.size : Int) ≤ 2000 := by omega
  have hb := Below.refl w.heap.size w
  go_enter Tryd.func3, Tryd.ntmps3
  go_wp2_with fail
  refine (e_call s w (by omega) hE).mono ?_
  rintro e w1 ⟨rfl, hb'⟩
  replace hb := hb.trans (hb'.mono hb.size)
  clear hb'
  go_wp2_with fail
  refine (re_call s w1 (by omega)).mono ?_
  rintro e w2 ⟨rfl, hb'⟩
  replace hb := hb.trans (hb'.mono hb.size)
  clear hb'
  generalize etext s.data.toList = et
  generalize eerr s.data.toList = ee
  go_wp2_with fail
  refine (d_call s w2 (by omega) (hE.next hb)).mono ?_
  rintro e w3 ⟨rfl, hb'⟩
  replace hb := hb.trans (hb'.mono hb.size)
  clear hb'
  go_wp2_with fail
  refine (rd_call s w3 (by omega)).mono ?_
  rintro e w4 ⟨rfl, hb'⟩
  replace hb := hb.trans (hb'.mono hb.size)
  clear hb'
  generalize dtext s.data.toList = dt
  generalize derr s.data.toList = de
  go_wp2_with fail
  refine (L3.num_any ee w4).mono ?_
  rintro e w' ⟨rfl, rfl⟩
  go_wp2_with fail
  refine (L3.num_any de w4).mono ?_
  rintro e w' ⟨rfl, rfl⟩
  go_wp2_with fail
  refine (awake_tail w w4 hE hb).mono ?_
  rintro e w9 ⟨rfl, hb9⟩
  go_wp2
  go_ret
  exact ⟨rfl, hb9⟩
end Go.Proofs.YtcakcpnmbclieaaDoor.U7
