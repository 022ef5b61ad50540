/-
  The law BaseAll returns true: Encode, Decode and Loose are the document's. Condition: the bound of the library's search is some number.
-/
import Derived.Test.YtfeeopcidjdonaaB6RefLoose
namespace Go.Proofs.Ytfeeopcidjdonaa.B6
open Go Go.RowKit Go.Joins Kit

/-- What Decode tells: the text, the error. -/
def dtext (l : List UInt8) : ByteArray := match decL l with | some x => ⟨x.toArray⟩ | none => ⟨#[]⟩
def derr (l : List UInt8) : Int := match decL l with | some _ => 0 | none => 3
theorem decV_eq (l : List UInt8) : decV l = .tuple #[.string (dtext l), .int .i64 (derr l)] := by
  unfold decV dtext derr
  cases decL l <;> rfl
theorem dec_call (s : ByteArray) (w : World) (hs : s.size ≤ 1099511627) (hE : Env w) :
    Calls Try.prog 9 #[.string s] w fun e w' => e = .returned (.tuple #[.string (dtext s.data.toList), .int .i64 (derr s.data.toList)]) ∧ Below w.heap.size w w' := by
  have := decode_any s w hs hE
  rwa [decV_eq] at this
def looseB (s : ByteArray) : ByteArray := ⟨(looseL s.data.toList).toArray⟩
theorem looseB_data (s : ByteArray) : (looseB s).data.toList = looseL s.data.toList := by simp [looseB]
theorem looseB_size (s : ByteArray) : (looseB s).size ≤ s.size := loose_size s
theorem lo_call (s : ByteArray) (w : World) (hs : s.size ≤ 1099511627) (hE : Env w) :
    Calls Try.prog 14 #[.string s] w fun e w' => e = .returned (.string (looseB s)) ∧ Below w.heap.size w w' := loose_any s w hs hE
theorem rlo_call (s : ByteArray) (w : World) (hs : s.size ≤ 1099511627) :
    Calls Try.prog 15 #[.string s] w fun e w' => e = .returned (.string (looseB s)) ∧ Below w.heap.size w w' := rloose_any s w hs

set_option maxHeartbeats 400000 in
theorem decode64_any (s : ByteArray) (w : World) (hs : s.size ≤ 1099511627) :
    Calls Try.prog 10 #[.string s] w fun e w' => e = .returned (.tuple #[.string (dtext s.data.toList), .int .i64 (derr s.data.toList)]) ∧ Below w.heap.size w w' := by
  have hls := looseB_size s
  have hcmp : (encB (looseB s)).data.toList = encL (looseL s.data.toList) := by rw [encB_data, looseB_data]
  by_cases h : encL (looseL s.data.toList) = s.data.toList
  · have hd := Lib.hid (show decV s.data.toList = .tuple #[.string (looseB s), .int .i64 0] from decV_some (show decL s.data.toList = some (looseL s.data.toList) by rw [decL, if_pos h]))
    have hx : ((encB (looseB s)).toList == s.toList) = true := by rw [Lib.toList_data, Lib.toList_data, hcmp, h]; simp
    have heq := Lib.hid hx
    clear h hx hcmp
    rw [← decV_eq, hd.out]
    go_enter Try.func10, Try.ntmps10
    go_wp2_with fail
    refine (rlo_call s w hs).mono ?_
    rintro e w1 ⟨rfl, hb1⟩
    go_wp2_with fail
    refine (encode64_any (looseB s) w1 (by omega)).mono ?_
    rintro e w2 ⟨rfl, hb2⟩
    have h2 := heq.out
    go_wp2
    go_ret2
    exact ⟨rfl, hb1.trans (hb2.mono hb1.size)⟩
  · have hd := Lib.hid (decV_none (show decL s.data.toList = none by rw [decL, if_neg h]))
    have hx : ((encB (looseB s)).toList == s.toList) = false := by rw [Lib.toList_data, Lib.toList_data, hcmp]; simpa using h
    have heq := Lib.hid hx
    clear h hx hcmp
    rw [← decV_eq, hd.out]
    go_enter Try.func10, Try.ntmps10
    go_wp2_with fail
    refine (rlo_call s w hs).mono ?_
    rintro e w1 ⟨rfl, hb1⟩
    go_wp2_with fail
    refine (encode64_any (looseB s) w1 (by omega)).mono ?_
    rintro e w2 ⟨rfl, hb2⟩
    have h2 := heq.out
    go_wp2
    go_ret2
    exact ⟨rfl, hb1.trans (hb2.mono hb1.size)⟩

set_option maxHeartbeats 1000000 in
set_option maxRecDepth 100000 in
theorem baseAll_walk (s : ByteArray) (w : World) (hE : Env w) :
    Calls Try.prog 3 #[.string s] w fun e w' => e = .returned (.bool true) ∧ Below w.heap.size w w' := by
  by_cases h : 3000 < s.size
  · have g : (3000 : Int) < s.size := by omega
    go_enter Try.func3, Try.ntmps3
    go_wp2_with fail
    refine (awake_any w hE).mono ?_
    rintro e w1 ⟨rfl, hb1⟩
    go_wp2
    go_ret
    exact ⟨rfl, hb1⟩
  have g : (s.size : Int) ≤ 3000 := by omega
  go_enter Try.func3, Try.ntmps3
  go_wp2_with fail
  refine (dec_call s w (by omega) hE).mono ?_
  rintro e w1 ⟨rfl, hb1⟩
  go_wp2_with fail
  refine (decode64_any s w1 (by omega)).mono ?_
  rintro e w2 ⟨rfl, hb2⟩
  replace hb2 := hb1.trans (hb2.mono hb1.size)
  generalize dtext s.data.toList = dt
  generalize derr s.data.toList = de
  go_wp2_with fail
  refine (enc_call s w2 (by omega)).mono ?_
  rintro e w3 ⟨rfl, hb3⟩
  replace hb3 := hb2.trans (hb3.mono hb2.size)
  go_wp2_with fail
  refine (encode64_any s w3 (by omega)).mono ?_
  rintro e w4 ⟨rfl, hb4⟩
  replace hb4 := hb3.trans (hb4.mono hb3.size)
  generalize encB s = eb
  go_wp2_with fail
  refine (num_any de w4).mono ?_
  rintro e w' ⟨rfl, rfl⟩
  go_wp2_with fail
  refine (lo_call s w4 (by omega) (hE.next hb4)).mono ?_
  rintro e w5 ⟨rfl, hb5⟩
  replace hb5 := hb4.trans (hb5.mono hb4.size)
  go_wp2_with fail
  refine (rlo_call s w5 (by omega)).mono ?_
  rintro e w6 ⟨rfl, hb6⟩
  replace hb6 := hb5.trans (hb6.mono hb5.size)
  generalize looseB s = lb
  go_wp2_with fail
  refine (awake_tail w w6 hE hb6).mono ?_
  rintro e w7 ⟨rfl, hb7⟩
  go_wp2
  go_ret
  exact ⟨rfl, hb7⟩
end Go.Proofs.Ytfeeopcidjdonaa.B6
