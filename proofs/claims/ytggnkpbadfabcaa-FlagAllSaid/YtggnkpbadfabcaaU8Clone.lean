/-
  The library's strings.Clone, laid at this seat's numbers, returns its text. Condition: the text has at most 2^48 bytes.
-/
import Derived.Test.YtggnkpbadfabcaaU8Kit
import Derived.Shelf.Pu.Clone
namespace Go.Proofs.Ytggnkpbadfabcaa.U8
open Go Go.RowKit Go.Joins Kit

def cloneRen : Go.Shelf.Ren := ⟨fun | 25 => 42 | n => n, fun | 0 => 0 | 3 => 3 | 4 => 4 | 5 => 5 | 9 => 9 | 37 => 41 | 47 => 65 | n => n, fun n => n⟩
theorem cloneLay : Go.Proofs.LaysPu.n25 Try.prog cloneRen := {
  mixed := by kernel_rfl
  f25 := Try.func42.trans (congrArg some (by kernel_rfl))
  t0 := Try.underlying0
  a0 := Try.isAgg0
  z0 := Try.sizeOf0
  v0 := Try.zeroValue0
  i0 := by kernel_rfl
  t3 := Try.underlying3
  a3 := Try.isAgg3
  z3 := Try.sizeOf3
  v3 := Try.zeroValue3
  i3 := by kernel_rfl
  t4 := Try.underlying4
  a4 := Try.isAgg4
  z4 := Try.sizeOf4
  v4 := Try.zeroValue4
  i4 := by kernel_rfl
  t5 := Try.underlying5
  a5 := Try.isAgg5
  z5 := Try.sizeOf5
  v5 := Try.zeroValue5
  i5 := by kernel_rfl
  t9 := Try.underlying9
  a9 := Try.isAgg9
  z9 := Try.sizeOf9
  v9 := Try.zeroValue9
  i9 := by kernel_rfl
  t37 := Try.underlying41
  a37 := Try.isAgg41
  z37 := Try.sizeOf41
  v37 := Try.zeroValue41
  i37 := by kernel_rfl
  t47 := Try.underlying65
  a47 := Try.isAgg65
  z47 := Try.sizeOf65
  v47 := Try.zeroValue65
  i47 := by kernel_rfl }
theorem clone_lite (s : ByteArray) (w : World) (hs : s.size ≤ 281474976710656) :
    Calls Try.prog 42 #[.string s] w fun e w' => e = .returned (.string s) ∧ Below w.heap.size w w' := AnyPu.stringslite_Clone cloneLay s w hs
theorem clone_any (s : ByteArray) (w : World) (hs : s.size ≤ 281474976710656) :
    Calls Try.prog 31 #[.string s] w fun e w' => e = .returned (.string s) ∧ Below w.heap.size w w' := by
  go_enter Try.func31, Try.ntmps31
  go_wp2_with fail
  refine (clone_lite s w hs).mono ?_
  rintro e w1 ⟨rfl, hb⟩
  go_wp2
  go_ret
  exact ⟨rfl, hb⟩
end Go.Proofs.Ytggnkpbadfabcaa.U8
