/-
  The library's strings.Clone, laid at this seat's numbers, returns its text; utf8.Valid tells whether a text is code points to its end; utf8.Cut returns its first ones, in new memory. Condition: the text has at most 2^47 bytes, the number is an int.
-/
import Derived.Test.YtkdpcfogfjknoaaU8Get
import Derived.Shelf.Pu.Clone
namespace Go.Proofs.Ytkdpcfogfjknoaa.U8
open Go Go.RowKit Go.Joins Kit

def cloneRen : Go.Shelf.Ren := ⟨fun | 25 => 22 | n => n, fun | 0 => 0 | 3 => 3 | 4 => 4 | 5 => 5 | 9 => 9 | 37 => 33 | 47 => 42 | n => n, fun n => n⟩
theorem cloneLay : Go.Proofs.LaysPu.n25 Try.prog cloneRen := {
  mixed := by kernel_rfl
  f25 := Try.func22.trans (congrArg some (by kernel_rfl))
  t0 := Try.underlying0
  a0 := Try.isAgg0
  z0 := Try.sizeOf0
  v0 := Try.zeroValue0
  i0 := by kernel_rfl
  t3 := Try.underlying3
  a3 := Try.isAgg3
  z3 := Try.sizeOf3
  v3 := Try.zeroValue3
  i3 := by kernel_rfl
  t4 := Try.underlying4
  a4 := Try.isAgg4
  z4 := Try.sizeOf4
  v4 := Try.zeroValue4
  i4 := by kernel_rfl
  t5 := Try.underlying5
  a5 := Try.isAgg5
  z5 := Try.sizeOf5
  v5 := Try.zeroValue5
  i5 := by kernel_rfl
  t9 := Try.underlying9
  a9 := Try.isAgg9
  z9 := Try.sizeOf9
  v9 := Try.zeroValue9
  i9 := by kernel_rfl
  t37 := Try.underlying33
  a37 := Try.isAgg33
  z37 := Try.sizeOf33
  v37 := Try.zeroValue33
  i37 := by kernel_rfl
  t47 := Try.underlying42
  a47 := Try.isAgg42
  z47 := Try.sizeOf42
  v47 := Try.zeroValue42
  i47 := by kernel_rfl }
theorem clone_lite (s : ByteArray) (w : World) (hs : s.size ≤ 281474976710656) :
    Calls Try.prog 22 #[.string s] w fun e w' => e = .returned (.string s) ∧ Below w.heap.size w w' := AnyPu.stringslite_Clone cloneLay s w hs
theorem clone_any (s : ByteArray) (w : World) (hs : s.size ≤ 281474976710656) :
    Calls Try.prog 21 #[.string s] w fun e w' => e = .returned (.string s) ∧ Below w.heap.size w w' := by
  go_enter Try.func21, Try.ntmps21
  go_wp2_with fail
  refine (clone_lite s w hs).mono ?_
  rintro e w1 ⟨rfl, hb⟩
  go_wp2
  go_ret
  exact ⟨rfl, hb⟩

theorem get_none {s : ByteArray} {a : Nat} (h : decL (s.data.toList.drop a) = none) (hs : s.size ≤ 140737488355328) (w : World) :
    Calls Try.prog 10 #[.string s, .int .i64 (a : Int)] w fun e w' => e = .returned (.tuple #[.int .i64 (-1), .int .i64 (a : Int)]) ∧ w = w' :=
  (get_any s (a : Int) hs w).mono fun _ _ h' => ⟨h'.1.trans (getV_none ((congrArg decL (fromL_nat s a)).trans h)).symm, h'.2⟩
theorem get_some {s : ByteArray} {a r n : Nat} (h : decL (s.data.toList.drop a) = some (r, n)) (hs : s.size ≤ 140737488355328) (w : World) :
    Calls Try.prog 10 #[.string s, .int .i64 (a : Int)] w fun e w' => e = .returned (.tuple #[.int .i64 (r : Int), .int .i64 ((a : Int) + n)]) ∧ w = w' :=
  (get_any s (a : Int) hs w).mono fun _ _ h' => ⟨h'.1.trans (getV_some ((congrArg decL (fromL_nat s a)).trans h) rfl rfl).symm, h'.2⟩
theorem decL_room {s : ByteArray} {a r n : Nat} (h : decL (s.data.toList.drop a) = some (r, n)) : 1 ≤ n ∧ a + n ≤ s.size := by
  obtain ⟨_, h2, h3, _⟩ := decL_some h
  rw [List.length_drop, ← Lib.size_eq] at h3
  omega
theorem drop_ne {s : ByteArray} {a : Nat} (h : a < s.size) : s.data.toList.drop a ≠ [] := by
  intro e
  have := congrArg List.length e
  rw [List.length_drop, ← Lib.size_eq] at this
  simp at this
  omega
theorem drop_end {s : ByteArray} {a : Nat} (h : s.size ≤ a) : s.data.toList.drop a = [] := List.drop_of_length_le (by rw [← Lib.size_eq]; exact h)

set_option maxHeartbeats 1000000 in
set_option maxRecDepth 100000 in
theorem valid_any (s : ByteArray) (hs : s.size ≤ 140737488355328) (w : World) :
    Calls Try.prog 14 #[.string s] w fun e w' => e = .returned (.bool (validL s.data.toList)) ∧ w = w' := by
  go_enter Try.func14, Try.ntmps14
  go_wp2_with fail
  go_loop [3] (fun i => ∃ a : Nat, a ≤ s.size ∧ i = .int .i64 a ∧ Hid (validL (s.data.toList.drop a) = validL s.data.toList)) (fun i => s.size - (intOf i).toNat)
  case atStart => exact ⟨0, by omega, rfl, rfl⟩
  case round =>
    obtain ⟨a, ha, rfl, hv⟩ := hrel
    by_cases hlt : a < s.size
    · have g1 : (a : Int) < s.size := by omega
      cases hd : decL (s.data.toList.drop a) with
      | none =>
        have hno : Hid (validL s.data.toList = false) := by show _ = _; rw [← hv.out]; exact validL_none (drop_ne hlt) hd
        have HD := Lib.hid hd
        clear hd
        go_wp2_with fail
        refine (get_none HD.out hs w).mono ?_
        rintro e w1 ⟨rfl, rfl⟩
        go_wp2
        go_ret
        exact ⟨ret_bool hno.out.symm, rfl⟩
      | some p =>
        obtain ⟨r, n⟩ := p
        have hr := decL_room hd
        have hrl := decL_lt hd
        have hnx : Hid (validL (s.data.toList.drop (a + n)) = validL s.data.toList) := by show _ = _; rw [← hv.out, validL_some hd, List.drop_drop]
        have HD := Lib.hid hd
        clear hd
        go_wp2_with fail
        refine (get_some HD.out hs w).mono ?_
        rintro e w1 ⟨rfl, rfl⟩
        go_wp2
        go_round
        case rel => exact ⟨a + n, by omega, by go_num, hnx⟩
        case measure => simp [intOf]; omega
    · have g1 : ¬ (a : Int) < s.size := by omega
      have hyes : Hid (validL s.data.toList = true) := by show _ = _; rw [← hv.out, drop_end (by omega)]; rfl
      go_wp2
      go_ret
      exact ⟨ret_bool hyes.out.symm, rfl⟩

def cutB (s : ByteArray) (n : Nat) : ByteArray := ⟨(s.data.toList.take (cutN n s.data.toList)).toArray⟩
theorem extract_take (s : ByteArray) (a : Nat) : s.extract 0 a = ⟨(s.data.toList.take a).toArray⟩ := by
  apply Kit.bytes_ext
  simp

set_option maxHeartbeats 1000000 in
set_option maxRecDepth 100000 in
theorem cut_any (s : ByteArray) (n : Int) (n1 : n ≤ 9223372036854775807) (hs : s.size ≤ 140737488355328) (w : World) :
    Calls Try.prog 16 #[.string s, .int .i64 n] w fun e w' => e = .returned (.string (cutB s n.toNat)) ∧ Below w.heap.size w w' := by
  have hcb : Hid (cutB s n.toNat = ⟨(s.data.toList.take (cutN n.toNat s.data.toList)).toArray⟩) := by show _ = _; rfl
  go_enter Try.func16, Try.ntmps16
  go_wp2_with fail
  go_loop [5, 9] (fun x i => ∃ a k : Nat, a ≤ s.size ∧ (k : Int) ≤ max n 0 ∧ i = .int .i64 k ∧ x = .int .i64 a ∧ Hid (a + cutN (n.toNat - k) (s.data.toList.drop a) = cutN n.toNat s.data.toList)) (fun _ i => n.toNat - (intOf i).toNat)
  case atStart => exact ⟨0, 0, by omega, by omega, rfl, rfl, by show _ = _; simp⟩
  case round =>
    obtain ⟨a, k, ha, hk, rfl, rfl, hc⟩ := hrel
    have gs : (a : Int) ≤ s.size := by omega
    by_cases hlt : (k : Int) < n
    · cases hd : decL (s.data.toList.drop a) with
      | none =>
        have hend : Hid (s.extract 0 a = cutB s n.toNat) := by
          show _ = _
          rw [hcb.out, ← hc.out, cutN_none hd, extract_take]
          rfl
        have HD := Lib.hid hd
        clear hd
        go_wp2_with fail
        refine (get_none HD.out hs w).mono ?_
        rintro e w1 ⟨rfl, rfl⟩
        go_wp2_with fail
        refine (clone_any _ w ?_).mono ?_
        · rw [ByteArray.size_extract]; omega
        rintro e w1 ⟨rfl, hb⟩
        go_wp2
        go_ret
        exact ⟨ret_string hend.out, hb⟩
      | some p =>
        obtain ⟨r, m⟩ := p
        have hr := decL_room hd
        have hrl := decL_lt hd
        have hnx : Hid (a + m + cutN (n.toNat - (k + 1)) (s.data.toList.drop (a + m)) = cutN n.toNat s.data.toList) := by
          show _ = _
          rw [← hc.out, show n.toNat - k = n.toNat - (k + 1) + 1 by omega, cutN_some hd, List.drop_drop]
          omega
        have HD := Lib.hid hd
        clear hd
        go_wp2_with fail
        refine (get_some HD.out hs w).mono ?_
        rintro e w1 ⟨rfl, rfl⟩
        go_wp2
        go_round
        case rel => exact ⟨a + m, k + 1, by omega, by omega, by go_num, by go_num, hnx⟩
        case measure => simp [intOf]; omega
    · have hend : Hid (s.extract 0 a = cutB s n.toNat) := by
        show _ = _
        rw [hcb.out, ← hc.out, show n.toNat - k = 0 by omega, extract_take]
        rfl
      go_wp2_with fail
      refine (clone_any _ w ?_).mono ?_
      · rw [ByteArray.size_extract]; omega
      rintro e w1 ⟨rfl, hb⟩
      go_wp2
      go_ret
      exact ⟨ret_string hend.out, hb⟩
end Go.Proofs.Ytkdpcfogfjknoaa.U8
