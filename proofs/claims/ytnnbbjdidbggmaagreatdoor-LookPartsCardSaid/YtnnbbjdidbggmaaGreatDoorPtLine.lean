/-
  The program's withoutEnd and lineAt: a line at a place, without blanks at its end, and the place behind it; kids makes an iterator over the kids. Condition: the text has at most 32768 bytes, the places lie in it.
-/
import Derived.Test.YtnnbbjdidbggmaaGreatDoorPtUnq
namespace Go.Proofs.YtnnbbjdidbggmaaGreatDoor.Pt
open Go Go.RowKit Go.Joins Kit F0

set_option maxHeartbeats 1000000 in
theorem without_any (s : ByteArray) (w : World) (hs : s.size ≤ 1073741824) :
    Calls Tryz.prog 132 #[.string s] w fun e w' => e = .returned (sV (woEnd s.data.toList)) ∧ w = w' := by
  cases h : Lib.hasSuffix s.data.toList [10]
  · have hw : Hid (woEnd s.data.toList = s.data.toList) := Lib.hid (by unfold woEnd; rw [h]; rfl)
    go_enter Tryz.func132, Tryz.ntmps132
    go_wp2_with fail
    refine (Tryz.strings_CutSuffix s ⟨#[10]⟩ w (by omega)).mono ?_
    rintro e w1 ⟨rfl, rfl⟩
    rw [show (ByteArray.mk #[10]).data.toList = [10] from rfl, h]
    go_wp2_with fail
    go_ret
    rw [hw.out]
    exact ⟨rfl, rfl⟩
  · have hw : Hid (woEnd s.data.toList = chopL (Lib.trimSuffix s.data.toList [10])) := Lib.hid (by unfold woEnd; rw [h]; rfl)
    have hl := suffix_le s.data.toList
    rw [← Lib.size_eq] at hl
    go_enter Tryz.func132, Tryz.ntmps132
    go_wp2_with fail
    refine (Tryz.strings_CutSuffix s ⟨#[10]⟩ w (by omega)).mono ?_
    rintro e w1 ⟨rfl, rfl⟩
    rw [show (ByteArray.mk #[10]).data.toList = [10] from rfl, h]
    go_wp2_with fail
    refine (Tryz.strings_TrimSuffix ⟨(Lib.trimSuffix s.data.toList [10]).toArray⟩ ⟨#[13]⟩ w1 (by rw [Lib.size_mk]; omega)).mono ?_
    rintro e w2 ⟨rfl, rfl⟩
    go_wp2_with fail
    go_ret
    rw [hw.out]
    exact ⟨rfl, rfl⟩

theorem ext_seg (s : ByteArray) (k t : Nat) : (s.extract k t).data.toList = segL s.data.toList k t := by
  unfold segL
  rw [← Lib.toList_data, Lib.extract_toList, List.drop_take]
theorem seg_split {s : List UInt8} {k t n : Nat} (hn : k + n ≤ t) (ht : t ≤ s.length) : segL s k t = segL s k (k + n) ++ segL s (k + n) t := by
  unfold segL
  have h1 : (s.take t).drop k = ((s.take t).take (k + n)).drop k ++ (s.take t).drop (k + n) := by
    rw [← List.drop_append_of_le_length (by rw [List.length_take, List.length_take]; omega), List.take_append_drop]
  rw [h1, List.take_take, Nat.min_eq_left hn]
theorem woEnd_no {l : List UInt8} (h : ∀ c ∈ l, c ≠ 10) : woEnd l = l := by
  unfold woEnd
  rw [if_neg]
  unfold Lib.hasSuffix
  rw [List.isSuffixOf_iff_suffix]
  rintro ⟨t, rfl⟩
  exact h 10 (by simp) rfl
theorem woEnd_line (a : List UInt8) : woEnd (a ++ [10]) = chopL a := by
  have h : Lib.hasSuffix (a ++ [10]) [10] = true := by
    unfold Lib.hasSuffix
    rw [List.isSuffixOf_iff_suffix]
    exact ⟨a, rfl⟩
  unfold woEnd
  rw [h, if_pos rfl]
  congr 1
  unfold Lib.trimSuffix
  rw [if_pos h]
  simp

set_option maxHeartbeats 2000000 in
set_option maxRecDepth 100000 in
theorem lineAt_any (s : ByteArray) (k t : Nat) (w : World) (hs : s.size ≤ 32768) (hk : k < t) (ht : t ≤ s.size) :
    Calls Tryz.prog 131 #[.string s, .int .i64 (k : Int), .int .i64 (t : Int)] w fun e w' => ∃ (T : List UInt8) (nx : Nat), e = .returned (.tuple #[sV (rtrL T), .int .i64 (nx : Int)]) ∧
      linesL k (segL s.data.toList k t) = (T, nx) :: linesL nx (segL s.data.toList nx t) ∧ k < nx ∧ nx ≤ t ∧ Below w.heap.size w w' := by
  have htl : t ≤ s.data.toList.length := by rw [← Lib.size_eq]; exact ht
  have hsl := seg_len (a := k) htl
  have g0 : (k : Int) ≤ (t : Int) := by omega
  have g1 : (t : Int) ≤ (s.size : Int) := by omega
  have hx := ext_seg s k t
  rcases Srch.idx_cases 10 (segL s.data.toList k t) with ⟨hi, hno⟩ | ⟨a, r, he, ha, hi⟩
  · have HFIN : Hid (linesL k (segL s.data.toList k t) = (segL s.data.toList k t, t) :: linesL t (segL s.data.toList t t)) := Lib.hid (by
      have h2 : segL s.data.toList t t = [] := List.eq_nil_of_length_eq_zero (by rw [seg_len htl]; omega)
      rw [h2, linesL_nil, linesL_last _ k hno (fun e => by rw [e] at hsl; simp at hsl; omega), hsl, show k + (t - k) = t by omega])
    have HW := Lib.hid (woEnd_no hno)
    have HI := Lib.hid hi
    have HX := Lib.hid hx
    have hxs : (s.extract k t).size ≤ 32768 := by rw [ByteArray.size_extract]; omega
    clear hi hno hx hsl
    go_enter Tryz.func131, Tryz.ntmps131
    go_wp2_with fail
    refine (Tryz.strings_IndexByte (s.extract k t) 10 w).mono ?_
    rintro e w1 ⟨rfl, hw⟩
    rw [hw, HX.out, show ((10 : Int)).toNat.toUInt8 = 10 from rfl, HI.out]
    clear hw
    go_wp2_with fail
    refine (without_any (s.extract k t) w (by omega)).mono ?_
    rintro e w2 ⟨rfl, hw2⟩
    rw [← hw2, HX.out, HW.out]
    unfold sV
    clear hw2
    go_wp2_with fail
    refine (trimRight_any ⟨(segL s.data.toList k t).toArray⟩ w (by rw [Lib.size_mk, ← HX.out, ← Lib.size_eq]; omega)).mono ?_
    rintro e w3 ⟨rfl, hb3⟩
    unfold sV
    go_wp2_with fail
    go_ret2
    exact ⟨segL s.data.toList k t, t, rfl, HFIN.out, hk, Nat.le_refl _, hb3⟩
  · have hlen := congrArg List.length he
    rw [hsl, List.length_append, List.length_cons] at hlen
    have hsp := seg_split (s := s.data.toList) (k := k) (t := t) (n := a.length + 1) (by omega) htl
    have hs1 : segL s.data.toList k (k + (a.length + 1)) = a ++ [10] ∧ segL s.data.toList (k + (a.length + 1)) t = r := by
      rw [he, show a ++ 10 :: r = (a ++ [10]) ++ r by simp] at hsp
      have hl2 : (a ++ [10]).length = (segL s.data.toList k (k + (a.length + 1))).length := by rw [seg_len (by omega)]; simp
      obtain ⟨e1, e2⟩ := List.append_inj hsp hl2
      exact ⟨e1.symm, e2.symm⟩
    have HFIN : Hid (linesL k (segL s.data.toList k t) = (chopL a, k + a.length + 1) :: linesL (k + a.length + 1) (segL s.data.toList (k + a.length + 1) t)) := Lib.hid (by
      rw [he, linesL_cut a r k ha, Nat.add_assoc, hs1.2])
    have HX := Lib.hid hx
    have HY : Hid ((s.extract k (k + a.length + 1)).data.toList = a ++ [10]) := Lib.hid (by rw [ext_seg, Nat.add_assoc]; exact hs1.1)
    have HI := Lib.hid hi
    have hys : (s.extract k (k + a.length + 1)).size ≤ 32768 := by rw [ByteArray.size_extract]; omega
    have g2 : (k : Int) + (a.length : Int) + 1 ≤ (t : Int) := by omega
    have g3 : (k : Int) + (a.length : Int) + 1 ≤ (s.size : Int) := by omega
    have g4 : (k : Int) ≤ (k : Int) + (a.length : Int) + 1 := by omega
    have g5 : (0 : Int) ≤ (a.length : Int) := by omega
    have g6 : ((k : Int) + (a.length : Int) + 1).toNat = k + a.length + 1 := by omega
    have hfin : k < k + a.length + 1 ∧ k + a.length + 1 ≤ t := by omega
    have hcz := chopL_le a
    have hal : a.length ≤ 32768 := by omega
    clear hi hx hsl he ha hlen hsp hs1
    go_enter Tryz.func131, Tryz.ntmps131
    go_wp2_with fail
    refine (Tryz.strings_IndexByte (s.extract k t) 10 w).mono ?_
    rintro e w1 ⟨rfl, hw⟩
    rw [hw, HX.out, show ((10 : Int)).toNat.toUInt8 = 10 from rfl, HI.out]
    clear hw
    go_wp2_with fail
    refine (without_any (s.extract k (k + a.length + 1)) w (by omega)).mono ?_
    rintro e w2 ⟨rfl, hw2⟩
    rw [← hw2, HY.out, woEnd_line]
    unfold sV
    clear hw2
    go_wp2_with fail
    refine (trimRight_any ⟨(chopL a).toArray⟩ w (by rw [Lib.size_mk]; omega)).mono ?_
    rintro e w3 ⟨rfl, hb3⟩
    unfold sV
    go_wp2_with fail
    go_ret2
    exact ⟨chopL a, k + a.length + 1, by simp [sV], HFIN.out, hfin.1, hfin.2, hb3⟩
end Go.Proofs.YtnnbbjdidbggmaaGreatDoor.Pt
