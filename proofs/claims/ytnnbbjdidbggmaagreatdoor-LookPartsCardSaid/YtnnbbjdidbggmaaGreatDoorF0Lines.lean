/-
  field.lines gives an iterator over the lines of some bytes of a text: each line's text, and the place behind it; it reads the three boxes that it has captured between two rounds. Conditions: the text has at most 32768 bytes, the places lie in it.
-/
import Derived.Test.YtnnbbjdidbggmaaGreatDoorF0Mem
import Derived.Test.YtnnbbjdidbggmaaGreatDoorEnv
import Derived.Test.YtnnbbjdidbggmaaGreatDoorShelf
import Derived.RangeFuncNested
import Derived.RangeFuncBound
import Derived.RangeFuncCalls
import Derived.RangeFuncLeaves
import Derived.Shelf.Abstract
import Derived.Shelf.RegionOpen
import Derived.OwnWalkIn
import Derived.TacticsInMore
import Derived.LoopNIn
import Derived.LoopIn
import Derived.IntWalk
namespace Go.Proofs.YtnnbbjdidbggmaaGreatDoor.F0
open Go Go.RowKit Go.Joins Go.Shelf Kit

attribute [local go_sem] Oper.semAt_some

/-- A line as the loop's body is handed it. -/
abbrev Ln := { x : ByteArray × Nat // x.1.size ≤ 32768 ∧ x.2 ≤ 32768 }
def dec (x : Ln) : List UInt8 × Nat := (x.1.1.data.toList, x.1.2)
def encs (x : Ln) : Array Value := #[.string x.1.1, .int .i64 (x.1.2 : Int)]
/-- The three boxes that the iterator reads. -/
def Boxes (s : ByteArray) (a0 t0 A1 A2 A3 : Nat) (W : World) : Prop :=
  Boxed W A1 3 (.int .i64 (a0 : Int)) ∧ Boxed W A2 3 (.int .i64 (t0 : Int)) ∧ Boxed W A3 9 (.string s)
/-- What a round that goes on keeps. -/
def KpL (n0 : Nat) (R : World → Prop) (W W' : World) : Prop := Below n0 W W' ∧ (R W → R W')
theorem KpL.t {n0 : Nat} {R : World → Prop} {A B C : World} (h : KpL n0 R A B) (k : KpL n0 R B C) : KpL n0 R A C := ⟨h.1.trans k.1, fun x => k.2 (h.2 x)⟩

set_option maxHeartbeats 1000000 in
theorem lines_any (n : Nat) (s : ByteArray) (a0 t0 : Int) (w : World) :
    CallsIn Fence.wide n Tryz.prog 67 #[.string s, .int .i64 a0, .int .i64 t0] w fun e w' => e = .returned (.func (.func 103) #[] #[.pointer (some ⟨w.heap.size + 1, 0, none⟩), .pointer (some ⟨w.heap.size + 1 + 1, 0, none⟩), .pointer (some ⟨w.heap.size, 0, none⟩)]) ∧
      w' = ((w.alloc (.cells #[.string s] 9)).alloc (.cells #[.int .i64 a0] 3)).alloc (.cells #[.int .i64 t0] 3) := by
  refine callsIn_wide.2 ?_
  go_enter Tryz.func67, Tryz.ntmps67
  go_wp2
  go_ret
  exact ⟨by simp, rfl⟩

/-! ### The closure -/
theorem take_drop_size (s : ByteArray) (k t : Nat) (h : k ≤ t) (ht : t ≤ s.size) : ((s.data.toList.take t).drop k).length = t - k := by
  rw [List.length_drop, List.length_take, ← Lib.size_eq]
  omega
theorem ext_list (s : ByteArray) (k t : Nat) : (s.extract k t).data.toList = (s.data.toList.take t).drop k := by
  rw [← Lib.toList_data, Lib.extract_toList, List.drop_take]

set_option maxHeartbeats 4000000 in
set_option maxRecDepth 100000 in
theorem lines1_in (n : Nat) (hn : 1 ≤ n) (l n0 A1 A2 A3 a0 t0 : Nat) (s : ByteArray) (hs : s.size ≤ 32768) (hat : a0 ≤ t0) (hto : t0 ≤ s.size) (J Jx : List Ln → World → Prop)
    (hY : ∀ pre x W, J pre W → pre.length < 32769 → YieldAt Fence.wide (n - 1) Tryz.prog l (encs x) W fun e W' =>
      (e = .returned (.bool true) ∧ J (pre ++ [x]) W' ∧ KpL n0 (Boxes s a0 t0 A1 A2 A3) W W') ∨ (e = .returned (.bool false) ∧ Jx (pre ++ [x]) W'))
    (W w0 : World) (hn0 : n0 ≤ w0.heap.size) (hW : Below n0 w0 W) (hE : ∀ w', Below n0 w0 w' → Srch.Env w') (hb : Boxes s a0 t0 A1 A2 A3 W) (h0 : J [] W) (hJ : AbidesFrom W.heap.size J) :
    CallsIn Fence.wide n Tryz.prog 103 #[.func (.yield l) #[] #[], .pointer (some ⟨A1, 0, none⟩), .pointer (some ⟨A2, 0, none⟩), .pointer (some ⟨A3, 0, none⟩)] W fun e W' => (∃ v, e = .returned v) ∧
      ((∃ ys, ys.map dec = linesL a0 ((s.data.toList.take t0).drop a0) ∧ J ys W') ∨ (∃ pre, pre.map dec <+: linesL a0 ((s.data.toList.take t0).drop a0) ∧ Jx pre W')) := by
  refine callsIn_of_wp Tryz.func103 rfl trivial ?_ rfl
  simp only [Tryz.ntmps103, List.size_toArray, List.length_cons, List.length_nil, Nat.reduceAdd, Nat.reduceSub, Array.replicate_succ, Array.replicate_zero, List.push_toArray, List.append_toArray, List.nil_append, List.cons_append]
  have hc1 := hb.1.cell
  gi_wp2
  gi_loopw [5] (fun p wr => ∃ (pre : List Ln) (k : Nat), p = .int .i64 (k : Int) ∧ a0 ≤ k ∧ k ≤ t0 ∧ Hid (pre.map dec ++ linesL k ((s.data.toList.take t0).drop k) = linesL a0 ((s.data.toList.take t0).drop a0)) ∧ Boxes s a0 t0 A1 A2 A3 wr ∧ Below n0 w0 wr ∧ J pre wr) (fun p _ => t0 - (intOf p).toNat)
  case atStart => exact ⟨[], a0, rfl, Nat.le_refl _, hat, Lib.hid rfl, hb, hW, h0⟩
  case round =>
    obtain ⟨pre, k, rfl, hk0, hk1, hpre, hbx, hbe, hJs⟩ := hrel
    clear hc1
    have hc2 := hbx.2.1.cell
    have hc3 := hbx.2.2.cell
    by_cases hlt : k < t0
    · have g1 : (k : Int) < (t0 : Int) := by omega
      have g2 : (t0 : Int) ≤ (s.size : Int) := by omega
      have hw0 : Srch.Env wr := hE wr hbe
      have hex := ext_list s k t0
      have hsz : (s.extract k t0).size = t0 - k := by rw [Lib.size_eq, hex, take_drop_size s k t0 hk1 hto]
      have HEX := Lib.hid hex
      have HSZ := Lib.hid hsz
      have HPL : Hid (pre.length < 32769) := Lib.hid (by
        have h1 := congrArg List.length hpre.out
        rw [List.length_append, List.length_map] at h1
        have h2 := linesG_count ((s.data.toList.take t0).drop a0) [] a0
        have h3 := take_drop_size s a0 t0 hat hto
        have h4 : 0 < (linesL k ((s.data.toList.take t0).drop k)).length := by
          rcases Srch.idx_cases 10 ((s.data.toList.take t0).drop k) with ⟨_, hno⟩ | ⟨a, r, h5, h6, _⟩
          · rw [linesL_last _ _ hno (fun e => by have := take_drop_size s k t0 hk1 hto; rw [e] at this; simp at this; omega)]
            simp
          · rw [h5, linesL_cut a r k h6]
            simp
        unfold linesL at h1 h4
        omega)
      clear hex hsz
      gi_wp2_with fail
      refine ⟨trivial, ?_⟩
      gi_at_call 76
      refine (callsIn_wide.2 (Srch.cut_any 10 (s.extract k t0) wr (by rw [HSZ.out]; omega) hw0)).mono ?_
      rintro e w1 ⟨hcut, hb1, hh1⟩
      have hJ1 : J pre w1 := hJ pre wr w1 none hJs (grown_below hb1) (fun r e => by cases e)
      have hbx1 : Boxes s a0 t0 A1 A2 A3 w1 := by
        unfold Boxes Boxed at hbx ⊢
        rw [← hh1]
        exact hbx
      have hbe1 : Below n0 w0 w1 := hbe.trans (hb1.mono (Nat.le_trans hn0 hbe.size))
      have hd2 := hbx1.2.1.cell
      have hd3 := hbx1.2.2.cell
      clear hc2 hc3 hw0 hJs hbx hbe hb1 hh1
      obtain ⟨X, hX⟩ : ∃ X, s.extract k t0 = X := ⟨_, rfl⟩
      rw [hX] at hcut
      have HX := Lib.hid hX
      have hXs : Hid (X.size = t0 - k) := Lib.hid (by rw [← hX]; exact HSZ.out)
      have hXl : Hid (X.data.toList = (s.data.toList.take t0).drop k) := Lib.hid (by rw [← hX]; exact HEX.out)
      have gX : (k : Int) + (X.size : Int) ≤ 32768 := by have := hXs.out; omega
      clear hX
      rcases hcut with ⟨rfl, hno⟩ | ⟨a, r, hl, ha, rfl⟩
      · have HNO := Lib.hid hno
        clear hno
        have hxb : X.size ≤ 32768 ∧ k + X.size ≤ 32768 := by have := hXs.out; omega
        have HN : Hid ((pre ++ [(⟨(X, k + X.size), hxb⟩ : Ln)]).map dec ++ linesL (k + X.size) ((s.data.toList.take t0).drop (k + X.size)) = linesL a0 ((s.data.toList.take t0).drop a0)) := Lib.hid (by
          have h1 := hXs.out
          rw [← hpre.out, show (s.data.toList.take t0).drop (k + X.size) = [] from List.drop_of_length_le (by rw [List.length_take]; omega), linesL_nil, List.append_nil, List.map_append, ← hXl.out,
            linesL_last _ _ HNO.out (fun e => by have h2 := hXs.out; rw [Lib.size_eq, e] at h2; simp at h2; omega), ← Lib.size_eq]
          rfl)
        obtain ⟨fn, tmps, assign, body, hy, hR⟩ := hY pre ⟨(X, k + X.size), hxb⟩ w1 hJ1 HPL.out
        simp only [encs, Int.natCast_add] at hy
        gi_wp2_with fail
        refine hR.mono ?_
        rintro e W3 (⟨rfl, hJ3, hk3⟩ | ⟨rfl, hJx3⟩)
        · gi_wp2
          go_roundw
          case rel => exact ⟨_, k + X.size, by go_num, by omega, by have := hXs.out; omega, HN, hk3.2 hbx1, hbe1.trans hk3.1, hJ3⟩
          case measure => have := hXs.out; simp [intOf]; omega
        · gi_wp2
          refine bodyPost_ret (results_none rfl _ _ _) rfl ?_
          exact ⟨⟨_, rfl⟩, .inr ⟨_, ⟨_, HN.out⟩, hJx3⟩⟩
      · have HA := Lib.hid ha
        have HL := Lib.hid hl
        have hsz2 : Hid (a.size + r.size + 1 = X.size) := Lib.hid (by
          rw [Lib.size_eq, Lib.size_eq, Lib.size_eq X, hl, List.length_append, List.length_cons]; omega)
        have g2a : (k : Int) + (a.size : Int) + 1 ≤ 32768 := by have := hsz2.out; omega
        have gas : a.size ≤ 32768 := by omega
        clear ha hl
        obtain ⟨Y, hY0⟩ : ∃ Y : ByteArray, (⟨(Lib.trimSuffix a.data.toList [13]).toArray⟩ : ByteArray) = Y := ⟨_, rfl⟩
        have hYl : Hid (Y.data.toList = chopL a.data.toList) := Lib.hid (by rw [← hY0]; rfl)
        have hxb : Y.size ≤ 32768 ∧ k + a.size + 1 ≤ 32768 := by
          refine ⟨?_, by omega⟩
          rw [Lib.size_eq, hYl.out]
          refine Nat.le_trans (chopL_le _) ?_
          rw [← Lib.size_eq]
          exact gas
        have HN : Hid ((pre ++ [(⟨(Y, k + a.size + 1), hxb⟩ : Ln)]).map dec ++ linesL (k + a.size + 1) ((s.data.toList.take t0).drop (k + a.size + 1)) = linesL a0 ((s.data.toList.take t0).drop a0)) := Lib.hid (by
          have h1 : (s.data.toList.take t0).drop (k + a.size + 1) = r.data.toList := by
            rw [Nat.add_assoc, ← List.drop_drop, ← hXl.out, HL.out, Lib.size_eq, List.drop_append]
            simp
          rw [h1, ← hpre.out, List.map_append, ← hXl.out, HL.out, linesL_cut _ _ _ HA.out, ← hYl.out, ← Lib.size_eq a, List.append_assoc]
          rfl)
        obtain ⟨fn, tmps, assign, body, hy, hR⟩ := hY pre ⟨(Y, k + a.size + 1), hxb⟩ w1 hJ1 HPL.out
        simp only [encs, Int.natCast_add, Int.natCast_one] at hy
        gi_wp2_with fail
        refine ⟨trivial, ?_⟩
        gi_at_call 104
        refine (callsIn_wide.2 (Tryz.strings_TrimSuffix a ⟨#[13]⟩ w1 (by omega))).mono ?_
        rintro e w2 ⟨rfl, rfl⟩
        rw [show (ByteArray.mk #[13]).data.toList = [13] from rfl, hY0]
        gi_wp2_with fail
        refine hR.mono ?_
        rintro e W3 (⟨rfl, hJ3, hk3⟩ | ⟨rfl, hJx3⟩)
        · gi_wp2
          go_roundw
          case rel => exact ⟨_, k + a.size + 1, by go_num, by omega, by have := hXs.out; have := hsz2.out; omega, HN, hk3.2 hbx1, hbe1.trans hk3.1, hJ3⟩
          case measure => have := hXs.out; have := hsz2.out; simp [intOf]; omega
        · gi_wp2
          refine bodyPost_ret (results_none rfl _ _ _) rfl ?_
          exact ⟨⟨_, rfl⟩, .inr ⟨_, ⟨_, HN.out⟩, hJx3⟩⟩
    · have g1 : ¬ (k : Int) < (t0 : Int) := by omega
      gi_wp2
      go_end0
      refine ⟨⟨_, rfl⟩, .inl ⟨pre, ?_, hJs⟩⟩
      have hk : k = t0 := by omega
      have := hpre.out
      rw [hk, List.drop_of_length_le (by rw [List.length_take]; omega), linesL_nil, List.append_nil] at this
      exact this
end Go.Proofs.YtnnbbjdidbggmaaGreatDoor.F0
