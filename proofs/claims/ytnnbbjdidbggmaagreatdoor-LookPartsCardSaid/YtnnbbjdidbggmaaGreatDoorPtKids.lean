/-
  The program's kids makes an iterator over the kids that stand in some octets: where each begins and where it ends; it reads the five boxes that it has captured between two rounds. Conditions: the text has at most 32768 bytes, the places lie in it.
-/
import Derived.Test.YtnnbbjdidbggmaaGreatDoorPtLine
import Derived.Test.YtnnbbjdidbggmaaGreatDoorF0Lines
import Derived.Test.YtnnbbjdidbggmaaGreatDoorPtStep
namespace Go.Proofs.YtnnbbjdidbggmaaGreatDoor.Pt
open Go Go.RowKit Go.Joins Go.Shelf Kit F0

attribute [local go_sem] Oper.semAt_some

/-- A kid as the loop's body is handed it. -/
abbrev Kd (b : Nat) := { x : Nat × Nat // x.1 ≤ x.2 ∧ x.2 ≤ b }
def encK {b : Nat} (x : Kd b) : Array Value := #[.int .i64 (x.1.1 : Int), .int .i64 (x.1.2 : Int)]
def markB (bd : List UInt8) : List UInt8 := [45, 45] ++ bd
def lastB (bd : List UInt8) : List UInt8 := [45, 45] ++ bd ++ [45, 45]
/-- The five boxes that the iterator reads. -/
def BoxK (s : ByteArray) (bd : List UInt8) (a0 t0 A1 A2 A3 A4 A5 : Nat) (W : World) : Prop :=
  Boxed W A1 3 (.int .i64 (a0 : Int)) ∧ Boxed W A2 3 (.int .i64 (t0 : Int)) ∧ Boxed W A3 9 (.string s) ∧ Boxed W A4 9 (sV (markB bd)) ∧ Boxed W A5 9 (sV (lastB bd))
/-- What a round that goes on keeps. -/
def KpK (R : World → Prop) (W W' : World) : Prop := R W → R W'
theorem BoxK.below {s : ByteArray} {bd : List UInt8} {a0 t0 A1 A2 A3 A4 A5 : Nat} {w W : World} (h : BoxK s bd a0 t0 A1 A2 A3 A4 A5 w) (hb : Below w.heap.size w W) : BoxK s bd a0 t0 A1 A2 A3 A4 A5 W :=
  ⟨h.1.kept (grown_below hb) (by simp), h.2.1.kept (grown_below hb) (by simp), h.2.2.1.kept (grown_below hb) (by simp), h.2.2.2.1.kept (grown_below hb) (by simp), h.2.2.2.2.kept (grown_below hb) (by simp)⟩

theorem box_at {W : World} {n : Nat} (h : W.heap.size = n) (t : TypeId) (v : Value) : Boxed (W.alloc (.cells #[v] t)) n t v := by
  subst h
  exact Boxed.new W t v
theorem mark_val (b : ByteArray) : sV (markB b.data.toList) = .string ((⟨#[45, 45]⟩ : ByteArray) ++ b) ∧ sV (lastB b.data.toList) = .string ((⟨#[45, 45]⟩ : ByteArray) ++ b ++ ⟨#[45, 45]⟩) := by
  refine ⟨congrArg Value.string (bytes_ext ?_), congrArg Value.string (bytes_ext ?_)⟩
  · simp [markB]
  · simp [lastB]

set_option maxHeartbeats 1000000 in
set_option maxRecDepth 100000 in
theorem kids_any (s b : ByteArray) (a0 t0 : Nat) (w : World) (hb : b.size ≤ 1073741824) :
    Calls Tryz.prog 94 #[.string s, .string b, .int .i64 (a0 : Int), .int .i64 (t0 : Int)] w fun e w' =>
      e = .returned (.func (.func 130) #[] #[.pointer (some ⟨w.heap.size + 1, 0, none⟩), .pointer (some ⟨w.heap.size + 1 + 1, 0, none⟩), .pointer (some ⟨w.heap.size, 0, none⟩), .pointer (some ⟨w.heap.size + 1 + 1 + 1, 0, none⟩), .pointer (some ⟨w.heap.size + 1 + 1 + 1 + 1, 0, none⟩)]) ∧
      BoxK s b.data.toList a0 t0 (w.heap.size + 1) (w.heap.size + 1 + 1) w.heap.size (w.heap.size + 1 + 1 + 1) (w.heap.size + 1 + 1 + 1 + 1) w' ∧ Below w.heap.size w w' ∧ w'.heap.size = w.heap.size + 5 := by
  have h1 : (2 : Int) + (b.size : Int) ≤ 1073741826 := by omega
  have h2 : (2 : Int) + (b.size : Int) + 2 ≤ 1073741828 := by omega
  go_enter Tryz.func94, Tryz.ntmps94
  go_wp2_with fail
  go_ret
  obtain ⟨e1, e2⟩ := mark_val b
  refine ⟨rfl, ⟨?_, ?_, ?_, ?_, ?_⟩, ?_, by simp⟩
  · exact (((box_at (by simp) _ _).alloc _).alloc _).alloc _
  · exact ((box_at (by simp) _ _).alloc _).alloc _
  · exact ((((box_at rfl _ _).alloc _).alloc _).alloc _).alloc _
  · rw [e1]; exact (box_at (by simp) _ _).alloc _
  · rw [e2]; exact box_at (by simp) _ _
  · exact (((((Below.refl _ w).alloc (Nat.le_refl _) _).alloc (by simp) _).alloc (by simp; omega) _).alloc (by simp; omega) _).alloc (by simp; omega) _

/-! ### The iterator -/
theorem kidsG_pos {bd s : List UInt8} {b p nx : Nat} {o : Option Nat} {T : List UInt8} {r : List (List UInt8 × Nat)} : 
    (isMark bd T = true → kidsG bd s b o p ((T, nx) :: r) = (o.map fun f => (f, backL s f p)).toList ++ kidsG bd s b (some nx) nx r) ∧
    (isMark bd T = false → isLast bd T = true → kidsG bd s b o p ((T, nx) :: r) = (o.map fun f => (f, backL s f p)).toList) ∧
    (isMark bd T = false → isLast bd T = false → kidsG bd s b o p ((T, nx) :: r) = kidsG bd s b o nx r) := by
  refine ⟨fun h => ?_, fun h h2 => ?_, fun h h2 => ?_⟩
  · rw [kidsG, h]; rfl
  · rw [kidsG, h, h2]; rfl
  · rw [kidsG, h, h2]; rfl
theorem back_ext (s : ByteArray) (f p : Nat) : f + (woEnd (s.extract f p).data.toList).length = backL s.data.toList f p := by
  unfold backL
  rw [ext_seg]
  rfl

set_option maxHeartbeats 8000000 in
set_option maxRecDepth 100000 in
theorem kids1_in (n : Nat) (hn : 1 ≤ n) (l A1 A2 A3 A4 A5 a0 t0 : Nat) (s : ByteArray) (bd : List UInt8) (hs : s.size ≤ 32768) (hat : a0 ≤ t0) (hto : t0 ≤ s.size) (J Jx : List (Kd t0) → World → Prop)
    (hY : ∀ pre x W, J pre W → pre.length < 32771 → YieldAt Fence.wide (n - 1) Tryz.prog l (encK x) W fun e W' =>
      (e = .returned (.bool true) ∧ J (pre ++ [x]) W' ∧ KpK (BoxK s bd a0 t0 A1 A2 A3 A4 A5) W W') ∨ (e = .returned (.bool false) ∧ Jx (pre ++ [x]) W'))
    (W : World) (hb : BoxK s bd a0 t0 A1 A2 A3 A4 A5 W) (h0 : J [] W) (hJ : AbidesFrom W.heap.size J) :
    CallsIn Fence.wide n Tryz.prog 130 #[.func (.yield l) #[] #[], .pointer (some ⟨A1, 0, none⟩), .pointer (some ⟨A2, 0, none⟩), .pointer (some ⟨A3, 0, none⟩), .pointer (some ⟨A4, 0, none⟩), .pointer (some ⟨A5, 0, none⟩)] W fun e W' => (∃ v, e = .returned v) ∧
      ((∃ ys, ys.map (·.1) = kidsL bd s.data.toList a0 t0 ∧ J ys W') ∨ (∃ pre, pre.map (·.1) <+: kidsL bd s.data.toList a0 t0 ∧ Jx pre W')) := by
  have htl : t0 ≤ s.data.toList.length := by rw [← Lib.size_eq]; exact hto
  refine callsIn_of_wp Tryz.func130 rfl trivial ?_ rfl
  simp only [Tryz.ntmps130, List.size_toArray, List.length_cons, List.length_nil, Nat.reduceAdd, Nat.reduceSub, Array.replicate_succ, Array.replicate_zero, List.push_toArray, List.append_toArray, List.nil_append, List.cons_append]
  have hc1 := hb.1.cell
  gi_wp2
  gi_loopw [7, 8, 9] (fun x y z wr => ∃ (pre : List (Kd t0)) (o : Option Nat) (p : Nat), x = .int .i64 ((o.getD 0 : Nat) : Int) ∧ y = .bool o.isSome ∧ z = .int .i64 (p : Int) ∧ a0 ≤ p ∧ p ≤ t0 ∧ o.getD 0 ≤ p ∧ Hid (pre.map (·.1) ++ kidsG bd s.data.toList t0 o p (linesL p (segL s.data.toList p t0)) = kidsL bd s.data.toList a0 t0) ∧ BoxK s bd a0 t0 A1 A2 A3 A4 A5 wr ∧ J pre wr) (fun _ _ z _ => t0 - (intOf z).toNat)
  case atStart => exact ⟨[], none, a0, rfl, rfl, rfl, Nat.le_refl _, hat, Nat.zero_le _, Lib.hid rfl, hb, h0⟩
  case round =>
    obtain ⟨pre, o, p, rfl, rfl, rfl, hp0, hp1, hop, hpre, hbx, hJs⟩ := hrel
    clear hc1
    have hd2 := hbx.2.1.cell
    have hd3 := hbx.2.2.1.cell
    by_cases hlt : p < t0
    · have g1 : (p : Int) < (t0 : Int) := by omega
      gi_wp2_with fail
      refine ⟨trivial, ?_⟩
      gi_at_call 131
      refine (callsIn_wide.2 (lineAt_any s p t0 wr hs hlt hto)).mono ?_
      rintro e w1 ⟨T, nx, rfl, hL, hnx1, hnx2, hb1⟩
      have hJ1 : J pre w1 := hJ pre wr w1 none hJs (grown_below hb1) (fun r e => by cases e)
      have hbx1 := hbx.below hb1
      have HBX := Lib.hid hbx1
      have d2 := hbx1.2.1.cell
      have d3 := hbx1.2.2.1.cell
      have d4 := hbx1.2.2.2.1.cell
      have d5 := hbx1.2.2.2.2.cell
      have HJ1 := Lib.hid hJ1
      unfold sV at d4 d5 ⊢
      have HG := Lib.hid (@kidsG_pos bd s.data.toList t0 p nx o T (linesL nx (segL s.data.toList nx t0)))
      rw [← hL] at HG
      have hnx3 : p ≤ nx := by omega
      have hon : o.getD 0 ≤ nx := by omega
      clear hd2 hd3 hL hJs hbx hb1 hbx1 hJ1
      have HLEN := Lib.hid (kidsL_len bd s.data.toList (a := a0) htl)
      by_cases hm : isMark bd T = true
      · have hq1 : (rtrL T == markB bd) = true := hm
        have hq2 : (rtrL T == lastB bd) = false := mark_not_last hm
        have hq1' : rtrL T = markB bd := by simpa using hq1
        cases o with
        | none =>
          have HN : Hid (pre.map (·.1) ++ kidsG bd s.data.toList t0 (some nx) nx (linesL nx (segL s.data.toList nx t0)) = kidsL bd s.data.toList a0 t0) := Lib.hid (by rw [← hpre.out, HG.out.1 hm]; rfl)
          clear hpre hm HG hq1'
          gi_wp2_with fail
          refine ⟨trivial, ?_⟩
          gi_wp2_with fail
          refine ⟨(fun _ h => by cases h), ?_⟩
          gi_wp2_with fail
          go_roundw
          case rel => exact ⟨pre, some nx, nx, rfl, rfl, rfl, by omega, hnx2, Nat.le_refl _, HN, HBX.out, HJ1.out⟩
          case measure => simp [intOf]; omega
        | some f =>
          have hfp : f ≤ p := hop
          have g3 : (f : Int) ≤ (p : Int) := by omega
          have g4 : (p : Int) ≤ (s.size : Int) := by omega
          obtain ⟨Z, hZ⟩ : ∃ Z : ByteArray, (⟨(woEnd (s.extract f p).data.toList).toArray⟩ : ByteArray) = Z := ⟨_, rfl⟩
          have hZb : f + Z.size = backL s.data.toList f p := by rw [← hZ, Lib.size_mk]; exact back_ext s f p
          have hxb : f ≤ f + Z.size ∧ f + Z.size ≤ t0 := ⟨by omega, by have := back_le s.data.toList hfp; omega⟩
          have hz1 : (f : Int) + (Z.size : Int) ≤ 32768 := by omega
          have HPL : Hid (pre.length < 32771) := Lib.hid (by
            have h1 := congrArg List.length hpre.out
            have h2 := HLEN.out
            rw [List.length_append, List.length_map] at h1
            omega)
          have HN : Hid ((pre ++ [(⟨(f, f + Z.size), hxb⟩ : Kd t0)]).map (·.1) ++ kidsG bd s.data.toList t0 (some nx) nx (linesL nx (segL s.data.toList nx t0)) = kidsL bd s.data.toList a0 t0) := Lib.hid (by
            rw [← hpre.out, HG.out.1 hm, List.map_append]
            simp [hZb])
          clear hpre hm HG hq1'
          obtain ⟨fn, tmps, assign, body, hy, hR⟩ := hY pre (⟨(f, f + Z.size), hxb⟩ : Kd t0) w1 HJ1.out HPL.out
          simp only [encK, Int.natCast_add] at hy
          gi_wp2_with fail
          refine ⟨trivial, ?_⟩
          gi_at_call 132
          refine (callsIn_wide.2 (without_any (s.extract f p) w1 (by rw [ByteArray.size_extract]; omega))).mono ?_
          rintro e w2 ⟨rfl, hw2⟩
          obtain rfl : w2 = w1 := hw2.symm
          unfold sV
          rw [hZ]
          gi_wp2_with fail
          refine hR.mono ?_
          rintro e W3 (⟨rfl, hJ3, hk3⟩ | ⟨rfl, hJx3⟩)
          · have hbx3 := hk3 HBX.out
            have e5 := hbx3.2.2.2.2.cell
            unfold sV at e5
            have HBX3 := Lib.hid hbx3
            clear hbx3 d2 d3 d4 d5
            gi_wp2_with fail
            go_roundw
            case rel => exact ⟨_, some nx, nx, rfl, rfl, rfl, by omega, hnx2, Nat.le_refl _, HN, HBX3.out, hJ3⟩
            case measure => simp [intOf]; omega
          · gi_wp2
            refine bodyPost_ret (results_none rfl _ _ _) rfl ?_
            exact ⟨⟨_, rfl⟩, .inr ⟨_, ⟨_, HN.out⟩, hJx3⟩⟩
      · have hm0 : isMark bd T = false := by simpa using hm
        have hq1 : (rtrL T == markB bd) = false := hm0
        clear hm
        by_cases hl : isLast bd T = true
        · have hq2 : (rtrL T == lastB bd) = true := hl
          have hq2' : rtrL T = lastB bd := by simpa using hq2
          cases o with
          | none =>
            have HN : Hid (pre.map (·.1) = kidsL bd s.data.toList a0 t0) := Lib.hid (by rw [← hpre.out, HG.out.2.1 hm0 hl]; simp)
            clear hpre hm0 hl HG hq2'
            gi_wp2_with fail
            refine ⟨trivial, ?_⟩
            gi_wp2_with fail
            refine ⟨(fun _ h => by cases h), ?_⟩
            gi_wp2_with fail
            refine bodyPost_ret (results_none rfl _ _ _) rfl ?_
            exact ⟨⟨_, rfl⟩, .inl ⟨pre, HN.out, HJ1.out⟩⟩
          | some f =>
            have hfp : f ≤ p := hop
            have g3 : (f : Int) ≤ (p : Int) := by omega
            have g4 : (p : Int) ≤ (s.size : Int) := by omega
            obtain ⟨Z, hZ⟩ : ∃ Z : ByteArray, (⟨(woEnd (s.extract f p).data.toList).toArray⟩ : ByteArray) = Z := ⟨_, rfl⟩
            have hZb : f + Z.size = backL s.data.toList f p := by rw [← hZ, Lib.size_mk]; exact back_ext s f p
            have hxb : f ≤ f + Z.size ∧ f + Z.size ≤ t0 := ⟨by omega, by have := back_le s.data.toList hfp; omega⟩
            have hz1 : (f : Int) + (Z.size : Int) ≤ 32768 := by omega
            have HPL : Hid (pre.length < 32771) := Lib.hid (by
              have h1 := congrArg List.length hpre.out
              have h2 := HLEN.out
              rw [List.length_append, List.length_map] at h1
              omega)
            have HN : Hid ((pre ++ [(⟨(f, f + Z.size), hxb⟩ : Kd t0)]).map (·.1) = kidsL bd s.data.toList a0 t0) := Lib.hid (by
              rw [← hpre.out, HG.out.2.1 hm0 hl, List.map_append]
              simp [hZb])
            clear hpre hm0 hl HG hq2'
            obtain ⟨fn, tmps, assign, body, hy, hR⟩ := hY pre (⟨(f, f + Z.size), hxb⟩ : Kd t0) w1 HJ1.out HPL.out
            simp only [encK, Int.natCast_add] at hy
            gi_wp2_with fail
            refine ⟨trivial, ?_⟩
            gi_at_call 132
            refine (callsIn_wide.2 (without_any (s.extract f p) w1 (by rw [ByteArray.size_extract]; omega))).mono ?_
            rintro e w2 ⟨rfl, hw2⟩
            obtain rfl : w2 = w1 := hw2.symm
            unfold sV
            rw [hZ]
            gi_wp2_with fail
            refine hR.mono ?_
            rintro e W3 (⟨rfl, hJ3, hk3⟩ | ⟨rfl, hJx3⟩)
            · have hbx3 := hk3 HBX.out
              have e5 := hbx3.2.2.2.2.cell
              unfold sV at e5
              clear hbx3 d2 d3 d4 d5
              gi_wp2_with fail
              refine bodyPost_ret (results_none rfl _ _ _) rfl ?_
              exact ⟨⟨_, rfl⟩, .inl ⟨_, HN.out, hJ3⟩⟩
            · gi_wp2
              refine bodyPost_ret (results_none rfl _ _ _) rfl ?_
              exact ⟨⟨_, rfl⟩, .inr ⟨_, by rw [HN.out]; exact List.prefix_refl _, hJx3⟩⟩
        · have hl0 : isLast bd T = false := by simpa using hl
          have hq2 : (rtrL T == lastB bd) = false := hl0
          have HN : Hid (pre.map (·.1) ++ kidsG bd s.data.toList t0 o nx (linesL nx (segL s.data.toList nx t0)) = kidsL bd s.data.toList a0 t0) := Lib.hid (by rw [← hpre.out, HG.out.2.2 hm0 hl0])
          clear hpre hm0 hl hl0 HG
          gi_wp2_with fail
          go_roundw
          case rel => exact ⟨pre, o, nx, rfl, rfl, rfl, by omega, hnx2, hon, HN, HBX.out, HJ1.out⟩
          case measure => simp [intOf]; omega
    · have g1 : ¬ (p : Int) < (t0 : Int) := by omega
      have hp : p = t0 := by omega
      have hend : Hid (pre.map (·.1) ++ (o.map fun f => (f, t0)).toList = kidsL bd s.data.toList a0 t0) := Lib.hid (by
        have h2 : segL s.data.toList p t0 = [] := List.eq_nil_of_length_eq_zero (by rw [seg_len htl]; omega)
        rw [← hpre.out, h2, linesL_nil, kidsG])
      have HLEN := Lib.hid (kidsL_len bd s.data.toList (a := a0) htl)
      have HBX := Lib.hid hbx
      have HJ1 := Lib.hid hJs
      clear hpre hbx hJs
      cases o with
      | none =>
        have HN : Hid (pre.map (·.1) = kidsL bd s.data.toList a0 t0) := Lib.hid (by rw [← hend.out]; simp)
        gi_wp2_with fail
        go_end0
        exact ⟨⟨_, rfl⟩, .inl ⟨pre, HN.out, HJ1.out⟩⟩
      | some f =>
        have hfp : f ≤ t0 := by rw [← hp]; exact hop
        have HPL : Hid (pre.length < 32771) := Lib.hid (by
          have h1 := congrArg List.length hend.out
          have h2 := HLEN.out
          rw [List.length_append, List.length_map] at h1
          omega)
        have HN : Hid ((pre ++ [(⟨(f, t0), ⟨hfp, Nat.le_refl _⟩⟩ : Kd t0)]).map (·.1) = kidsL bd s.data.toList a0 t0) := Lib.hid (by rw [← hend.out]; simp)
        obtain ⟨fn, tmps, assign, body, hy, hR⟩ := hY pre (⟨(f, t0), ⟨hfp, Nat.le_refl _⟩⟩ : Kd t0) wr HJ1.out HPL.out
        simp only [encK] at hy
        gi_wp2_with fail
        refine hR.mono ?_
        rintro e W3 (⟨rfl, hJ3, hk3⟩ | ⟨rfl, hJx3⟩)
        · gi_wp2_with fail
          go_end0
          exact ⟨⟨_, rfl⟩, .inl ⟨_, HN.out, hJ3⟩⟩
        · gi_wp2_with fail
          go_end0
          exact ⟨⟨_, rfl⟩, .inr ⟨_, by rw [HN.out]; exact List.prefix_refl _, hJx3⟩⟩
theorem kids_stops (n : Nat) (hn : 1 ≤ n) (A1 A2 A3 A4 A5 a0 t0 : Nat) (s : ByteArray) (bd : List UInt8) (hs : s.size ≤ 32768) (hat : a0 ≤ t0) (hto : t0 ≤ s.size) (w : World) (hb : BoxK s bd a0 t0 A1 A2 A3 A4 A5 w) :
    SeqStopsK Fence.wide n Tryz.prog 130 #[.pointer (some ⟨A1, 0, none⟩), .pointer (some ⟨A2, 0, none⟩), .pointer (some ⟨A3, 0, none⟩), .pointer (some ⟨A4, 0, none⟩), .pointer (some ⟨A5, 0, none⟩)] (encK (b := t0)) (KpK (BoxK s bd a0 t0 A1 A2 A3 A4 A5))
      (fun ys => ys.map (·.1) = kidsL bd s.data.toList a0 t0) (fun pre => pre.map (·.1) <+: kidsL bd s.data.toList a0 t0) 32771 w := fun l J Jx W hW hJ _ hY h0 =>
  kids1_in n hn l A1 A2 A3 A4 A5 a0 t0 s bd hs hat hto J Jx hY W (hb.below hW) h0 hJ
end Go.Proofs.YtnnbbjdidbggmaaGreatDoor.Pt
