/-
  The program's Parse: what it hands back, of any bytes. Conditions: none.
-/
import Derived.Test.YtpnffmimpkimeaaJ7Caught
namespace Go.Proofs.Ytpnffmimpkimeaa.J7
open Go Go.RowKit Go.Joins Kit

/-- What Parse hands back. -/
def ParseLeft (w : World) (o : Except Nat J) (e' : Ending) (w' : World) : Prop :=
  Below w.heap.size w w' ∧ ∃ c0 c1 c2 c3 c4 c, e' = .returned (.tuple #[.agg #[c0, c1, c2, c3, c4], .int .i64 c]) ∧ match o with
    | .ok j => c = 0 ∧ NodeAt (fun g => w.heap.size ≤ g) w' j (.agg #[c0, c1, c2, c3, c4])
    | .error e => c = (e : Int) ∧ (Value.agg #[c0, c1, c2, c3, c4]) = zeroN

theorem parse_results (tmps : Array Value) {w : World} {N E : Nat} {c0 c1 c2 c3 c4 : Value} {c : Int} (h2 : tmps.getD 2 undef = .pointer (some ⟨N, 0, none⟩)) (h3 : tmps.getD 3 undef = .pointer (some ⟨E, 0, none⟩))
    (hn : Bx N c0 c1 c2 c3 c4 w) (he : w.cell? ⟨E, 0, none⟩ = some (.int .i64 c)) : (results Try.f13 tmps).run Try.prog w = .ok (.tuple #[.agg #[c0, c1, c2, c3, c4], .int .i64 c]) w := by
  have h2' : tmps[2]?.getD undef = .pointer (some ⟨N, 0, none⟩) := by simpa using h2
  have h3' : tmps[3]?.getD undef = .pointer (some ⟨E, 0, none⟩) := by simpa using h3
  have hl := run_loadVar_row (P := Try.prog) w N 27 27 _ _ _ hn.blk Try.underlying27 rfl (by kernel_rfl)
  have hle : (loadVar 28 ⟨E, 0, none⟩).run Try.prog w = .ok (.int .i64 c) w := by simp [go_sem, he]
  simp [results, Try.results13, h2', h3', asAddr, hl, hle]

theorem below_putN {w0 w : World} {N : Nat} (h : Below w0.heap.size w0 w) (hN : w0.heap.size ≤ N) (d0 d1 d2 d3 d4 : Value) : Below w0.heap.size w0 (putN w N d0 d1 d2 d3 d4) :=
  ((((h.setCell (p := ⟨N, 0, none⟩) hN d0).setCell (p := ⟨N, 1, none⟩) hN d1).setCell (p := ⟨N, 2, none⟩) hN d2).setCell (p := ⟨N, 3, none⟩) hN d3).setCell (p := ⟨N, 4, none⟩) hN d4
theorem below_set {w0 w : World} {E : Nat} (h : Below w0.heap.size w0 w) (hE : w0.heap.size ≤ E) (v : Value) : Below w0.heap.size w0 (w.setCell ⟨E, 0, none⟩ v) := h.setCell (p := ⟨E, 0, none⟩) hE v
/-- Behind the deferred closure, where it has not. -/
theorem door_ok (O : Except Nat J) (j : J) (w0 w : World) (tmps : Array Value) (N E : Nat) (c0 c1 c2 c3 c4 : Value) (hn : Bx N c0 c1 c2 c3 c4 w) (he : w.cell? ⟨E, 0, none⟩ = some (.int .i64 0))
    (h2 : tmps.getD 2 undef = .pointer (some ⟨N, 0, none⟩)) (h3 : tmps.getD 3 undef = .pointer (some ⟨E, 0, none⟩)) (hO : O = .ok j) (hb : Below w0.heap.size w0 w) (hj : NodeAt (fun g => w0.heap.size ≤ g) w j (.agg #[c0, c1, c2, c3, c4])) :
    Leaves Try.prog Try.f13 tmps (fun e' w' => ParseLeft w0 O e' w') [{ target := Target.fn (Fn.func 21) #[.pointer (some ⟨N, 0, none⟩), .pointer (some ⟨E, 0, none⟩)], args := #[] }] .returning w := by
  refine leaves_cons (f := 21) (args := #[.pointer (some ⟨N, 0, none⟩), .pointer (some ⟨E, 0, none⟩)]) (by simp) (by simp [go_sem]) ?_
  refine (idle N E w).mono ?_
  rintro e u' w'' ⟨rfl, rfl, rfl⟩
  refine ⟨_, parse_results tmps h2 h3 hn he, ?_⟩
  rw [hO]
  exact ⟨hb, _, _, _, _, _, _, rfl, rfl, hj⟩
/-- Behind the deferred closure, where the reader has given up. -/
theorem door_panic (O : Except Nat J) (w0 w : World) (tmps : Array Value) (N E c : Nat) (c0 c1 c2 c3 c4 : Value) (x : Int) (hn : Bx N c0 c1 c2 c3 c4 w) (he : w.heap[E]? = some (.cells #[.int .i64 x] 28 (0, 0))) (hNE : N ≠ E)
    (h2 : tmps.getD 2 undef = .pointer (some ⟨N, 0, none⟩)) (h3 : tmps.getD 3 undef = .pointer (some ⟨E, 0, none⟩)) (hO : O = .error c) (hb : Below w0.heap.size w0 w) (hN : w0.heap.size ≤ N) (hE : w0.heap.size ≤ E) :
    Leaves Try.prog Try.f13 tmps (fun e' w' => ParseLeft w0 O e' w') [{ target := Target.fn (Fn.func 21) #[.pointer (some ⟨N, 0, none⟩), .pointer (some ⟨E, 0, none⟩)], args := #[] }]
      (.panicking [{ v := .iface 28 (.int .i64 (c : Int)), recovered := false }]) w := by
  refine leaves_cons (f := 21) (args := #[.pointer (some ⟨N, 0, none⟩), .pointer (some ⟨E, 0, none⟩)]) (by simp) (by simp [go_sem]) ?_
  refine (caught N E c c0 c1 c2 c3 c4 x w hn he hNE).mono ?_
  rintro e u' w'' ⟨rfl, rfl, rfl⟩
  have hbz := putN_bx hn (.int .i64 0) (.int .i64 0) (.string { data := #[] }) (.slice none 0 0) (.slice none 0 0)
  have hbx := hbz.same (w' := (putN w N (.int .i64 0) (.int .i64 0) (.string { data := #[] }) (.slice none 0 0) (.slice none 0 0)).setCell ⟨E, 0, none⟩ (.int .i64 (c : Int))) (Below.heap_setCell _ _ _ _ (by show N ≠ E; exact hNE))
  have hbe : ((putN w N (.int .i64 0) (.int .i64 0) (.string { data := #[] }) (.slice none 0 0) (.slice none 0 0)).setCell ⟨E, 0, none⟩ (.int .i64 (c : Int))).cell? ⟨E, 0, none⟩ = some (.int .i64 (c : Int)) := by
    have h9 : (putN w N (.int .i64 0) (.int .i64 0) (.string { data := #[] }) (.slice none 0 0) (.slice none 0 0)).heap[E]? = some (.cells #[.int .i64 x] 28 (0, 0)) := by rw [putN_block _ _ _ _ _ _ _ _ (fun e => hNE e.symm)]; exact he
    have h8 : ((putN w N (.int .i64 0) (.int .i64 0) (.string { data := #[] }) (.slice none 0 0) (.slice none 0 0)).setCell ⟨E, 0, none⟩ (.int .i64 (c : Int))).heap[E]? = some (.cells #[.int .i64 (c : Int)] 28 (0, 0)) := by simp [World.setCell, Array.getElem?_modify, h9]
    rw [Lib.cell_of_heap h8]; rfl
  refine ⟨_, parse_results tmps h2 h3 hbx hbe, ?_⟩
  rw [hO]
  exact ⟨below_set (below_putN hb hN _ _ _ _ _) hE _, _, _, _, _, _, _, rfl, rfl, rfl⟩

set_option maxHeartbeats 4000000 in
set_option maxRecDepth 100000 in
theorem parse_any (l : List UInt8) (v : Value) (w : World) (hb : BytesAt w v l) :
    Calls Try.prog 13 #[v] w fun e' w' => ParseLeft w (parseG numC l) e' w' := by
  have hmf : ∀ (fn : Fn) (first cap : Array Value) (w : World), (Instr.makeFunc fn first cap).run Try.prog w = .ok (.func fn first cap) w := fun _ _ _ _ => rfl
  obtain ⟨N, hN⟩ : ∃ N, w.heap.size = N := ⟨_, rfl⟩
  obtain ⟨O, hO⟩ : ∃ O, parseG numC l = O := ⟨_, rfl⟩
  rw [hO]
  unfold parseG at hO
  have hbz := newZ_bx w
  have hsz1 := newZ_size w
  rw [hN] at hbz hsz1
  by_cases hl : 65536 < l.length
  · rw [if_pos hl] at hO
    have HE := Lib.hid hO.symm
    clear hO
    have hli : (65536 : Int) < (l.length : Int) := by omega
    obtain ⟨a, cap, rfl⟩ := hb.form
    have hbx := hbz.alloc (Obj.cells #[Value.int IntKind.i64 2] 28)
    have hbe : ((newZ w).alloc (Obj.cells #[Value.int IntKind.i64 2] 28)).cell? ⟨N + 1, 0, none⟩ = some (.int .i64 2) := by rw [Lib.cell_of_heap (by rw [← hsz1]; exact fresh_block _ _ _)]; rfl
    have hbl : Below w.heap.size w ((newZ w).alloc (Obj.cells #[Value.int IntKind.i64 2] 28)) := ((Below.refl _ w).alloc (Nat.le_refl _) _).alloc (by simp) _
    go_enter_defers Try.func13, Try.ntmps13
    go_wp2_with fail
    refine ⟨_, parse_results _ rfl rfl hbx hbe, ?_⟩
    rw [HE.out]
    exact ⟨hbl, _, _, _, _, _, _, rfl, rfl, rfl⟩
  · rw [if_neg hl] at hO
    have HO := Lib.hid hO
    clear hO
    have hli : (l.length : Int) ≤ 65536 := by omega
    have hss : (ByteArray.mk l.toArray).size ≤ 65536 := by rw [Lib.size_eq]; show l.length ≤ _; omega
    have hs2 : ((newZ w).alloc (Obj.cells #[Value.int IntKind.i64 0] 28)).heap.size = N + 2 := by simp [hsz1]
    have hb2 : Below w.heap.size w ((newZ w).alloc (Obj.cells #[Value.int IntKind.i64 0] 28)) := ((Below.refl _ w).alloc (Nat.le_refl _) _).alloc (by simp) _
    have hconv := (hb.below hb2).text
    obtain ⟨a, cap, rfl⟩ := hb.form
    have hbx := hbz.alloc (Obj.cells #[Value.int IntKind.i64 0] 28)
    have hbe : ((newZ w).alloc (Obj.cells #[Value.int IntKind.i64 0] 28)).heap[N + 1]? = some (.cells #[.int .i64 0] 28 (0, 0)) := by rw [← hsz1]; exact fresh_block _ _ _
    obtain ⟨w2, hw2⟩ : ∃ w2, (newZ w).alloc (Obj.cells #[Value.int IntKind.i64 0] 28) = w2 := ⟨_, rfl⟩
    obtain ⟨w3, hw3⟩ : ∃ w3, ((newZ w).alloc (Obj.cells #[Value.int IntKind.i64 0] 28)).alloc (Obj.cells #[.string ⟨l.toArray⟩, .int .i64 0] 51) = w3 := ⟨_, rfl⟩
    have hr3 : Rc (N + 2) ⟨l.toArray⟩ 0 w3 := ⟨by rw [← hw3, ← hs2]; exact fresh_block _ _ _⟩
    have hb3 : Below w.heap.size w w3 := by rw [← hw3]; exact hb2.alloc (by rw [hs2]; omega) _
    have hbx3 := hbx.alloc (Obj.cells #[.string ⟨l.toArray⟩, .int .i64 0] 51)
    have hbe3 : w3.heap[N + 1]? = some (.cells #[.int .i64 0] 28 (0, 0)) := by rw [← hw3, Below.heap_alloc _ _ _ (by rw [hs2]; omega)]; exact hbe
    rw [hw3] at hbx3
    have hval : Calls Try.prog 22 #[.pointer (some ⟨N + 2, 0, none⟩), .int .i64 0] w3 fun e' w' => ValLeft (N + 2) ⟨l.toArray⟩ w3 (valueG numC 24 l) e' w' := value_any ⟨l.toArray⟩ hss 24 0 rfl (N + 2) 0 w3 hr3 (Nat.zero_le _)
    obtain ⟨o, ho⟩ : ∃ o, valueG numC 24 l = o := ⟨_, rfl⟩
    have HO2 := HO.out
    rw [ho] at hval HO2
    have HO3 := Lib.hid HO2
    clear HO HO2 ho hbe hw2 hb hbz hbx
    have hz3' : N + 3 ≤ w3.heap.size := by rw [← hw3]; simp [hsz1]
    unfold newZ at hconv hw3
    have HW3 := Lib.hid hw3
    clear hw3
    go_enter_defers Try.func13, Try.ntmps13
    go_wp2_with fail
    rw [HW3.out]
    refine hval.mono ?_
    rintro e' w4 ⟨hs4, hL⟩
    have hb4 : Below w.heap.size w w4 := hs4.below hb3 (by omega)
    have hbx4 := hbx3.keep hs4 (by omega)
    have hbe4 : w4.heap[N + 1]? = some (.cells #[.int .i64 0] 28 (0, 0)) := by rw [hs4.block (N + 1) ((Array.getElem?_eq_some_iff.1 hbe3).1) (by omega)]; exact hbe3
    have HO4 := HO3.out
    clear hval HO3 hconv hr3 hbx3 hbe3
    match o, hL, HO4 with
    | .error c, hL, HO4 =>
      obtain rfl : e' = Errs c := hL
      have HE := Lib.hid (show O = .error c from HO4.symm)
      clear HO4
      go_wp2_with fail
      exact door_panic O w w4 _ N (N + 1) c _ _ _ _ _ _ hbx4 hbe4 (by omega) rfl rfl HE.out hb4 (by omega) (by omega)
    | .ok (j, r), hL, HO4 =>
      obtain ⟨c0, c1, c2, c3, c4, rfl, hn4, k, hk, rfl, hr4⟩ := hL
      obtain ⟨x0, x1, x2, a3, l3, m3, a4, l4, m4, rfl, rfl, rfl, rfl, rfl⟩ := hn4.forms
      have HO5 := Lib.hid HO4
      clear HO4
      have hz3 : N + 3 ≤ w3.heap.size := hz3'
      have p0 := hbx4.p0
      have p1 := hbx4.p1
      have p2 := hbx4.p2
      have p3 := hbx4.p3
      have p4 := hbx4.p4
      have f0 := hbx4.free 0
      have f1 := hbx4.free 1
      have f2 := hbx4.free 2
      have f3 := hbx4.free 3
      have f4 := hbx4.free 4
      obtain ⟨w5, hw5⟩ : ∃ w5, putN w4 N (.int .i64 x0) (.int .i64 x1) (.string x2) (.slice a3 l3 m3) (.slice a4 l4 m4) = w5 := ⟨_, rfl⟩
      have hbx5 : Bx N (.int .i64 x0) (.int .i64 x1) (.string x2) (.slice a3 l3 m3) (.slice a4 l4 m4) w5 := by rw [← hw5]; exact putN_bx hbx4 _ _ _ _ _
      have hbe5 : w5.heap[N + 1]? = some (.cells #[.int .i64 0] 28 (0, 0)) := by rw [← hw5, putN_block _ _ _ _ _ _ _ _ (by omega)]; exact hbe4
      have hr5 : Rc (N + 2) ⟨l.toArray⟩ k w5 := ⟨by rw [← hw5, putN_block _ _ _ _ _ _ _ _ (by omega)]; exact hr4.blk⟩
      have hb5 : Below w.heap.size w w5 := by rw [← hw5]; exact below_putN hb4 (by omega) _ _ _ _ _
      have hn5 : NodeAt (fun g => w3.heap.size ≤ g) w5 j (.agg #[.int .i64 x0, .int .i64 x1, .string x2, .slice a3 l3 m3, .slice a4 l4 m4]) := by
        rw [← hw5]; exact hn4.keep (putN_kept (fun g hg => by have : w3.heap.size ≤ g := hg; omega) _ _ _ _ _)
      have HW5 := Lib.hid hw5
      unfold putN at HW5
      clear hw5 hr4 hn4
      go_wp2_with fail
      rw [HW5.out]
      clear p0 p1 p2 p3 p4 f0 f1 f2 f3 f4 hbx4 hbe4
      refine (skip_any (N + 2) ⟨l.toArray⟩ k w5 hr5 hss hk).mono ?_
      rintro e' w6 ⟨rfl, k2, hk1, hk2, hke, hr6, hs6⟩
      have hbx6 := hbx5.keep hs6 (by omega)
      have hbe6 : w6.heap[N + 1]? = some (.cells #[.int .i64 0] 28 (0, 0)) := by rw [hs6.block (N + 1) ((Array.getElem?_eq_some_iff.1 hbe5).1) (by omega)]; exact hbe5
      have hb6 : Below w.heap.size w w6 := hs6.below hb5 (by omega)
      have hn6 := hn5.keep (hs6.kept (fun g hg => by have : w3.heap.size ≤ g := hg; omega))
      have r0 := hr6.c0
      have r1 := hr6.c1
      have hlen : (ByteArray.mk l.toArray).size = l.length := by rw [Lib.size_eq]
      clear HW5 hr5 hbx5 hbe5 hn5 hb5
      by_cases hlt : k2 < l.length
      · have HE : Hid (O = .error 3) := by
          show O = _
          rw [← HO5.out]
          refine if_neg ?_
          rw [hke]
          intro e
          have h9 := tail_length ⟨l.toArray⟩ k2
          rw [e, List.length_nil] at h9
          omega
        have g : (k2 : Int) < (l.length : Int) := by omega
        rw [hlen] at hk2
        clear HO5 hke
        go_wp2_with fail
        exact door_panic O w w6 _ N (N + 1) 3 _ _ _ _ _ _ hbx6 hbe6 (by omega) rfl rfl HE.out hb6 (by omega) (by omega)
      · have HE : Hid (O = .ok j) := by
          show O = _
          rw [← HO5.out]
          refine if_pos ?_
          rw [hke]
          exact tail_end (by omega)
        have g : decide ((k2 : Int) < (l.length : Int)) = false := by rw [decide_eq_false_iff_not]; omega
        have p0 := hbx6.p0
        have p1 := hbx6.p1
        have p2 := hbx6.p2
        have p3 := hbx6.p3
        have p4 := hbx6.p4
        have f0 := hbx6.free 0
        have f1 := hbx6.free 1
        have f2 := hbx6.free 2
        have f3 := hbx6.free 3
        have f4 := hbx6.free 4
        have e0 : w6.cell? ⟨N + 1, 0, none⟩ = some (.int .i64 0) := by rw [Lib.cell_of_heap hbe6]; rfl
        have ef : w6.frozen? ⟨N + 1, 0, none⟩ = false := Lib.frozen_of_heap hbe6 0
        clear HO5 hke
        have hbx7 := putN_bx hbx6 (.int .i64 x0) (.int .i64 x1) (.string x2) (.slice a3 l3 m3) (.slice a4 l4 m4)
        have hb7 := below_putN hb6 (N := N) (by omega) (.int .i64 x0) (.int .i64 x1) (.string x2) (.slice a3 l3 m3) (.slice a4 l4 m4)
        have hn7 := hn6.keep (putN_kept (w := w6) (G := N) (fun g hg => by have : w3.heap.size ≤ g := hg; omega) (.int .i64 x0) (.int .i64 x1) (.string x2) (.slice a3 l3 m3) (.slice a4 l4 m4))
        have hbe7 : (putN w6 N (.int .i64 x0) (.int .i64 x1) (.string x2) (.slice a3 l3 m3) (.slice a4 l4 m4)).heap[N + 1]? = some (.cells #[.int .i64 0] 28 (0, 0)) := by rw [putN_block _ _ _ _ _ _ _ _ (by omega)]; exact hbe6
        have he8 : ((putN w6 N (.int .i64 x0) (.int .i64 x1) (.string x2) (.slice a3 l3 m3) (.slice a4 l4 m4)).setCell ⟨N + 1, 0, none⟩ (.int .i64 0)).cell? ⟨N + 1, 0, none⟩ = some (.int .i64 0) := by
          have h8 : ((putN w6 N (.int .i64 x0) (.int .i64 x1) (.string x2) (.slice a3 l3 m3) (.slice a4 l4 m4)).setCell ⟨N + 1, 0, none⟩ (.int .i64 0)).heap[N + 1]? = some (.cells #[.int .i64 0] 28 (0, 0)) := by simp [World.setCell, Array.getElem?_modify, hbe7]
          rw [Lib.cell_of_heap h8]; rfl
        have hbx8 := hbx7.same (w' := (putN w6 N (.int .i64 x0) (.int .i64 x1) (.string x2) (.slice a3 l3 m3) (.slice a4 l4 m4)).setCell ⟨N + 1, 0, none⟩ (.int .i64 0)) (Below.heap_setCell _ _ _ _ (by show N ≠ N + 1; omega))
        have hn8 := hn7.keep (P' := fun g => w.heap.size ≤ g) (w' := (putN w6 N (.int .i64 x0) (.int .i64 x1) (.string x2) (.slice a3 l3 m3) (.slice a4 l4 m4)).setCell ⟨N + 1, 0, none⟩ (.int .i64 0)) (fun g hg _ => by
          have hg' : w3.heap.size ≤ g := hg
          exact ⟨by omega, Below.heap_setCell _ _ _ _ (by show g ≠ N + 1; omega)⟩)
        go_wp2_with fail
        exact door_ok O j w _ _ N (N + 1) _ _ _ _ _ hbx8 he8 rfl rfl HE.out (below_set hb7 (by omega) _) hn8
end Go.Proofs.Ytpnffmimpkimeaa.J7
