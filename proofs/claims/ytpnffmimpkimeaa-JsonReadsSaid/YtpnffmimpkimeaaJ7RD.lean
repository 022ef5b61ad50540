/-
  The reader of the document's answer for package json: a value within any number of others. Conditions: the text has at most 65536 bytes.
-/
import Derived.Test.YtpnffmimpkimeaaJ7RV
namespace Go.Proofs.Ytpnffmimpkimeaa.J7
open Go Go.RowKit Go.Joins Kit

set_option maxHeartbeats 4000000 in
set_option maxRecDepth 100000 in
theorem rlist_deep (R : Nat) (s : ByteArray) (i : Nat) (w : World) (obj : Bool) (hi : i ≤ s.size) (h : Rd R s (i : Int) 24 0 w) :
    Calls Try.prog 37 #[.pointer (some ⟨R, 0, none⟩), .bool obj] w fun e' w' => Left R s 24 w (.error 4) e' w' := by
  have hRl := h.lt
  obtain ⟨G0, hG0⟩ : ∃ G, w.heap.size = G := ⟨_, rfl⟩
  obtain ⟨G1, hG1⟩ : ∃ G, G0 + 1 = G := ⟨_, rfl⟩
  have z1 : ∀ K, Bx G0 (.int .i64 0) (.int .i64 0) (.string { data := #[] }) (.slice none 0 0) (.slice none 0 0) (newN (newZ w) K) := fun K => by rw [← hG0]; exact (newZ_bx w).same (newN_block _ _ _ (by rw [newZ_size]; omega))
  have z2 : ∀ K, Bx G1 (.int .i64 K) (.int .i64 0) (.string { data := #[] }) (.slice none 0 0) (.slice none 0 0) (newN (newZ w) K) := fun K => by have := newN_bx (newZ w) K; rw [newZ_size, hG0, hG1] at this; exact this
  have z3 : ∀ K, Rd R s (i : Int) 24 0 (newN (newZ w) K) := fun K => (h.alloc _).alloc _
  have z4 : ∀ K, Step R w (newN (newZ w) K) := fun K => newN_step (newZ_step (Step.refl R w)) K
  go_enter Try.func37, Try.ntmps37
  go_upto_if 10 with fail
  go_cut [6] from 10 to 11 (fun x wx => ∃ W : World, Rd R s (i : Int) 24 0 W ∧ Step R w W ∧ Bx G0 (.int .i64 0) (.int .i64 0) (.string { data := #[] }) (.slice none 0 0) (.slice none 0 0) W ∧ Bx G1 (.int .i64 (kindO obj)) (.int .i64 0) (.string { data := #[] }) (.slice none 0 0) (.slice none 0 0) W ∧ W = wx)
  case first =>
    cases obj with
    | false =>
      go_wp2_with fail
      go_meet
      exact ⟨_, z3 6, z4 6, z1 6, z2 6, rfl⟩
    | true =>
      have zf := (z2 6).free 0
      have zp := (z2 6).p0
      go_wp2_with fail
      (try rw [hG0])
      (try rw [hG1])
      go_wp2_with fail
      go_meet
      exact ⟨_, z3 7, z4 7, z1 7, z2 7, rfl⟩
  case rest =>
    obtain ⟨W, hr, hst, hb0, hb1, rfl⟩ := hcut
    (try rw [hG0])
    (try rw [hG1])
    have c2 := hr.c2
    clear z1 z2 z3 z4
    go_wp2_with fail
    refine (fail_any R s (i : Int) 24 0 4 W hr).mono ?_
    rintro e' w3 ⟨rfl, hr3, hs3⟩
    have hb3 := hb0.keep hs3 (by omega)
    have hc3 := hb1.keep hs3 (by omega)
    have hr3 : Rd R s (i : Int) 24 ((4 : Nat) : Int) w3 := by simpa using hr3
    have p0 := hc3.p0
    have p1 := hc3.p1
    have p2 := hc3.p2
    have p3 := hc3.p3
    have p4 := hc3.p4
    have q0 := hb3.p0
    have q1 := hb3.p1
    have q2 := hb3.p2
    have q3 := hb3.p3
    have q4 := hb3.p4
    have f0 := hb3.free 0
    have f1 := hb3.free 1
    have f2 := hb3.free 2
    have f3 := hb3.free 3
    have f4 := hb3.free 4
    go_wp2_with fail
    refine bodyPost_ret (node_result rfl _ rfl (hb3.setAll _ _ _ _ _)) rfl ?_
    refine ⟨(hst.trans hs3).setAll (by omega) _ _ _ _ _, _, rfl, ⟨⟨_, node_plain _ _ _ _ _⟩, by decide, i, hi, ?_⟩⟩
    exact ⟨(putN_block w3 G0 _ _ _ _ _ R (by omega)).trans hr3.blk⟩
theorem rval_all (R : Nat) (s : ByteArray) (hs : s.size ≤ 65536) : ∀ (n : Nat), n ≤ 24 → ∀ (q : Nat) (w : World), Rd R s (q : Int) (24 - (n : Int)) 0 w → q ≤ s.size →
    Calls Try.prog 24 #[.pointer (some ⟨R, 0, none⟩)] w fun e' w' => Left R s (24 - (n : Int)) w (valueG numberL n (tail s q)) e' w' := by
  intro n
  induction n with
  | zero =>
    intro _ q w h hq
    exact rvalue_any R s q 24 w (fun _ _ => .error 4) hs hq (fun obj q w h hq => rlist_deep R s q w obj hq h) h
  | succ n ih =>
    intro hn q w h hq
    have e : (24 - ((n + 1 : Nat) : Int)) + 1 = 24 - (n : Int) := by omega
    refine rvalue_any R s q (24 - ((n + 1 : Nat) : Int)) w (listG (valueG numberL n)) hs hq (fun obj q w h hq => ?_) h
    refine rlist_any R s q (24 - ((n + 1 : Nat) : Int)) w obj (valueG numberL n) hs hq (by omega) (by omega) (fun q w h hq => ?_) (fun q c w hc h hq => ?_) (fun l j r h => valueG_suffix (fun _ _ _ h => (number_suffix h).1) n l j r h) h
    · rw [e] at h ⊢
      exact ih (by omega) q w h hq
    · exact rvalue_off R s q c _ w hs hq hc h
end Go.Proofs.Ytpnffmimpkimeaa.J7
