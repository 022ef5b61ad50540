/-
  The program's reader of JSON: what it holds, what its smaller functions do to it, and how it gives up. Conditions: the text has at most 65536 bytes.
-/
import Derived.Test.YtpnffmimpkimeaaJ7Val
import Derived.Test.YtpnffmimpkimeaaJ7Step
import Derived.WalkLawsBesides
namespace Go.Proofs.Ytpnffmimpkimeaa.J7
open Go Go.RowKit Go.Joins Kit

/-- The reader lies in block R: its text, its place. -/
structure Rc (R : Nat) (s : ByteArray) (i : Nat) (w : World) : Prop where
  blk : w.heap[R]? = some (.cells #[.string s, .int .i64 (i : Int)] 51 (0, 0))
namespace Rc
variable {R : Nat} {s : ByteArray} {i : Nat} {w : World}
theorem lt (h : Rc R s i w) : R < w.heap.size := by
  rcases Nat.lt_or_ge R w.heap.size with h' | h'
  · exact h'
  · have := h.blk; simp [Array.getElem?_eq_none h'] at this
theorem c0 (h : Rc R s i w) : w.cell? ⟨R, 0, none⟩ = some (.string s) := by rw [Lib.cell_of_heap h.blk]; rfl
theorem c1 (h : Rc R s i w) : w.cell? ⟨R, 1, none⟩ = some (.int .i64 i) := by rw [Lib.cell_of_heap h.blk]; rfl
theorem free (h : Rc R s i w) (o : Nat) : w.frozen? ⟨R, o, none⟩ = false := by
  unfold World.frozen?
  simp only [h.blk]
  simp
theorem set1 (h : Rc R s i w) (x : Nat) (y : Int) (hy : (x : Int) = y) : Rc R s x (w.setCell ⟨R, 1, none⟩ (.int .i64 y)) := ⟨by
  subst hy
  have := h.blk
  simp [World.setCell, Array.getElem?_modify, this]⟩
theorem drewN (h : Rc R s i w) (n : Nat) : Rc R s i (w.drewN n) := ⟨h.blk⟩
theorem alloc (h : Rc R s i w) (o : Obj) : Rc R s i (w.alloc o) := ⟨by rw [Below.heap_alloc w o R h.lt]; exact h.blk⟩
theorem below (h : Rc R s i w) {w' : World} (hb : Below w.heap.size w w') : Rc R s i w' := ⟨by rw [hb.block R h.lt]; exact h.blk⟩
end Rc
/-- It gives up with an error's number. -/
abbrev Errs (c : Nat) : Ending := .panicked [{ v := .iface 28 (.int .i64 (c : Int)), recovered := false }]
/-- The byte that is next. -/
def pk (l : List UInt8) : UInt8 := l.headD 0
theorem pk_at {s : ByteArray} {i : Nat} (h : i < s.size) : pk (tail s i) = s[i] := by rw [tail_cons h]; rfl
theorem pk_end {s : ByteArray} {i : Nat} (h : s.size ≤ i) : pk (tail s i) = 0 := by rw [tail_end h]; rfl

set_option maxHeartbeats 1000000 in
theorem peek_any (R : Nat) (s : ByteArray) (i : Nat) (w : World) (h : Rc R s i w) (hs : s.size ≤ 65536) :
    Calls Try.prog 29 #[.pointer (some ⟨R, 0, none⟩)] w fun e' w' => e' = .returned (.int .u8 ((pk (tail s i)).toNat : Int)) ∧ Rc R s i w' ∧ Step R w w' := by
  have h0 := h.c0
  have h1 := h.c1
  have hsz : (s.size : Int) ≤ 65536 := by omega
  rcases Nat.lt_or_ge i s.size with hl | hl
  · have hp := Lib.hid (pk_at hl)
    have gi : decide (s.size ≤ i) = false := by rw [decide_eq_false_iff_not]; omega
    go_enter Try.func29, Try.ntmps29
    go_wp2
    go_quiet (fail)
    go_wp2
    go_quiet (fail)
    go_wp2
    go_ret
    exact ⟨ret_int (by rw [hp.out]), (h.drewN _).drewN _, ((Step.refl R w).drewN _).drewN _⟩
  · have hp := Lib.hid (pk_end hl)
    have gi : decide (s.size ≤ i) = true := by rw [decide_eq_true_iff]; omega
    go_enter Try.func29, Try.ntmps29
    go_wp2
    go_quiet (fail)
    go_wp2
    go_ret
    exact ⟨ret_int (by rw [hp.out]; rfl), h.drewN _, (Step.refl R w).drewN _⟩
theorem blank_ne {c : UInt8} (h : blank c = true) : c ≠ 0 := by
  intro e
  subst e
  revert h
  decide
set_option maxHeartbeats 2000000 in
theorem skip_any (R : Nat) (s : ByteArray) (i : Nat) (w : World) (h : Rc R s i w) (hs : s.size ≤ 65536) (hi : i ≤ s.size) :
    Calls Try.prog 23 #[.pointer (some ⟨R, 0, none⟩)] w fun e' w' => e' = .returned (.tuple #[]) ∧ ∃ k : Nat, i ≤ k ∧ k ≤ s.size ∧ skipL (tail s i) = tail s k ∧ Rc R s k w' ∧ Step R w w' := by
  have hsz : (s.size : Int) ≤ 65536 := by omega
  go_enter Try.func23, Try.ntmps23
  go_wp2_with fail
  go_loopg [] (s.size - i) (fun n wr => ∃ k : Nat, n = s.size - k ∧ i ≤ k ∧ k ≤ s.size ∧ Hid (skipL (tail s i) = skipL (tail s k)) ∧ Rc R s k wr ∧ Step R w wr)
  case atStart => exact ⟨i, rfl, Nat.le_refl _, hi, Lib.hid rfl, h, Step.refl R w⟩
  case round =>
    obtain ⟨k, hn, hk1, hk2, hk, hr, hst⟩ := hrel
    obtain ⟨c, hc⟩ : ∃ c, pk (tail s k) = c := ⟨_, rfl⟩
    have HC := Lib.hid hc
    have hcb := c.toNat_lt
    have q32 : ((c.toNat : Int) == 32) = decide (c.toNat = 32) := by by_cases q : c.toNat = 32 <;> simp [q] <;> omega
    have q9 : ((c.toNat : Int) == 9) = decide (c.toNat = 9) := by by_cases q : c.toNat = 9 <;> simp [q] <;> omega
    have q10 : ((c.toNat : Int) == 10) = decide (c.toNat = 10) := by by_cases q : c.toNat = 10 <;> simp [q] <;> omega
    have q13 : ((c.toNat : Int) == 13) = decide (c.toNat = 13) := by by_cases q : c.toNat = 13 <;> simp [q] <;> omega
    have hpeek := peek_any R s k wr hr hs
    rw [hc] at hpeek
    clear hc
    by_cases hb : blank c = true
    · have hl : k < s.size := by
        rcases Nat.lt_or_ge k s.size with h' | h'
        · exact h'
        · exact absurd (HC.out.symm.trans (pk_end h')) (blank_ne hb)
      have hnx := Lib.hid (hk.out.trans (skip_step hl (by rw [← pk_at hl, HC.out]; exact hb)))
      rcases (blank_iff _).1 hb with q | q | q | q <;> simp only [q] at q32 q9 q10 q13 hpeek
      all_goals
        go_wp2_with fail
        refine hpeek.mono ?_
        rintro e' w2 ⟨rfl, hr2, hs2⟩
        have h1 := hr2.c1
        have hz := hr2.free 1
        have hst2 := hst.trans hs2
        go_wp2_with fail
        go_roundg (s.size - (k + 1))
        case measure => omega
        case rel => exact ⟨k + 1, rfl, by omega, by omega, hnx, by simpa using hr2.set1 (k + 1) ((k : Int) + 1) (by omega), hst2.set 1 _⟩
    · have hb' : blank c = false := by simpa using hb
      have hn4 : ¬ (c.toNat = 32 ∨ c.toNat = 9 ∨ c.toNat = 10 ∨ c.toNat = 13) := fun q => hb ((blank_iff _).2 q)
      rw [decide_eq_false (by omega)] at q32 q9 q10 q13
      have hfin : Hid (skipL (tail s k) = tail s k) := by
        rcases Nat.lt_or_ge k s.size with h' | h'
        · exact skip_no h' (by rw [← pk_at h', HC.out]; exact hb')
        · exact skip_stop h'
      clear hn4
      go_wp2_with fail
      refine hpeek.mono ?_
      rintro e' w2 ⟨rfl, hr2, hs2⟩
      have hst2 := hst.trans hs2
      go_wp2_with fail
      refine bodyPost_ret (results_none rfl _ _ _) rfl ?_
      exact ⟨rfl, k, hk1, hk2, hk.out.trans hfin.out, hr2, hst2⟩
end Go.Proofs.Ytpnffmimpkimeaa.J7
