/-
  The reader of the document's answer for package json: what it holds, what its smaller functions do to it. Conditions: the text has at most 65536 bytes.
-/
import Derived.Test.YtpnffmimpkimeaaJ7Step
namespace Go.Proofs.Ytpnffmimpkimeaa.J7
open Go Go.RowKit Go.Joins Kit

/-- The reader lies in block R: its text, its place, how deep it is, its first error. -/
structure Rd (R : Nat) (s : ByteArray) (i d e : Int) (w : World) : Prop where
  blk : w.heap[R]? = some (.cells #[.string s, .int .i64 i, .int .i64 d, .int .i64 e] 55 (0, 0))
namespace Rd
variable {R : Nat} {s : ByteArray} {i d e : Int} {w : World}
theorem lt (h : Rd R s i d e w) : R < w.heap.size := by
  rcases Nat.lt_or_ge R w.heap.size with h' | h'
  · exact h'
  · have := h.blk; simp [Array.getElem?_eq_none h'] at this
theorem c0 (h : Rd R s i d e w) : w.cell? ⟨R, 0, none⟩ = some (.string s) := by rw [Lib.cell_of_heap h.blk]; rfl
theorem c1 (h : Rd R s i d e w) : w.cell? ⟨R, 1, none⟩ = some (.int .i64 i) := by rw [Lib.cell_of_heap h.blk]; rfl
theorem c2 (h : Rd R s i d e w) : w.cell? ⟨R, 2, none⟩ = some (.int .i64 d) := by rw [Lib.cell_of_heap h.blk]; rfl
theorem c3 (h : Rd R s i d e w) : w.cell? ⟨R, 3, none⟩ = some (.int .i64 e) := by rw [Lib.cell_of_heap h.blk]; rfl
theorem free (h : Rd R s i d e w) (o : Nat) : w.frozen? ⟨R, o, none⟩ = false := by
  unfold World.frozen?
  simp only [h.blk]
  simp
theorem set1 (h : Rd R s i d e w) (x : Int) : Rd R s x d e (w.setCell ⟨R, 1, none⟩ (.int .i64 x)) := ⟨by
  have := h.blk
  simp [World.setCell, Array.getElem?_modify, this]⟩
theorem set2 (h : Rd R s i d e w) (x : Int) : Rd R s i x e (w.setCell ⟨R, 2, none⟩ (.int .i64 x)) := ⟨by
  have := h.blk
  simp [World.setCell, Array.getElem?_modify, this]⟩
theorem set3 (h : Rd R s i d e w) (x : Int) : Rd R s i d x (w.setCell ⟨R, 3, none⟩ (.int .i64 x)) := ⟨by
  have := h.blk
  simp [World.setCell, Array.getElem?_modify, this]⟩
theorem drew (h : Rd R s i d e w) : Rd R s i d e w.drew := ⟨h.blk⟩
theorem drewN (h : Rd R s i d e w) (n : Nat) : Rd R s i d e (w.drewN n) := ⟨h.blk⟩
end Rd
theorem Step.rd {R' : Nat} {s : ByteArray} {i d e : Int} {R : Nat} {w w' : World} (h : Step R w w') (hr : Rd R' s i d e w) (hn : R' ≠ R) : Rd R' s i d e w' := ⟨by rw [h.block R' hr.lt hn]; exact hr.blk⟩
set_option maxHeartbeats 400000 in
theorem fail_any (R : Nat) (s : ByteArray) (i d e k : Int) (w : World) (h : Rd R s i d e w) :
    Calls Try.prog 26 #[.pointer (some ⟨R, 0, none⟩), .int .i64 k] w fun e' w' => e' = .returned (.tuple #[]) ∧ Rd R s i d (if e = 0 then k else e) w' ∧ Step R w w' := by
  have h3 := h.c3
  have hz := h.free 3
  by_cases he : e = 0
  · subst he
    have H := h.set3 k
    go_enter Try.func26, Try.ntmps26
    go_wp2
    go_end0
    exact ⟨rfl, by simpa using H, (Step.refl R w).set 3 _⟩
  · have g : (e == 0) = false := by rw [beq_eq_false_iff_ne]; exact he

    go_enter Try.func26, Try.ntmps26
    go_wp2
    go_end0
    exact ⟨rfl, by assumption, Step.refl R w⟩
set_option maxHeartbeats 1000000 in
theorem is_yes (R : Nat) (s : ByteArray) (i : Nat) (d : Int) (c : UInt8) (w : World) (r : List UInt8) (h : Rd R s i d 0 w) (hs : s.size ≤ 65536) (hc : eatL c (tail s i) = some r) :
    Calls Try.prog 51 #[.pointer (some ⟨R, 0, none⟩), .int .u8 (c.toNat : Int)] w fun e' w' => e' = .returned (.bool true) ∧ Rd R s ((i + 1 : Nat) : Int) d 0 w' ∧ Step R w w' := by
  obtain ⟨hl, hcc, -⟩ := eat_place hc
  have h0 := h.c0
  have h1 := h.c1
  have h3 := h.c3
  have hz := h.free 1
  have g : ((s[i].toNat : Int) == (c.toNat : Int)) = true := by rw [hcc]; simp
  have hsz : (s.size : Int) ≤ 65536 := by omega
  clear hc hcc
  go_enter Try.func51, Try.ntmps51
  go_wp2
  go_quiet (fail)
  go_wp2
  go_ret
  exact ⟨rfl, by simpa using (h.drewN _).set1 ((i : Int) + 1), ((Step.refl R w).drewN _).set 1 _⟩
set_option maxHeartbeats 1000000 in
theorem is_no (R : Nat) (s : ByteArray) (i : Nat) (d : Int) (c : UInt8) (w : World) (h : Rd R s i d 0 w) (hs : s.size ≤ 65536) (hc : eatL c (tail s i) = none) :
    Calls Try.prog 51 #[.pointer (some ⟨R, 0, none⟩), .int .u8 (c.toNat : Int)] w fun e' w' => e' = .returned (.bool false) ∧ Rd R s (i : Int) d 0 w' ∧ Step R w w' := by
  have h0 := h.c0
  have h1 := h.c1
  have h3 := h.c3
  have hsz : (s.size : Int) ≤ 65536 := by omega
  rcases Nat.lt_or_ge i s.size with hl | hl
  · have hne := eat_none hc hl
    have g : ((s[i].toNat : Int) == (c.toNat : Int)) = false := by rw [beq_eq_false_iff_ne]; exact fun e => hne (byte_eq e)
    clear hc hne
    go_enter Try.func51, Try.ntmps51
    go_wp2
    go_quiet (fail)
    go_wp2
    go_ret
    exact ⟨rfl, h.drewN _, (Step.refl R w).drewN _⟩
  · have gi : decide (i < s.size) = false := by rw [decide_eq_false_iff_not]; omega
    clear hc
    go_enter Try.func51, Try.ntmps51
    go_wp2
    go_quiet (fail)
    go_wp2
    go_ret
    exact ⟨rfl, h.drewN _, (Step.refl R w).drewN _⟩
set_option maxHeartbeats 1000000 in
theorem is_off (R : Nat) (s : ByteArray) (i d e : Int) (c : UInt8) (w : World) (h : Rd R s i d e w) (he : e ≠ 0) :
    Calls Try.prog 51 #[.pointer (some ⟨R, 0, none⟩), .int .u8 (c.toNat : Int)] w fun e' w' => e' = .returned (.bool false) ∧ Rd R s i d e w' ∧ Step R w w' := by
  have h0 := h.c0
  have h1 := h.c1
  have h3 := h.c3
  have g : (e == 0) = false := by rw [beq_eq_false_iff_ne]; exact he
  go_enter Try.func51, Try.ntmps51
  go_wp2
  go_quiet (fail)
  go_wp2
  go_ret
  exact ⟨rfl, h.drewN _, (Step.refl R w).drewN _⟩
set_option maxHeartbeats 2000000 in
theorem blanks_any (R : Nat) (s : ByteArray) (i : Nat) (d e : Int) (w : World) (h : Rd R s i d e w) (hs : s.size ≤ 65536) (hi : i ≤ s.size) :
    Calls Try.prog 25 #[.pointer (some ⟨R, 0, none⟩)] w fun e' w' => e' = .returned (.tuple #[]) ∧ ∃ k : Nat, i ≤ k ∧ k ≤ s.size ∧ skipL (tail s i) = tail s k ∧ Rd R s (k : Int) d e w' ∧ Step R w w' := by
  have hsz : (s.size : Int) ≤ 65536 := by omega
  go_enter Try.func25, Try.ntmps25
  go_wp2
  go_loopg [] (s.size - i) (fun n wr => ∃ k : Nat, n = s.size - k ∧ i ≤ k ∧ k ≤ s.size ∧ Hid (skipL (tail s i) = skipL (tail s k)) ∧ Rd R s (k : Int) d e wr ∧ Step R w wr)
  case atStart => exact ⟨i, rfl, Nat.le_refl _, hi, Lib.hid rfl, h, Step.refl R w⟩
  case round =>
    obtain ⟨k, hn, hk1, hk2, hk, hr, hst⟩ := hrel
    have h0 := hr.c0
    have h1 := hr.c1
    have hz := hr.free 1
    rcases Nat.lt_or_ge k s.size with hl | hl
    · have q32 : ((s[k].toNat : Int) == 32) = decide (s[k].toNat = 32) := by by_cases q : s[k].toNat = 32 <;> simp [q] <;> omega
      have q9 : ((s[k].toNat : Int) == 9) = decide (s[k].toNat = 9) := by by_cases q : s[k].toNat = 9 <;> simp [q] <;> omega
      have q10 : ((s[k].toNat : Int) == 10) = decide (s[k].toNat = 10) := by by_cases q : s[k].toNat = 10 <;> simp [q] <;> omega
      have q13 : ((s[k].toNat : Int) == 13) = decide (s[k].toNat = 13) := by by_cases q : s[k].toNat = 13 <;> simp [q] <;> omega
      by_cases hb : blank s[k] = true
      · have hnx := Lib.hid (hk.out.trans (skip_step hl hb))
        rcases (blank_iff _).1 hb with q | q | q | q <;> simp only [q] at q32 q9 q10 q13
        all_goals
          go_wp2
          go_quiet (fail)
          go_wp2
          go_roundg (s.size - (k + 1))
          case measure => omega
          case rel => exact ⟨k + 1, rfl, by omega, by omega, hnx, by simpa using (hr.drewN _).set1 ((k : Int) + 1), (hst.drewN _).set 1 _⟩
      · have hb' : blank s[k] = false := by simpa using hb
        have hn4 : ¬ (s[k].toNat = 32 ∨ s[k].toNat = 9 ∨ s[k].toNat = 10 ∨ s[k].toNat = 13) := fun q => hb ((blank_iff _).2 q)
        rw [decide_eq_false (by omega)] at q32 q9 q10 q13
        have hfin := Lib.hid (hk.out.trans (skip_no hl hb'))
        clear hn4
        go_wp2
        go_quiet (fail)
        go_wp2
        go_end0
        exact ⟨rfl, k, hk1, hk2, hfin.out, hr.drewN _, hst.drewN _⟩
    · have gi : decide (k < s.size) = false := by rw [decide_eq_false_iff_not]; omega
      go_wp2
      go_quiet (fail)
      go_wp2
      go_end0
      exact ⟨rfl, k, hk1, hk2, by rw [hk.out, skip_stop hl], hr.drewN _, hst.drewN _⟩
end Go.Proofs.Ytpnffmimpkimeaa.J7
