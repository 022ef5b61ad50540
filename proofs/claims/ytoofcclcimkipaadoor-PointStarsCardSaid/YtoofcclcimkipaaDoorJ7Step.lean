/-
  What stands still while a reader is read: all blocks but one, as they were; what of a text is still to be read. No law and no function of the project in this text. Conditions: none.
-/
import Derived.Test.YtoofcclcimkipaaDoorJ7Mem
import Derived.IntWalk
import Derived.Deep.LoopGhost
import Derived.Deep.QuietTactic
import Derived.BigQuiet
namespace Go.Proofs.YtoofcclcimkipaaDoor.J7
open Go Go.RowKit Go.Joins Kit

/-- All blocks that were there, but R, are as they were. -/
structure Step (R : Nat) (w w' : World) : Prop where
  os : w'.os = w.os
  tape : w'.tape = w.tape
  output : w'.output = w.output
  size : w.heap.size ≤ w'.heap.size
  block : ∀ k, k < w.heap.size → k ≠ R → w'.heap[k]? = w.heap[k]?
namespace Step
variable {R : Nat} {w w' w'' : World}
theorem refl (R : Nat) (w : World) : Step R w w := ⟨rfl, rfl, rfl, Nat.le_refl _, fun _ _ _ => rfl⟩
theorem trans (h : Step R w w') (k : Step R w' w'') : Step R w w'' :=
  ⟨k.os.trans h.os, k.tape.trans h.tape, k.output.trans h.output, Nat.le_trans h.size k.size, fun i hi hn => (k.block i (Nat.lt_of_lt_of_le hi h.size) hn).trans (h.block i hi hn)⟩
theorem of_below (h : Below w.heap.size w w') : Step R w w' := ⟨h.os, h.tape, h.output, h.size, fun k hk _ => h.block k hk⟩
theorem drew (h : Step R w w') : Step R w w'.drew := ⟨h.os, h.tape, h.output, h.size, h.block⟩
theorem drewN (h : Step R w w') (n : Nat) : Step R w (w'.drewN n) := ⟨h.os, h.tape, h.output, h.size, h.block⟩
theorem alloc (h : Step R w w') (o : Obj) : Step R w (w'.alloc o) := h.trans (of_below ((Below.refl _ w').alloc (Nat.le_refl _) o))
theorem set (h : Step R w w') (o : Nat) (v : Value) : Step R w (w'.setCell ⟨R, o, none⟩ v) :=
  h.trans ⟨rfl, rfl, rfl, by simp [World.setCell], fun k _ hn => Below.heap_setCell _ _ _ _ hn⟩
/-- A store into a block that was not there. -/
theorem setNew (h : Step R w w') {g : Nat} (hg : w.heap.size ≤ g) (o : Nat) (v : Value) : Step R w (w'.setCell ⟨g, o, none⟩ v) :=
  ⟨h.os, h.tape, h.output, Nat.le_trans h.size (by simp [World.setCell]), fun k hk hn => (Below.heap_setCell w' _ v k (by show k ≠ g; omega)).trans (h.block k hk hn)⟩
theorem kept {P : Nat → Prop} (h : Step R w w') (hP : ∀ g, P g → g ≠ R) : Kept P P w w' := fun g hg hl => ⟨hg, h.block g hl (hP g hg)⟩
/-- The reader's block is new: nothing that was there has turned. -/
theorem below {a : World} (h : Step R w w') (h0 : Below a.heap.size a w) (hR : a.heap.size ≤ R) : Below a.heap.size a w' :=
  ⟨h.os.trans h0.os, h.tape.trans h0.tape, h.output.trans h0.output, Nat.le_trans h0.size h.size, fun k hk => (h.block k (Nat.lt_of_lt_of_le hk h0.size) (by omega)).trans (h0.block k hk)⟩
end Step
/-- What is still to be read. -/
def tail (s : ByteArray) (i : Nat) : List UInt8 := s.data.toList.drop i
theorem tail_cons {s : ByteArray} {i : Nat} (h : i < s.size) : tail s i = s[i] :: tail s (i + 1) := by
  have hl : i < s.data.toList.length := by rw [← Lib.size_eq]; exact h
  unfold tail
  rw [List.drop_eq_getElem_cons hl, byte_get s i h]
theorem tail_end {s : ByteArray} {i : Nat} (h : s.size ≤ i) : tail s i = [] := by
  unfold tail
  exact List.drop_of_length_le (by rw [← Lib.size_eq]; exact h)
theorem tail_length (s : ByteArray) (i : Nat) : (tail s i).length = s.size - i := by
  unfold tail
  rw [List.length_drop, ← Lib.size_eq]
/-- A suffix of what is still to be read begins at a place. -/
theorem tail_suffix {s : ByteArray} {i : Nat} {r : List UInt8} (h : r <:+ tail s i) (hi : i ≤ s.size) : ∃ k, i ≤ k ∧ k ≤ s.size ∧ r = tail s k := by
  have hl := h.length_le
  rw [tail_length] at hl
  refine ⟨s.size - r.length, by omega, by omega, ?_⟩
  have hs : r <:+ s.data.toList := h.trans (List.drop_suffix i _)
  rw [List.suffix_iff_eq_drop] at hs
  unfold tail
  rw [Lib.size_eq]
  exact hs
theorem byte_eq {c d : UInt8} (h : (c.toNat : Int) = (d.toNat : Int)) : c = d := UInt8.toNat_inj.1 (by omega)

theorem eat_at {s : ByteArray} {i : Nat} {c : UInt8} (h : i < s.size) : eatL c (tail s i) = if s[i] = c then some (tail s (i + 1)) else none := by rw [tail_cons h, eatL]
theorem eat_end {s : ByteArray} {i : Nat} {c : UInt8} (h : s.size ≤ i) : eatL c (tail s i) = none := by rw [tail_end h, eatL]
theorem eat_place {s : ByteArray} {i : Nat} {c : UInt8} {r : List UInt8} (h : eatL c (tail s i) = some r) : ∃ h : i < s.size, s[i] = c ∧ r = tail s (i + 1) := by
  rcases Nat.lt_or_ge i s.size with hl | hl
  · rw [eat_at hl] at h
    by_cases e : s[i] = c
    · rw [if_pos e] at h
      exact ⟨hl, e, (Option.some.inj h).symm⟩
    · rw [if_neg e] at h
      cases h
  · rw [eat_end hl] at h
    cases h
theorem eat_none {s : ByteArray} {i : Nat} {c : UInt8} (h : eatL c (tail s i) = none) (hl : i < s.size) : s[i] ≠ c := by
  rw [eat_at hl] at h
  intro e
  rw [if_pos e] at h
  cases h

theorem skip_stop {s : ByteArray} {i : Nat} (h : s.size ≤ i) : skipL (tail s i) = tail s i := by rw [tail_end h, skipL]
theorem skip_step {s : ByteArray} {i : Nat} (h : i < s.size) (hb : blank s[i] = true) : skipL (tail s i) = skipL (tail s (i + 1)) := by rw [tail_cons h, skipL, if_pos hb]
theorem skip_no {s : ByteArray} {i : Nat} (h : i < s.size) (hb : blank s[i] = false) : skipL (tail s i) = tail s i := by rw [tail_cons h, skipL, if_neg (by rw [hb]; decide)]
theorem blank_iff (c : UInt8) : blank c = true ↔ c.toNat = 32 ∨ c.toNat = 9 ∨ c.toNat = 10 ∨ c.toNat = 13 := by
  unfold blank
  simp only [Bool.or_eq_true, beq_iff_eq, ← UInt8.toNat_inj]
  rw [or_assoc, or_assoc]
  rfl

end Go.Proofs.YtoofcclcimkipaaDoor.J7
