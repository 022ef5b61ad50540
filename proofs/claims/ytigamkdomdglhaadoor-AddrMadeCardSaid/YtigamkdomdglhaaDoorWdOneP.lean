/-
  Plain facts on encoded words, as the document's answer finds them: by runs of visible bytes. No program in this text. Conditions: none.
-/
import Derived.Test.YtigamkdomdglhaaDoorWdPlain
namespace Go.Proofs.YtigamkdomdglhaaDoor.Wd
open Go

def tokB (c : UInt8) : Bool := visB c && c != 63
def runN (l : List UInt8) : Nat := (l.takeWhile tokB).length
theorem run_nil : runN [] = 0 := rfl
theorem run_stop {c : UInt8} (h : tokB c = false) (r : List UInt8) : runN (c :: r) = 0 := by unfold runN; rw [List.takeWhile_cons, h]; rfl
theorem run_more {c : UInt8} (h : tokB c = true) (r : List UInt8) : runN (c :: r) = runN r + 1 := by unfold runN; rw [List.takeWhile_cons, h]; rfl
theorem tok_low {c : UInt8} (h : c.toNat < 33) : tokB c = false := by unfold tokB; rw [visB_low h]; rfl
theorem tok_high {c : UInt8} (h : 126 < c.toNat) : tokB c = false := by unfold tokB; rw [visB_high h]; rfl
theorem tok_mark {c : UInt8} (h : c.toNat = 63) : tokB c = false := by
  obtain rfl : c = 63 := UInt8.toNat.inj h
  rfl
theorem tok_in {c : UInt8} (h : 33 ≤ c.toNat) (h2 : c.toNat ≤ 126) (h3 : c.toNat ≠ 63) : tokB c = true := by
  unfold tokB
  rw [visB_in h h2]
  simp only [Bool.true_and, bne_iff_ne]
  rintro rfl
  exact h3 rfl


theorem tok_of {l : List UInt8} (h : ∀ c ∈ l, c ≠ 63) (hv : visL l = true) : l.all tokB = true := by
  rw [List.all_eq_true]
  intro c hc
  unfold tokB
  rw [List.all_eq_true.1 hv c hc]
  simpa using h c hc
theorem tok_no {l : List UInt8} (h : l.all tokB = true) : ∀ c ∈ l, c ≠ 63 := by
  intro c hc
  have := List.all_eq_true.1 h c hc
  unfold tokB at this
  simp only [Bool.and_eq_true, bne_iff_ne] at this
  exact this.2
theorem tok_vis {l : List UInt8} (h : l.all tokB = true) : visL l = true := by
  unfold visL
  rw [List.all_eq_true]
  intro c hc
  have := List.all_eq_true.1 h c hc
  unfold tokB at this
  exact (Bool.and_eq_true_iff.1 this).1
theorem while_mark {a : List UInt8} (h : a.all tokB = true) (r : List UInt8) : (a ++ 63 :: r).takeWhile tokB = a ∧ (a ++ 63 :: r).dropWhile tokB = 63 :: r := by
  induction a with
  | nil => exact ⟨rfl, rfl⟩
  | cons c a ih =>
    simp only [List.all_cons, Bool.and_eq_true] at h
    obtain ⟨h1, h2⟩ := ih h.2
    rw [List.cons_append, List.takeWhile_cons, List.dropWhile_cons, h.1]
    exact ⟨congrArg (c :: ·) h1, h2⟩
theorem while_all (l : List UInt8) : (l.takeWhile tokB).all tokB = true := by
  induction l with
  | nil => rfl
  | cons c l ih =>
    rw [List.takeWhile_cons]
    cases h : tokB c
    · rfl
    · simp only [if_true, List.all_cons, h, ih, Bool.true_and]
theorem run_take (l : List UInt8) : l.take (runN l) = l.takeWhile tokB := by
  have h := List.takeWhile_append_dropWhile (p := tokB) (l := l)
  unfold runN
  generalize l.takeWhile tokB = a at h
  rw [← h]; simp
theorem run_drop (l : List UInt8) : l.drop (runN l) = l.dropWhile tokB := by
  have h := List.takeWhile_append_dropWhile (p := tokB) (l := l)
  unfold runN
  generalize l.dropWhile tokB = b at h
  generalize l.takeWhile tokB = a at h
  rw [← h]; simp
theorem run_le (l : List UInt8) : runN l ≤ l.length := (List.takeWhile_sublist _).length_le
/-- What a word looks like. -/
theorem tail_shape {r x : List UInt8} {n : Nat} (h : tailL r = some (x, n)) : ∃ (k0 : UInt8) (q u : List UInt8), r.dropWhile tokB = 63 :: k0 :: 63 :: q ∧ r.takeWhile tokB ≠ [] ∧ (wayB [k0] = true ∨ wayQ [k0] = true) ∧ q.dropWhile tokB = 63 :: 61 :: u := by
  obtain ⟨a, k, t, r3, e, hs, hn, ⟨a1, a2⟩, ⟨k1, k2⟩, t1, t2⟩ := tail_back h
  have ha := while_mark (tok_of a1 a2) (k ++ 63 :: (t ++ 63 :: 61 :: r3))
  have hw := says_way hs
  obtain ⟨k0, rfl⟩ : ∃ k0, k = [k0] := by
    unfold wayB wayQ at hw
    simp only [Bool.or_eq_true, beq_iff_eq] at hw
    rcases hw with (h | h) | (h | h) <;> exact ⟨_, h⟩
  refine ⟨k0, t ++ 63 :: 61 :: r3, r3, by rw [e, ha.2]; rfl, ?_, hw, (while_mark (tok_of t1 t2) (61 :: r3)).2⟩
  rw [e, ha.1]
  rintro rfl
  unfold saysL at hs
  cases ho : octL [k0] t with
  | none => rw [ho] at hs; cases hs
  | some o =>
    rw [ho] at hs
    have : setL [] o = none := by
      unfold setL
      rw [if_neg (by simp [Tx.foldL, utfN, ascN]), if_neg (by simp [Tx.foldL, latN])]
    rw [show setL [] o = some x from hs] at this
    cases this
theorem tail_end0 {r : List UInt8} (h : (r.dropWhile tokB).head? ≠ some 63) : tailL r = none := by
  cases e : tailL r with
  | none => rfl
  | some p => obtain ⟨k0, q, u, h1, -⟩ := tail_shape e; rw [h1] at h; exact absurd rfl h
theorem tail_end1 {r : List UInt8} (h : runN r = 0) : tailL r = none := by
  cases e : tailL r with
  | none => rfl
  | some p => obtain ⟨k0, q, u, -, h1, -⟩ := tail_shape e; exact absurd (List.length_eq_zero_iff.1 h) h1
theorem tail_end2 {r : List UInt8} (h : ((r.dropWhile tokB).drop 2).head? ≠ some 63) : tailL r = none := by
  cases e : tailL r with
  | none => rfl
  | some p => obtain ⟨k0, q, u, h1, -⟩ := tail_shape e; rw [h1] at h; exact absurd rfl h
theorem tail_end3 {r q : List UInt8} {k0 d : UInt8} (h : r.dropWhile tokB = 63 :: k0 :: d :: q) (h2 : wayB [k0] = false) (h3 : wayQ [k0] = false) : tailL r = none := by
  cases e : tailL r with
  | none => rfl
  | some p =>
    obtain ⟨k1, q1, u, h1, -, hw, -⟩ := tail_shape e
    rw [h1] at h
    obtain ⟨-, rfl, -⟩ : (63 : UInt8) = 63 ∧ k1 = k0 ∧ 63 :: q1 = d :: q := by simpa using h
    rw [h2, h3] at hw
    simp at hw
theorem tail_end4 {r q : List UInt8} {k0 : UInt8} (h : r.dropWhile tokB = 63 :: k0 :: 63 :: q) (h2 : (q.dropWhile tokB).take 2 ≠ [63, 61]) : tailL r = none := by
  cases e : tailL r with
  | none => rfl
  | some p =>
    obtain ⟨k1, q1, u, h1, -, -, hu⟩ := tail_shape e
    rw [h1] at h
    obtain ⟨-, rfl⟩ : k1 = k0 ∧ q1 = q := by simpa using h
    rw [hu] at h2
    exact absurd rfl h2
theorem tail_word {r q u : List UInt8} {k0 : UInt8} (h : r.dropWhile tokB = 63 :: k0 :: 63 :: q) (hk : wayB [k0] = true ∨ wayQ [k0] = true) (hu : q.dropWhile tokB = 63 :: 61 :: u) :
    tailL r = (saysL (r.takeWhile tokB) [k0] (q.takeWhile tokB)).map (fun x => (x, runN r + runN q + 7)) := by
  have e1 := List.takeWhile_append_dropWhile (p := tokB) (l := r)
  have e2 := List.takeWhile_append_dropWhile (p := tokB) (l := q)
  have v1 := while_all r
  have v2 := while_all q
  unfold runN
  rw [h] at e1
  rw [hu] at e2
  generalize r.takeWhile tokB = a at e1 v1
  generalize q.takeWhile tokB = t at e2 v2
  have hk2 : k0 ≠ 63 ∧ visL [k0] = true := by
    unfold wayB wayQ at hk
    simp only [Bool.or_eq_true, beq_iff_eq, List.cons.injEq, and_true] at hk
    rcases hk with (rfl | rfl) | (rfl | rfl) <;> decide
  have := tail_full (a := a) (k := [k0]) (t := t) u (tok_no v1) (by simpa using hk2.1) (tok_no v2) (tok_vis v1) hk2.2 (tok_vis v2)
  rw [← e1, ← e2, show a ++ 63 :: k0 :: 63 :: (t ++ 63 :: 61 :: u) = a ++ 63 :: ([k0] ++ 63 :: (t ++ 63 :: 61 :: u)) from rfl, this]
  congr 1
  funext x
  simp only [List.length_cons, List.length_nil, Prod.mk.injEq, true_and]
  omega
end Go.Proofs.YtigamkdomdglhaaDoor.Wd
