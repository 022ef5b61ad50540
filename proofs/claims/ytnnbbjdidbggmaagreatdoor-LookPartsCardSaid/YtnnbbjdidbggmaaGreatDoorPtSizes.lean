/-
  Plain facts: how long the texts of headers are, and how many there are. No program in this text. Conditions: none.
-/
import Derived.Test.YtnnbbjdidbggmaaGreatDoorPtPlain
namespace Go.Proofs.YtnnbbjdidbggmaaGreatDoor.Pt
open Go F0

theorem lines_sum : ∀ (l cur : List UInt8) (p : Nat), ((linesG p cur l).map (fun x => x.1.length)).sum ≤ cur.length + l.length
  | [], cur, p => by rw [linesG]; split <;> simp
  | c :: r, cur, p => by
    rw [linesG]
    split
    · have h1 := lines_sum r [] (p + 1)
      have h2 := chopL_le cur
      simp only [List.map_cons, List.sum_cons, List.length_cons, List.length_nil] at h1 ⊢
      omega
    · have h1 := lines_sum r (cur ++ [c]) (p + 1)
      simp only [List.length_append, List.length_cons, List.length_nil] at h1 ⊢
      omega
theorem upto_sum (to : Nat) : ∀ ls : List (List UInt8 × Nat), ((uptoL to ls).1.map List.length).sum ≤ (ls.map (fun x => x.1.length)).sum ∧ (uptoL to ls).1.length ≤ ls.length
  | [] => by simp [uptoL]
  | (t, n) :: r => by
    have ih := upto_sum to r
    rw [uptoL]
    split
    · simp
    · simp only [List.map_cons, List.sum_cons, List.length_cons]
      omega
theorem field_len {t : List UInt8} {f : Fl} (h : f ∈ oneL t) : f.1.length ≤ t.length ∧ f.2.length ≤ t.length := by
  unfold oneL fieldL at h
  cases hc : cutL 58 t with
  | none => rw [hc] at h; cases h
  | some x =>
    obtain ⟨n, v⟩ := x
    rw [hc] at h
    have hl := congrArg List.length (cut_len hc)
    rw [List.length_append, List.length_cons] at hl
    have hv := trimL_le v
    simp only at h
    split at h
    · simp at h
      rw [h]
      simp only
      omega
    · cases h
theorem fold_len (K : Nat) : ∀ (ts : List (List UInt8)) (st : List Fl × List UInt8) (_ : ∀ f ∈ st.1, f.1.length ≤ K ∧ f.2.length ≤ K) (_ : st.2.length + (ts.map List.length).sum ≤ K), (∀ f ∈ endL (ts.foldl stepL st), f.1.length ≤ K ∧ f.2.length ≤ K) ∧ (endL (ts.foldl stepL st)).length ≤ st.1.length + ts.length + 1
  | [], st, h1, h2 => by
    rw [List.foldl_nil]
    unfold endL
    refine ⟨fun f hf => ?_, by rw [List.length_append]; have := oneL_le st.2; simp; omega⟩
    rcases List.mem_append.1 hf with hf | hf
    · exact h1 f hf
    · have := field_len hf
      simp at h2
      omega
  | t :: ts, st, h1, h2 => by
    rw [List.foldl_cons]
    rw [List.map_cons, List.sum_cons] at h2
    have hst : (∀ f ∈ (stepL st t).1, f.1.length ≤ K ∧ f.2.length ≤ K) ∧ (stepL st t).2.length ≤ st.2.length + t.length ∧ (stepL st t).1.length ≤ st.1.length + 1 := by
      refine ⟨?_, (step_le st t).2, (step_le st t).1⟩
      unfold stepL
      split
      · exact h1
      · intro f hf
        rcases List.mem_append.1 hf with hf | hf
        · exact h1 f hf
        · have := field_len hf
          omega
    obtain ⟨q1, q2, q3⟩ := hst
    have ih := fold_len K ts (stepL st t) q1 (by omega)
    refine ⟨ih.1, ?_⟩
    have := ih.2
    rw [List.length_cons]
    omega
/-- The headers' texts are no longer than the octets; there are no more of them than octets, and two. -/
theorem head_sizes {s : List UInt8} {a b : Nat} (hb : b ≤ s.length) : (∀ f ∈ (headL s a b).1, f.1.length ≤ s.length ∧ f.2.length ≤ s.length) ∧ (headL s a b).1.length ≤ s.length + 2 := by
  unfold headL splitL fieldsL
  have hl := seg_len (a := a) hb
  have h1 := lines_sum (segL s a b) [] a
  have h2 := upto_sum b (linesL a (segL s a b))
  have h3 := linesG_count (segL s a b) [] a
  unfold linesL at h2 ⊢
  simp only [List.length_nil] at h1
  have h4 := fold_len s.length (uptoL b (linesG a [] (segL s a b))).1 ([], []) (fun f hf => by cases hf) (by simp only [List.length_nil]; omega)
  unfold stL
  refine ⟨h4.1, ?_⟩
  refine Nat.le_trans h4.2 ?_
  simp only [List.length_nil]
  omega
theorem type_sizes {s : List UInt8} {a b : Nat} (hb : b ≤ s.length) : (typeL (headL s a b).1).1.length ≤ s.length + 10 ∧ (typeL (headL s a b).1).2.length ≤ s.length ∧ ∀ f ∈ (typeL (headL s a b).1).2, f.1.length ≤ s.length ∧ f.2.length ≤ s.length := by
  have h1 := fv_len (head_sizes (a := a) hb).1 ctypeT
  have h2 := values_len (fvL (headL s a b).1 ctypeT)
  unfold typeL
  split
  · refine ⟨by omega, by omega, fun f hf => ?_⟩
    have := h2.2.2 f hf
    omega
  · exact ⟨by simp [plainT], by simp, by simp⟩
end Go.Proofs.YtnnbbjdidbggmaaGreatDoor.Pt
