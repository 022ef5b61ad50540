/-
  Plain facts on what the laws ask of patterns. No program in this text. Conditions: none.
-/
import Derived.Test.YtnnbbjdidbggmaaDoorTrPlain
namespace Go.Proofs.YtnnbbjdidbggmaaDoor.Tr

/-! Texts without signs. -/
theorem self_yes (s : List UInt8) (h : ∀ c ∈ s, lit c) : mat s s = true := (mat_self s h s).2 rfl
theorem self_no (s : List UInt8) (h : ∀ c ∈ s, lit c) : mat s (s ++ [120]) = false := by
  rw [← Bool.not_eq_true, mat_self s h]
  intro e
  have := congrArg List.length e
  simp at this
theorem star_all (s : List UInt8) : mat [42] s = true := (mat_star _ _).2 ⟨s, [], by simp, rfl⟩
theorem star_mid (a b c : List UInt8) (ha : ∀ x ∈ a, lit x) (hc : ∀ x ∈ c, lit x) : mat (a ++ [42] ++ c) (a ++ b ++ c) = true := by
  rw [List.append_assoc, List.append_assoc]
  exact (mat_text a ha _ _).2 ⟨_, rfl, (mat_star _ _).2 ⟨b, c, rfl, self_yes c hc⟩⟩
theorem star_two (a b c : List UInt8) (hb : ∀ x ∈ b, lit x) : mat ([42] ++ b ++ [42]) (a ++ b ++ c) = true := by
  rw [List.append_assoc, List.append_assoc]
  exact (mat_star _ _).2 ⟨a, b ++ c, rfl, (mat_text b hb _ _).2 ⟨_, rfl, star_all c⟩⟩
theorem pct_mid (a b c : List UInt8) (ha : ∀ x ∈ a, lit x) (hb : ∀ x ∈ b, x ≠ 47) (hc : ∀ x ∈ c, lit x) : mat (a ++ [37] ++ c) (a ++ b ++ c) = true := by
  rw [List.append_assoc, List.append_assoc]
  exact (mat_text a ha _ _).2 ⟨_, rfl, (mat_pct _ _).2 ⟨b, c, rfl, hb, self_yes c hc⟩⟩
/-! Texts without the sign between names. -/
theorem pct_all (a : List UInt8) (h : ∀ x ∈ a, x ≠ 47) : mat [37] a = true := (mat_pct _ _).2 ⟨a, [], by simp, h, rfl⟩
theorem pct_two (a b : List UInt8) (ha : ∀ x ∈ a, x ≠ 47) (hb : ∀ x ∈ b, x ≠ 47) : mat [37, 47, 37] (a ++ [47] ++ b) = true := by
  rw [List.append_assoc]
  exact (mat_pct _ _).2 ⟨a, _, rfl, ha, (mat_lit (by decide) _ _).2 ⟨b, rfl, pct_all b hb⟩⟩
theorem pct_no (a b : List UInt8) : mat [37] (a ++ [47] ++ b) = false := by
  rw [← Bool.not_eq_true, mat_pct]
  rintro ⟨u, v, h, hu, hv⟩
  rw [mat_nil] at hv
  subst hv
  rw [List.append_nil] at h
  exact hu 47 (by rw [← h]; simp) rfl
theorem pct_two_no (a : List UInt8) (ha : ∀ x ∈ a, x ≠ 47) : mat [37, 47, 37] a = false := by
  rw [← Bool.not_eq_true, mat_pct]
  rintro ⟨u, v, rfl, hu, hv⟩
  obtain ⟨w, rfl, -⟩ := (mat_lit (by decide) _ _).1 hv
  exact ha 47 (by simp) rfl
theorem star_pct (a b : List UInt8) (hb : ∀ x ∈ b, x ≠ 47) : mat [42, 47, 37] (a ++ [47] ++ b) = true := by
  rw [List.append_assoc]
  exact (mat_star _ _).2 ⟨a, _, rfl, (mat_lit (by decide) _ _).2 ⟨b, rfl, pct_all b hb⟩⟩
theorem pct_star (s : List UInt8) : mat [37, 42] s = true := pct_none (star_all s)
end Go.Proofs.YtnnbbjdidbggmaaDoor.Tr
