/-
  The document's answer for package canon, as the statements have it: plain facts on right values and their texts: within an array, two unlike ones, no byte below 32. Conditions: none.
-/
import Derived.Test.YtbjngdlkamdmdaaDoorJ8Put
namespace Go.Proofs.YtbjngdlkamdmdaaDoor.J8
open Go Go.RowKit Go.Joins Kit J7 Nds

/-- One array around it. -/
def arrJ (a : J) : J := .mk 6 0 ⟨#[]⟩ [] [a]
theorem right_down {dd : Nat} {a : J} (h : RightIn dd a) : ∀ d, d ≤ dd → RightIn d a := by
  induction h with
  | mk dd a hh _ hk ih => exact fun d hd => RightIn.mk d a ⟨hh.a1, hh.a2, hh.a3, hh.a4, hh.a5, hh.a6, hh.a7, hh.a8, hh.a9, hh.a10, fun h => by have := hh.a11 h; omega⟩ (fun i hi => ih i hi (d + 1) (by omega)) hk
theorem head_arr : Head 0 6 0 ⟨#[]⟩ 0 1 := ⟨by decide, by decide, fun _ => rfl, by decide, by decide, fun _ => rfl, rfl, fun h => absurd h (by decide), fun _ => rfl, fun h => absurd h (by decide), fun _ => by omega⟩
theorem head_str (dd : Nat) (s : ByteArray) (h : U8.validL s.data.toList = true) : Head dd 5 0 s 0 0 := ⟨by decide, by decide, fun _ => rfl, by decide, by decide, fun h => absurd rfl h, h, fun _ => rfl, fun _ => rfl, fun h => absurd h (by decide), fun h => absurd h (by decide)⟩
theorem right_arr {a : J} : RightIn 0 (arrJ a) ↔ RightIn 1 a := by
  refine ⟨fun h => (right_inv h).2.1 0 (by show 0 < [a].length; simp), fun h => RightIn.mk 0 _ head_arr (fun i hi => ?_) (fun q hq => absurd hq (Nat.not_lt_zero q))⟩
  have h0 : i = 0 := by have : i < 1 := hi; omega
  subst h0
  exact h
theorem put_arr (a : J) : putJ (arrJ a) = 91 :: (putJ a ++ [93]) := by
  unfold arrJ
  rw [putJ]
  simp [putKs]
theorem tame_str (s : ByteArray) (h : s.size ≤ 300000) : Tame (.mk 5 0 s [] []) := Tame.mk 5 0 s [] [] (by simp) (by simp) h (fun q hq => absurd hq (Nat.not_lt_zero q)) (fun i hi => absurd hi (Nat.not_lt_zero i))
theorem tame_arr {a : J} (h : Tame a) : Tame (arrJ a) := Tame.mk 6 0 ⟨#[]⟩ [] [a] (by simp) (by simp) (by decide) (fun q hq => absurd hq (Nat.not_lt_zero q)) (fun i hi => by
  have h0 : i = 0 := by have : i < 1 := hi; omega
  subst h0
  exact h)
theorem right_str {s : ByteArray} {dd : Nat} : RightIn dd (.mk 5 0 s [] []) ↔ U8.validL s.data.toList = true := by
  refine ⟨fun h => (right_inv h).1.a7, fun h => RightIn.mk dd _ (head_str dd s h) (fun i hi => absurd hi (Nat.not_lt_zero i)) (fun q hq => absurd hq (Nat.not_lt_zero q))⟩
theorem dgS_ge : ∀ n < 16, 32 ≤ (dgS n).toNat := by decide
theorem qB_ge (c x : UInt8) (h : x ∈ qB c) : 32 ≤ x.toNat := by
  rcases qB_cases c with ⟨rfl, e⟩ | ⟨rfl, e⟩ | ⟨rfl, e⟩ | ⟨rfl, e⟩ | ⟨rfl, e⟩ | ⟨rfl, e⟩ | ⟨rfl, e⟩ | ⟨_, hc, e⟩ | ⟨_, hc, e⟩
  all_goals rw [e] at h
  all_goals simp only [List.mem_cons, List.not_mem_nil, or_false, List.cons_append, List.nil_append] at h
  · rcases h with rfl | rfl <;> decide
  · rcases h with rfl | rfl <;> decide
  · rcases h with rfl | rfl <;> decide
  · rcases h with rfl | rfl <;> decide
  · rcases h with rfl | rfl <;> decide
  · rcases h with rfl | rfl <;> decide
  · rcases h with rfl | rfl <;> decide
  · rcases h with rfl | rfl | rfl | rfl | rfl | rfl
    · decide
    · decide
    · decide
    · decide
    · exact dgS_ge _ (by omega)
    · exact dgS_ge _ (by omega)
  · subst h
    omega
theorem quote_ge (l : List UInt8) (x : UInt8) (h : x ∈ quoteL l) : 32 ≤ x.toNat := by
  unfold quoteL qL at h
  rcases List.mem_cons.1 h with rfl | h
  · decide
  · rcases List.mem_append.1 h with h | h
    · obtain ⟨c, _, hc⟩ := List.mem_flatMap.1 h
      exact qB_ge c x hc
    · rw [List.mem_singleton] at h
      subst h
      decide
end Go.Proofs.YtbjngdlkamdmdaaDoor.J8
