/-
  An argument that is a slice of steps, opened: its numbers, where they lie, their bounds. Condition: none but that it reads as data.
-/
import Derived.Test.YtojjlbhodiphdaaLgLog
import Derived.Test.YtojjlbhodiphdaaLgKndP
import Derived.OpenShut
import Derived.Deep.SlicePairs
namespace Go.Proofs.Ytojjlbhodiphdaa.Lg
open Go Go.RowKit Go.WideShapes Go.ChangeShapes

def stC (l : List Stp) : List Value := l.flatMap (fun s => [.int .u8 s.1, .int .u8 s.2])
theorem stC_length (l : List Stp) : (stC l).length = l.length * 2 := by
  induction l with
  | nil => rfl
  | cons s r ih =>
    unfold stC at ih ⊢
    simp only [List.flatMap_cons, List.length_append, ih, List.length_cons, List.length_nil]
    omega
theorem stC_at : ∀ (l : List Stp) (k : Nat) (h : k < l.length), (stC l)[k * 2]? = some (.int .u8 l[k].1) ∧ (stC l)[k * 2 + 1]? = some (.int .u8 l[k].2)
  | [], k, h => by simp at h
  | s :: r, 0, _ => ⟨rfl, rfl⟩
  | s :: r, k + 1, h => by
    have := stC_at r k (by simpa using h)
    have e1 : ∀ j, (stC (s :: r))[(k + 1) * 2 + j]? = (stC r)[k * 2 + j]? := fun j => by
      unfold stC
      rw [List.flatMap_cons, List.getElem?_append_right (by show 2 ≤ _; omega)]
      congr 1
      show (k + 1) * 2 + j - 2 = _
      omega
    have e0 := e1 0
    rw [Nat.add_zero, Nat.add_zero] at e0
    rw [e0, e1]
    simpa using this
theorem sat_stp {w : World} {v : Value} {l : List Stp} (h : SAt w v 2 l.length (stC l)) (k : Nat) (hk : k < l.length) : ∃ g o cap, v = .slice (some ⟨g, o, none⟩) l.length cap ∧ w.cell? ⟨g, o + k * 2, none⟩ = some (.int .u8 l[k].1) ∧ w.cell? ⟨g, o + k * 2 + 1, none⟩ = some (.int .u8 l[k].2) := by
  rcases h with ⟨h0, _⟩ | ⟨g, o, cap, rfl, _, _, h3⟩
  · omega
  · obtain ⟨q0, q1⟩ := stC_at l k hk
    refine ⟨g, o, cap, rfl, ?_, ?_⟩
    · rw [h3 (k * 2) (by omega), q0]
    · rw [Nat.add_assoc, h3 (k * 2 + 1) (by omega), q1]

theorem steps_open {H : Type} {enc : TypeId × Value → H} {W : World} {A : Option Addr} {n c : Nat} {d : DataW H} {p : List MemPlace} (h : DataW.Trod enc Try.prog W 0 (fun _ => true) true 49 (.slice A n c) d p) :
    ∃ l : List Stp, l.length = n ∧ n ≤ 9223372036854775807 ∧ SAt W (.slice A n c) 2 n (stC l) ∧ ∀ s ∈ l, 0 ≤ s.1 ∧ s.1 ≤ 255 ∧ 0 ≤ s.2 ∧ s.2 ≤ 255 := by
  obtain ⟨fuel, hf⟩ := h
  rcases Go.Deep.open_slice_pairs Try.underlying49 Try.underlying52 (by kernel_rfl) rfl rfl (by kernel_rfl) (by kernel_rfl) hf with ⟨hcs, _⟩ | ⟨a, len', cap', m, n', V0, V1, D0, D1, P0, P1, hcs, _, hle, hmax, hm, _, hall⟩
  · simp [Value.cells] at hcs
    obtain ⟨rfl, rfl, rfl⟩ := hcs
    exact ⟨[], rfl, by omega, Or.inl ⟨rfl, _, _, rfl⟩, fun s hs => by cases hs⟩
  · simp [Value.cells] at hcs
    obtain ⟨rfl, rfl, rfl⟩ := hcs
    simp only [if_true] at hm
    subst hm
    unfold maxLen at hmax
    have each : ∀ i, i < n → ∃ q : Int × Int, W.cell? (a.add (i * 2)) = some (.int .u8 q.1) ∧ W.cell? (a.add (i * 2 + 1)) = some (.int .u8 q.2) ∧ 0 ≤ q.1 ∧ q.1 ≤ 255 ∧ 0 ≤ q.2 ∧ q.2 ≤ 255 := by
      intro i hi
      obtain ⟨h0, h1, t0, t1⟩ := hall i (by omega)
      obtain ⟨x, hx, _, wx⟩ := DataW.trod_int Try.underlying5 t0
      obtain ⟨y, hy, _, wy⟩ := DataW.trod_int Try.underlying5 t1
      have bx := bounds_u8 wx
      have by' := bounds_u8 wy
      injection hx with hx _
      injection hy with hy _
      rw [hx] at h0
      rw [hy] at h1
      exact ⟨(x, y), h0, h1, bx.1, bx.2, by'.1, by'.2⟩
    obtain ⟨q, hq⟩ := Go.Deep.choose_lt each
    refine ⟨(List.range n).map q, by simp, by omega, ?_, ?_⟩
    · rcases Nat.eq_zero_or_pos n with h0 | h0
      · subst h0
        exact Or.inl ⟨rfl, _, _, rfl⟩
      · obtain ⟨b, off, spot⟩ := a
        have hspot : spot = none := by simpa [Addr.add] using World.cell?_spot (hq 0 h0).1
        subst hspot
        have hl : ((List.range n).map q).length = n := by simp
        refine Or.inr ⟨b, off, _, rfl, hle, by unfold maxLen; omega, fun j hj => ?_⟩
        obtain ⟨s0, s1⟩ := stC_at ((List.range n).map q) (j / 2) (by rw [hl]; omega)
        obtain ⟨g0, g1, _⟩ := hq (j / 2) (by omega)
        rw [Go.WideShapes.add_plain] at g0 g1
        by_cases hp : j % 2 = 0
        · have e : j / 2 * 2 = j := by omega
          rw [e] at g0 s0
          rw [g0, s0]
          simp
        · have e : j / 2 * 2 + 1 = j := by omega
          rw [e] at g1
          rw [e] at s1
          rw [g1, s1]
          simp
    · intro s hs
      obtain ⟨i, hi, rfl⟩ := List.mem_map.1 hs
      exact (hq i (List.mem_range.1 hi)).2.2
end Go.Proofs.Ytojjlbhodiphdaa.Lg
