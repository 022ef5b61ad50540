/-
  An argument that is a slice of texts, opened: what it holds, where it lies, its bounds. Condition: none but that it reads as data.
-/
import Derived.Test.YtggnkpbadfabcaaKit
import Derived.OpenShut
import Derived.Deep.Slices
import Derived.Deep.Strs
namespace Go.Proofs.Ytggnkpbadfabcaa.F0
open Go Go.RowKit Go.WideShapes Go.ChangeShapes Kit

theorem addr_plain {w : World} {a : Addr} {v : Value} (h : w.cell? (a.add 0) = some v) : a = ⟨a.block, a.off, none⟩ := by
  obtain ⟨b, off, spot⟩ := a
  have hs : spot = none := by simpa [Addr.add] using World.cell?_spot h
  rw [hs]
theorem cell_plain {w : World} {a : Addr} {i : Nat} {v : Value} (ha : a = ⟨a.block, a.off, none⟩) (h : w.cell? (a.add i) = some v) : w.cell? ⟨a.block, a.off + i, none⟩ = some v := by
  rw [ha] at h
  rw [← Go.WideShapes.add_plain]
  exact h
/-- n cells behind a slice's value. -/
def ListAt (w : World) (A : Option Addr) (cs : List Value) : Prop := ∀ k (h : k < cs.length), ∃ g o, A = some ⟨g, o, none⟩ ∧ g < w.heap.size ∧ w.cell? ⟨g, o + k, none⟩ = some cs[k]
section
variable {H : Type} {enc : TypeId × Value → H} {W : World}
theorem strs_opens {A : Option Addr} {n c : Nat} {d : DataW H} {p : List MemPlace} (h : DataW.Trod enc Try.prog W 0 (fun _ => true) true 22 (.slice A n c) d p) :
    ∃ ss : List ByteArray, ss.length = n ∧ n ≤ 9223372036854775807 ∧ ListAt W A (ss.map .string) := by
  obtain ⟨fuel, hf⟩ := h
  rcases Go.Deep.open_strs Try.underlying22 Try.underlying9 (by kernel_rfl) hf with ⟨hcs, _⟩ | ⟨a, len, cap, m, S, hcs, _, hl, hmax, hm, _, hx⟩
  · simp [Value.cells] at hcs
    obtain ⟨rfl, rfl, rfl⟩ := hcs
    exact ⟨[], rfl, by omega, fun k hk => by simp at hk⟩
  · simp [Value.cells] at hcs
    obtain ⟨rfl, rfl, rfl⟩ := hcs
    simp only [if_true] at hm
    refine ⟨(List.range n).map S, by rw [List.length_map, List.length_range], by unfold maxLen at hmax; omega, fun k hk => ?_⟩
    rw [List.length_map, List.length_map, List.length_range] at hk
    have h1 := addr_plain (hx 0 (by omega)).1
    have h2 := cell_plain h1 (hx k (by omega)).1
    refine ⟨a.block, a.off, congrArg some h1, cell_lt h2, ?_⟩
    rw [h2, List.getElem_map, List.getElem_map, List.getElem_range]
theorem strs_sized {A : Option Addr} {n c : Nat} {d : DataW H} {p : List MemPlace} (h : DataW.Trod enc Try.prog W 0 (fun _ => true) true 22 (.slice A n c) d p) :
    ∃ ss : List ByteArray, ss.length = n ∧ n ≤ 9223372036854775807 ∧ ListAt W A (ss.map .string) ∧ ∀ s ∈ ss, s.size ≤ 9223372036854775807 := by
  obtain ⟨fuel, hf⟩ := h
  rcases Go.Deep.open_strs Try.underlying22 Try.underlying9 (by kernel_rfl) hf with ⟨hcs, _⟩ | ⟨a, len, cap, m, S, hcs, _, hl, hmax, hm, _, hx⟩
  · simp [Value.cells] at hcs
    obtain ⟨rfl, rfl, rfl⟩ := hcs
    exact ⟨[], rfl, by omega, fun k hk => by simp at hk, by simp⟩
  · simp [Value.cells] at hcs
    obtain ⟨rfl, rfl, rfl⟩ := hcs
    simp only [if_true] at hm
    refine ⟨(List.range n).map S, by rw [List.length_map, List.length_range], by unfold maxLen at hmax; omega, fun k hk => ?_, fun s hs => ?_⟩
    rotate_left 1
    · obtain ⟨i, hi, rfl⟩ := List.mem_map.1 hs
      exact (hx i (by have := List.mem_range.1 hi; omega)).2
    rw [List.length_map, List.length_map, List.length_range] at hk
    have h1 := addr_plain (hx 0 (by omega)).1
    have h2 := cell_plain h1 (hx k (by omega)).1
    refine ⟨a.block, a.off, congrArg some h1, cell_lt h2, ?_⟩
    rw [h2, List.getElem_map, List.getElem_map, List.getElem_range]
end
end Go.Proofs.Ytggnkpbadfabcaa.F0
