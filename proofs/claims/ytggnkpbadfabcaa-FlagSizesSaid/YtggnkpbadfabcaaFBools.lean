/-
  Arguments that are slices of bools, opened: what they hold, where it lies, its bounds. Condition: none but that they read as data.
-/
import Derived.Test.YtggnkpbadfabcaaFStrs
import Derived.OpenShut
import Derived.Deep.Slices
import Derived.Deep.Strs
namespace Go.Proofs.Ytggnkpbadfabcaa.F0
open Go Go.RowKit Go.WideShapes Go.ChangeShapes Kit

section
variable {H : Type} {enc : TypeId × Value → H} {W : World}
theorem bools_opens {A : Option Addr} {n c : Nat} {d : DataW H} {p : List MemPlace} (h : DataW.Trod enc Try.prog W 0 (fun _ => true) true 40 (.slice A n c) d p) :
    ∃ bs : List Bool, bs.length = n ∧ n ≤ 9223372036854775807 ∧ ListAt W A (bs.map .bool) := by
  obtain ⟨fuel, hf⟩ := h
  have hb1 : Try.prog.cellsOf 4 = 1 := by kernel_rfl
  rcases DataW.trod_slice Try.underlying40 hf with ⟨hcs, _⟩ | ⟨a, len, cap, elems, rest, n', hn', hcs, _, _, hlc, hmax, hel, hall, _, _⟩
  · simp [Value.cells] at hcs
    obtain ⟨rfl, rfl, rfl⟩ := hcs
    exact ⟨[], rfl, by omega, fun k hk => by simp at hk⟩
  · simp [Value.cells] at hcs
    obtain ⟨rfl, rfl, rfl⟩ := hcs
    have each : ∀ i, i < n → ∃ b : Bool, W.cell? (a.add i) = some (.bool b) := fun i hi => by
      have hb := hall i hi
      rw [hb1, Nat.mul_one, List.getElem?_eq_getElem (by rw [hel]; exact hi)] at hb
      obtain ⟨cs', g1, g2⟩ := Option.bind_eq_some_iff.1 hb
      obtain ⟨b, rfl, _⟩ := DataW.trod_bool Try.underlying4 g2
      obtain ⟨_, _, g3⟩ := World.cells?_some g1
      have h0 := g3 0 (by omega)
      exact ⟨b, by simpa [Addr.add] using h0⟩
    obtain ⟨f, hf'⟩ := Go.Deep.choose_lt each
    refine ⟨(List.range n).map f, by rw [List.length_map, List.length_range], by unfold maxLen at hmax; omega, fun k hk => ?_⟩
    rw [List.length_map, List.length_map, List.length_range] at hk
    have h1 := addr_plain (hf' 0 (by omega))
    have h2 := cell_plain h1 (hf' k hk)
    refine ⟨a.block, a.off, congrArg some h1, cell_lt h2, ?_⟩
    rw [h2, List.getElem_map, List.getElem_map, List.getElem_range]
end
end Go.Proofs.Ytggnkpbadfabcaa.F0
