/-
  An argument that is a slice of bytes, opened: its numbers, where they lie, their bounds. Condition: none but that it reads as data.
-/
import Derived.Test.YtigamkdomdglhaaDoorKit
import Derived.OpenShut
namespace Go.Proofs.YtigamkdomdglhaaDoor.U8p
open Go Go.RowKit Go.WideShapes Go.ChangeShapes Kit

theorem opens {H : Type} {enc : TypeId × Value → H} {W : World} {A : Option Addr} {n c : Nat} {d : DataW H} {p : List MemPlace} (h : DataW.Trod enc Tryd.prog W 0 (fun _ => true) true 23 (.slice A n c) d p) :
    ∃ xs : List Int, xs.length = n ∧ n ≤ 9223372036854775807 ∧ (∀ k, k < n → ∃ b off, A = some ⟨b, off, none⟩ ∧ b < W.heap.size ∧ W.cell? ⟨b, off + k, none⟩ = some (.int .u8 (xs.getD k 0))) ∧ ∀ k, 0 ≤ xs.getD k 0 ∧ xs.getD k 0 ≤ 255 := by
  obtain ⟨fuel, hf⟩ := h
  have hc : Tryd.prog.cellsOf 5 = 1 := by kernel_rfl
  rcases Go.ChangeShapes.open_ints Tryd.underlying23 Tryd.underlying5 hc hf with ⟨hcs, _⟩ | ⟨a, len', cap', xs, hcs, _, hle, hmax, hall, _, hcell, hwf⟩
  · simp [Value.cells] at hcs
    obtain ⟨rfl, rfl, rfl⟩ := hcs
    exact ⟨[], rfl, by omega, fun k hk => by omega, fun k => by simp⟩
  · simp [Value.cells] at hcs
    obtain ⟨rfl, rfl, rfl⟩ := hcs
    simp only [if_true] at hall
    unfold maxLen at hmax
    have hn : n ≤ 9223372036854775807 := by omega
    refine ⟨xs.take n, by rw [List.length_take]; omega, hn, fun k hk => ?_, fun k => ?_⟩
    · obtain ⟨b, off, rfl, hcl⟩ := ints_at hcell (by omega)
      have h1 := hcl k (by omega)
      refine ⟨b, off, rfl, cell_lt h1, ?_⟩
      rw [h1]
      simp [List.getD_eq_getElem?_getD, hk]
    · have := range_u8 (zs := xs.take n) (fun m hm => hwf m (List.mem_of_mem_take hm)) k
      rw [List.getD_eq_getElem?_getD]
      exact this
end Go.Proofs.YtigamkdomdglhaaDoor.U8p
