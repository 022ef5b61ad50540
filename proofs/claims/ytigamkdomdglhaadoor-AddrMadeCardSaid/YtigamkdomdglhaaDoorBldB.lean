/-
  A Builder of the call's own is as it was behind what leaves all blocks that there are as they were. No law and no function of the project in this text. Conditions: none.
-/
import Derived.Test.YtigamkdomdglhaaDoorBld
namespace Go.Proofs.YtigamkdomdglhaaDoor.Bld
open Go Go.RowKit Go.Joins

theorem below {T e : TypeId} {B b : Nat} {bs : List Value} {w w' : World} (h : Lib.IsBuilderF T e B b bs w) (hb : Below w.heap.size w w') : Lib.IsBuilderF T e B b bs w' := by
  have hg : w.grownBy w' none := ⟨hb.os, hb.tape, hb.output, hb.size, fun k hk _ => hb.block k hk⟩
  have one : ∀ p, Lib.BuilderAtF T e B b p bs w → Lib.BuilderAtF T e B b p bs w' := by
    intro p h
    have hlt := h.lt
    obtain ⟨hB, u, hb, hown, hne⟩ := h
    refine ⟨hB, u, (hg.block b hlt (fun e => by cases e)).trans hb, hown.kept hg ?_, hne⟩
    cases hu : u.ownBlock with
    | none => exact Or.inl rfl
    | some g => exact Or.inr (fun e' => by cases e')
  exact h.elim (fun x => .inl (one _ x)) (fun x => .inr (one _ x))
end Go.Proofs.YtigamkdomdglhaaDoor.Bld
