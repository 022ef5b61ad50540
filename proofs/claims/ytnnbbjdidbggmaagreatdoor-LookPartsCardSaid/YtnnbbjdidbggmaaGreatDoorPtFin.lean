/-
  What read leaves when its kids are read: the part told, the range's record taken. No law and no function of the project in this text. Conditions: none.
-/
import Derived.Test.YtnnbbjdidbggmaaGreatDoorPtIv
namespace Go.Proofs.YtnnbbjdidbggmaaGreatDoor.Pt
open Go Go.RowKit Go.Joins Kit F0

theorem Ms.fin {s : ByteArray} {i : Int} {C B G K R D : Nat} {w : World} {c0 c1 c2 c3 c4 c5 c6 kv : Value} {ps : List Fl} {bd : List UInt8} {a0 t0 : Nat} {ks : List P} {v : Nat} {W : World} (h : Ms s i C B G K R w c0 c1 c2 c3 c4 c5 c6 kv ps bd a0 t0 ks v W) (hK : W.heap[D]? = some (.deferred (some []))) :
    (finW W (B + 1 + 1 + 1) c0 c1 c2 c3 c4 c5 c6 kv).heap[D]? = some (.deferred (some [])) ∧
    Bx (B + 1 + 1 + 1) c0 c1 c2 c3 c4 c5 c6 kv ((finW W (B + 1 + 1 + 1) c0 c1 c2 c3 c4 c5 c6 kv).putObj D (.deferred none)) ∧
    (∀ (_ : R ≤ D), Step C w ((finW W (B + 1 + 1 + 1) c0 c1 c2 c3 c4 c5 c6 kv).putObj D (.deferred none))) ∧
    CellsAt (fun g => B ≤ g) ((finW W (B + 1 + 1 + 1) c0 c1 c2 c3 c4 c5 c6 kv).putObj D (.deferred none)) ps.length c1 (fC ps) ∧
    (∃ cs, CellsAt (fun g => B ≤ g) ((finW W (B + 1 + 1 + 1) c0 c1 c2 c3 c4 c5 c6 kv).putObj D (.deferred none)) ks.length kv cs ∧ KidsAt (fun g => B ≤ g) ((finW W (B + 1 + 1 + 1) c0 c1 c2 c3 c4 c5 c6 kv).putObj D (.deferred none)) ks cs) ∧
    Boxed ((finW W (B + 1 + 1 + 1) c0 c1 c2 c3 c4 c5 c6 kv).putObj D (.deferred none)) C 3 (.int .i64 (v : Int)) := by
  have hC := h.st.hC
  have hG := h.st.hG
  have hGK := h.hGK
  have hR := h.hKR
  have hB := h.st.hB
  have nD : ∀ (g : Nat) cs t f, W.heap[g]? = some (Obj.cells cs t f) → g ≠ D := fun g cs t f hb e => by rw [e, hK] at hb; cases hb
  have nX : B + 1 + 1 + 1 ≠ D := nD _ _ _ _ h.st.br.blk
  have all : ∀ (g : Nat) cs t f, g ≠ B + 1 + 1 + 1 → W.heap[g]? = some (Obj.cells cs t f) → ((finW W (B + 1 + 1 + 1) c0 c1 c2 c3 c4 c5 c6 kv).putObj D (.deferred none)).heap[g]? = W.heap[g]? := fun g cs t f hx hb => by
    rw [World.putObj_heap_other (nD g cs t f hb), finW_other _ _ _ _ _ _ _ _ _ _ g hx]
  have hF := h.st.fin
  refine ⟨by rw [finW_other _ _ _ _ _ _ _ _ _ _ D nX.symm]; exact hK, hF.1.same (World.putObj_heap_other nX), fun hD => ?_, h.pars.keep (kept_block fun g cs t f hg hb => ⟨by omega, all g cs t f (by omega) hb⟩), ?_, (all C _ _ _ (by omega) h.cnt).trans h.cnt⟩
  · exact hF.2.grown (grownBy_putObj' _ D _) (fun r e => by cases e; have := h.size; omega)
  · obtain ⟨cs, h1, h2⟩ := h.kids.read (fun g => R ≤ g) (fun _ hg => hg)
    have hk : Kept (fun g => R ≤ g) (fun g => B ≤ g) W ((finW W (B + 1 + 1 + 1) c0 c1 c2 c3 c4 c5 c6 kv).putObj D (.deferred none)) := kept_block fun g cs t f hg hb => ⟨by omega, all g cs t f (by omega) hb⟩
    exact ⟨cs, h1.keep hk, h2.keep hk⟩
end Go.Proofs.YtnnbbjdidbggmaaGreatDoor.Pt
