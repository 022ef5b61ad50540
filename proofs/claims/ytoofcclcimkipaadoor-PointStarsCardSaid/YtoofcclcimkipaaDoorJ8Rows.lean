/-
  Rows of the call's own that grow: values of type Node with what they lead to, texts. No law and no function of the project in this text. Conditions: at most 65536 elements.
-/
import Derived.Test.YtoofcclcimkipaaDoorJ7Cells
import Derived.Test.YtoofcclcimkipaaDoorKit
import Derived.Deep.AppendLies
namespace Go.Proofs.YtoofcclcimkipaaDoor.J8
open Go Go.RowKit Go.Joins Kit J7

theorem info8N : (Tryd.prog.info? 25).map (fun i => (i.zero, i.size, i.bytes)) = some (some (.agg #[.int .i64 0, .int .i64 0, .string ⟨#[]⟩, .slice none 0 0, .slice none 0 0]), 5, 80) := by kernel_rfl
theorem info8S : (Tryd.prog.info? 9).map (fun i => (i.zero, i.size, i.bytes)) = some (some (.string ⟨#[]⟩), 1, 16) := by kernel_rfl
theorem own_keep8 {w w' : World} {B size : Nat} {e : TypeId} {v : Value} {n : Nat} {xs : List Value} (h : w.ownsRow B e size v n xs) (hk : ∀ g, v.ownBlock = some g → g < w.heap.size → w'.heap[g]? = w.heap[g]?) : w'.ownsRow B e size v n xs := by
  obtain ⟨h1, h2⟩ := h
  refine ⟨h1, ?_⟩
  rcases h2 with h2 | ⟨g, cap, cur, hv, hg, hh, r⟩
  · exact Or.inl h2
  · exact Or.inr ⟨g, cap, cur, hv, hg, by rw [hk g (by rw [hv]; rfl) (Array.getElem?_eq_some_iff.1 hh).1]; exact hh, r⟩
theorem own_ne8 {w : World} {B B' size size' : Nat} {e e' : TypeId} {v v' : Value} {n n' : Nat} {xs xs' : List Value} (h : w.ownsRow B e size v n xs) (h' : w.ownsRow B' e' size' v' n' xs') (he : e ≠ e') {g : Nat} (hg : v.ownBlock = some g) : v'.ownBlock ≠ some g := by
  intro hg'
  rcases h.2 with ⟨rfl, _⟩ | ⟨g1, cap, cur, rfl, _, hh, _⟩
  · cases hg
  · rcases h'.2 with ⟨rfl, _⟩ | ⟨g2, cap2, cur2, rfl, _, hh2, _⟩
    · cases hg'
    · simp only [Value.ownBlock, Option.some.injEq] at hg hg'
      subst hg
      subst hg'
      rw [hh] at hh2
      injection hh2 with hh2
      injection hh2 with _ hh2
      exact he hh2
theorem own_form8 {w : World} {B size : Nat} {e : TypeId} {v : Value} {n : Nat} {xs : List Value} (h : w.ownsRow B e size v n xs) : ∃ ao cap, v = .slice ao n cap := by
  rcases h.2 with ⟨rfl, h0⟩ | ⟨g, cap, cur, rfl, _⟩
  · exact ⟨none, 0, by rw [h0]⟩
  · exact ⟨_, _, rfl⟩
/-- The kids so far: a row of the call's own, and what its cells lead to, in other blocks from B on. -/
def KidsR (B : Nat) (v : Value) (kids : List J) (w : World) : Prop :=
  ∃ cs, w.ownsRow B 25 5 v kids.length cs ∧ KidsAt (fun g => B ≤ g ∧ v.ownBlock ≠ some g) w kids cs
theorem KidsR.same {B : Nat} {v : Value} {kids : List J} {w w' : World} (h : KidsR B v kids w) (hk : ∀ g, B ≤ g → g < w.heap.size → w'.heap[g]? = w.heap[g]?) : KidsR B v kids w' := by
  obtain ⟨cs, h1, h2⟩ := h
  exact ⟨cs, own_keep8 h1 (fun g hg hl => hk g (h1.lt g hg).1 hl), h2.keep (fun g hg hl => ⟨hg, hk g hg.1 hl⟩)⟩
theorem KidsR.form {B : Nat} {v : Value} {kids : List J} {w : World} (h : KidsR B v kids w) : ∃ ao cap, v = .slice ao kids.length cap := by
  obtain ⟨cs, h1, _⟩ := h
  exact own_form8 h1
theorem cells_one8 {P : Nat → Prop} {n : Nat} {w : World} {v : Value} {cs : List Value} (h : CellsAt P w n v cs) : v.oneCell' = true := by
  rcases h with ⟨⟨a, m, rfl⟩, _⟩ | ⟨g, o, cap, rfl, _⟩ <;> rfl
theorem node_one {P : Nat → Prop} {w : World} {j : J} {c0 c1 c2 c3 c4 : Value} (hn : NodeAt P w j (.agg #[c0, c1, c2, c3, c4])) : ∀ u ∈ [c0, c1, c2, c3, c4], u.oneCell' = true := by
  obtain ⟨rfl, rfl, rfl, ⟨a3, m3, rfl⟩, ⟨a4, m4, rfl⟩⟩ := node_cells hn
  intro u hu
  simp only [List.mem_cons, List.not_mem_nil, or_false] at hu
  rcases hu with rfl | rfl | rfl | rfl | rfl <;> rfl
theorem KidsR.app {ops : Array Oper} {rest : List Oper} {o : Oper} {a : Act} {Q : Exit → Act → World → Prop} (hgd : o.guard = none) (sl x : Operand)
    (ho : o.op = .call { callee := .builtin .append, args := #[sl, x], argTypes := #[23, 23] })
    (B : Nat) (w : World) (v : Value) (kids : List J) (hK : KidsR B v kids w) (j : J) (c0 c1 c2 c3 c4 : Value) (S : Nat) (hn : NodeAt (fun g => S ≤ g) w j (.agg #[c0, c1, c2, c3, c4])) (hB : B ≤ S) (hv : ∀ g, v.ownBlock = some g → g < S)
    (hs : a.eval sl = v) (hx : a.eval x = .slice (some ⟨w.heap.size, 0, none⟩) 1 1) (hlen : kids.length ≤ 65536) (hsz : B ≤ w.heap.size)
    (h : ∀ g c w', KidsR B (.slice (some ⟨g, 0, none⟩) (kids.length + 1) c) (kids ++ [j]) w' → (w.alloc (.cells #[c0, c1, c2, c3, c4] 25)).grownBy w' v.ownBlock → (v.ownBlock = some g ∨ g = w.heap.size + 1) → wpList Tryd.prog ops Q rest (a.put o.dst (.slice (some ⟨g, 0, none⟩) (kids.length + 1) c)) w') :
    wpList Tryd.prog ops Q (o :: rest) a (w.alloc (.cells #[c0, c1, c2, c3, c4] 25)) := by
  obtain ⟨i0, hi, hz0, hz1, hz2⟩ := info_parts info8N
  obtain ⟨cs, hown, hkids⟩ := hK
  have hlow : ∀ g, g < w.heap.size → (w.alloc (.cells #[c0, c1, c2, c3, c4] 25)).heap[g]? = w.heap[g]? := fun g hg => Below.heap_alloc w _ g hg
  refine wpList_append_lies (w.alloc (.cells #[c0, c1, c2, c3, c4] 25)) hgd sl x 23 ho B 25 i0 _ 5 80 Tryd.underlying23 hi hz0 hz1 hz2 rfl (by decide) v kids.length cs hs (own_keep8 hown (fun g _ hl => hlow g hl)) ⟨w.heap.size, 0, none⟩ 1 1 [c0, c1, c2, c3, c4] hx rfl ?_ (node_one hn) (by decide) ?_ ?_ ?_ (w.heap.size + 1) (by simp) ?_
  · intro k u hk
    exact World.news_of_block (Kit.fresh_block w _ _) k u hk
  · unfold maxLen; omega
  · omega
  · simp; omega
  · intro g c w' ho' hg hat _
    refine h g c w' ⟨cs ++ [c0, c1, c2, c3, c4], ?_, kids_snoc ?_ ?_⟩ hg hat
    · rw [List.length_append]; exact ho'
    · refine hn.keep (fun k hk hl => ?_)
      have hk' : S ≤ k := hk
      have q1 : (Value.slice (some ⟨g, 0, none⟩) (kids.length + 1) c).ownBlock ≠ some k := by
        intro e
        have hgk : g = k := by simpa [Value.ownBlock] using e
        subst hgk
        rcases hat with hat | hat
        · have := hv g hat
          omega
        · omega
      have q2 : some k ≠ v.ownBlock := by
        intro e
        have := hv k e.symm
        omega
      exact ⟨⟨Nat.le_trans hB hk, q1⟩, (hg.block k (by simp; omega) q2).trans (hlow k hl)⟩
    · refine hkids.keep (fun k hk hl => ?_)
      obtain ⟨k1, k2⟩ := hk
      have q1 : (Value.slice (some ⟨g, 0, none⟩) (kids.length + 1) c).ownBlock ≠ some k := by
        intro e
        have hgk : g = k := by simpa [Value.ownBlock] using e
        subst hgk
        rcases hat with hat | hat
        · exact k2 hat
        · omega
      exact ⟨⟨k1, q1⟩, (hg.block k (by simp; omega) (fun e => k2 e.symm)).trans (hlow k hl)⟩
/-- The keys so far. -/
theorem keys_app {ops : Array Oper} {rest : List Oper} {o : Oper} {a : Act} {Q : Exit → Act → World → Prop} (hgd : o.guard = none) (sl x : Operand)
    (ho : o.op = .call { callee := .builtin .append, args := #[sl, x], argTypes := #[22, 22] })
    (B : Nat) (w : World) (v : Value) (keys : List ByteArray) (hK : w.ownsRow B 9 1 v keys.length (J7.strs keys)) (k : ByteArray) (hs : a.eval sl = v) (hx : a.eval x = .slice (some ⟨w.heap.size, 0, none⟩) 1 1) (hlen : keys.length ≤ 65536) (hsz : B ≤ w.heap.size)
    (h : ∀ g c w', w'.ownsRow B 9 1 (.slice (some ⟨g, 0, none⟩) (keys.length + 1) c) (keys ++ [k]).length (J7.strs (keys ++ [k])) → (w.alloc (.cells #[.string k] 9)).grownBy w' v.ownBlock → wpList Tryd.prog ops Q rest (a.put o.dst (.slice (some ⟨g, 0, none⟩) (keys.length + 1) c)) w') :
    wpList Tryd.prog ops Q (o :: rest) a (w.alloc (.cells #[.string k] 9)) := by
  obtain ⟨i0, hi, hz0, hz1, hz2⟩ := info_parts info8S
  have hlow : ∀ g, g < w.heap.size → (w.alloc (.cells #[.string k] 9)).heap[g]? = w.heap[g]? := fun g hg => Below.heap_alloc w _ g hg
  refine wpList_append_lies (w.alloc (.cells #[.string k] 9)) hgd sl x 22 ho B 9 i0 _ 1 16 Tryd.underlying22 hi hz0 hz1 hz2 rfl (by decide) v keys.length (J7.strs keys) hs (own_keep8 hK (fun g _ hl => hlow g hl)) ⟨w.heap.size, 0, none⟩ 1 1 [.string k] hx rfl ?_ ?_ (by decide) ?_ ?_ ?_ (w.heap.size + 1) (by simp) ?_
  · intro q u hk
    exact World.news_of_block (Kit.fresh_block w _ _) q u hk
  · intro u hu
    simp only [List.mem_cons, List.not_mem_nil, or_false] at hu
    subst hu
    rfl
  · unfold maxLen; omega
  · omega
  · simp; omega
  · intro g c w' ho' hg _ _
    refine h g c w' ?_ hg
    have e : J7.strs (keys ++ [k]) = J7.strs keys ++ [.string k] := by unfold J7.strs; simp
    rw [e, List.length_append]
    exact ho'
end Go.Proofs.YtoofcclcimkipaaDoor.J8
