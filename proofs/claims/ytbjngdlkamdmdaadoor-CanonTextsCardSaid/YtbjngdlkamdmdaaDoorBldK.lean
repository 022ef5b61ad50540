/-
  A Builder of the call's own beside other rows of bytes of the call's own: the writers leave a set of blocks, in which none of the Builder's own lies, as they were. No law and no function of the project in this text. Conditions: what it holds has at most 2^47 bytes.
-/
import Derived.Test.YtbjngdlkamdmdaaDoorBld
import Derived.Test.YtbjngdlkamdmdaaDoorShelf
import Derived.Lib.AppendStr
import Derived.Deep.AppendLies
namespace Go.Proofs.YtbjngdlkamdmdaaDoor.Bld
open Go Go.RowKit Go.Joins

/-- A Builder that has been written, or grown; its bytes; none of its blocks is in S. -/
structure BSet (S : Nat → Prop) (B b : Nat) (l : List UInt8) (w : World) : Prop where
  at_ : ∃ v, w.heap[b]? = some (.cells #[.pointer (some ⟨b, 0, none⟩), v] 45 (0, 0)) ∧ w.ownsRow B 5 1 v l.length (Lib.byteCells l) ∧ v.ownBlock ≠ some b ∧ ∀ g, v.ownBlock = some g → ¬ S g
  base : B ≤ b
  self : ¬ S b
  lt : ∀ k, S k → k < w.heap.size
def Kept (S : Nat → Prop) (w w' : World) : Prop := ∀ k, S k → w'.heap[k]? = w.heap[k]?
theorem Kept.refl (S : Nat → Prop) (w : World) : Kept S w w := fun _ _ => rfl
theorem Kept.trans {S : Nat → Prop} {a b c : World} (h : Kept S a b) (k : Kept S b c) : Kept S a c := fun i hi => (k i hi).trans (h i hi)
theorem Kept.below {S : Nat → Prop} {B b : Nat} {l : List UInt8} {w w' : World} (h : BSet S B b l w) (hb : Below w.heap.size w w') : Kept S w w' := fun k hk => hb.block k (h.lt k hk)
theorem BSet.blt {S : Nat → Prop} {B b : Nat} {l : List UInt8} {w : World} (h : BSet S B b l w) : b < w.heap.size := by
  obtain ⟨v, hv, _⟩ := h.at_
  exact (Array.getElem?_eq_some_iff.1 hv).1
theorem BSet.isB {S : Nat → Prop} {B b : Nat} {l : List UInt8} {w : World} (h : BSet S B b l w) : Lib.IsBuilder 45 5 B b (Lib.byteCells l) w := by
  obtain ⟨v, h1, h2, h3, _⟩ := h.at_
  exact Or.inr ⟨h.base, v, h1, by rw [Lib.byteCells_length]; exact h2, h3⟩
theorem BSet.of_at {B b : Nat} {l : List UInt8} {w : World} (h : Lib.BuilderAt 45 5 B b (.pointer (some ⟨b, 0, none⟩)) (Lib.byteCells l) w) : BSet (fun _ => False) B b l w := by
  obtain ⟨hB, v, h1, h2, h3⟩ := h
  rw [Lib.byteCells_length] at h2
  exact ⟨⟨v, h1, h2, h3, fun _ _ h => h⟩, hB, fun h => h, fun _ h => h.elim⟩
theorem own_keep {w w' : World} {B : Nat} {e : TypeId} {v : Value} {n : Nat} {xs : List Value} (h : w.ownsRow B e 1 v n xs) (hk : ∀ g, v.ownBlock = some g → g < w.heap.size → w'.heap[g]? = w.heap[g]?) : w'.ownsRow B e 1 v n xs := by
  obtain ⟨h1, h2⟩ := h
  refine ⟨h1, ?_⟩
  rcases h2 with h2 | ⟨g, cap, cur, hv, hg, hh, r⟩
  · exact Or.inl h2
  · exact Or.inr ⟨g, cap, cur, hv, hg, by rw [hk g (by rw [hv]; rfl) (Array.getElem?_eq_some_iff.1 hh).1]; exact hh, r⟩
theorem own_lt {w : World} {B : Nat} {e : TypeId} {v : Value} {n : Nat} {xs : List Value} (h : w.ownsRow B e 1 v n xs) {g : Nat} (hg : v.ownBlock = some g) : g < w.heap.size := by
  rcases h.2 with ⟨rfl, _⟩ | ⟨g', cap, cur, rfl, _, hh, _⟩
  · cases hg
  · simp only [Value.ownBlock, Option.some.injEq] at hg
    subst hg
    exact (Array.getElem?_eq_some_iff.1 hh).1
/-- What turns blocks of S alone leaves the Builder as it was; S may turn to others of S, and to new ones. -/
theorem BSet.turn {S S' : Nat → Prop} {B b : Nat} {l : List UInt8} {w w' : World} (h : BSet S B b l w) (hk : ∀ k, k < w.heap.size → ¬ S k → w'.heap[k]? = w.heap[k]?) (hS : ∀ k, S' k → (S k ∨ w.heap.size ≤ k) ∧ k < w'.heap.size) : BSet S' B b l w' := by
  have hlt := h.blt
  obtain ⟨v, h1, h2, h3, h4⟩ := h.at_
  refine ⟨⟨v, by rw [hk b hlt h.self]; exact h1, own_keep h2 (fun g hg hl => hk g hl (h4 g hg)), h3, ?_⟩, h.base, ?_, fun k hk => (hS k hk).2⟩
  · intro g hg hs
    rcases (hS g hs).1 with h' | h'
    · exact h4 g hg h'
    · have := own_lt h2 hg
      omega
  · intro hs
    rcases (hS b hs).1 with h' | h'
    · exact h.self h'
    · omega
theorem BSet.below {S : Nat → Prop} {B b : Nat} {l : List UInt8} {w w' : World} (h : BSet S B b l w) (hb : Below w.heap.size w w') : BSet S B b l w' :=
  h.turn (fun k hk _ => hb.block k hk) (fun k hk => ⟨Or.inl hk, by have := h.lt k hk; have := hb.size; omega⟩)

/-- append of a text: where the new slice lies. -/
theorem run_text_lies {P : Program} (w : World) (base : Nat) (t u ty e : TypeId) (i : TypeInfo) (ht : P.underlying t = some (.slice e)) (hu : P.underlying u = some .string) (hi : P.info? e = some i) (hz : i.zero = some (.int .u8 0))
    (hsize : i.size = 1) (hby : i.bytes = 1) (v : Value) (n : Nat) (xs : List Value) (hown : w.ownsRow base e 1 v n xs) (s : ByteArray)
    (h63 : n + s.size ≤ maxLen) (hbytes : n + s.size ≤ 140737488355328) (hbase : base ≤ w.heap.size) :
    ∃ v' w', (Builtin.append_ #[t, u] ty #[v, .string s]).run P w = .ok v' w' ∧ w'.ownsRow base e 1 v' (n + s.size) (xs ++ Lib.strCells s) ∧ w.grownBy w' v.ownBlock ∧
      (∀ g, v'.ownBlock = some g → v.ownBlock = some g ∨ w.heap.size ≤ g) := by
  obtain ⟨v', w', hr, h2, h3, _⟩ := Lib.run_append_own_string (P := P) w base t u ty e i ht hu hi hz hsize hby v n xs hown s h63 hbytes hbase
  refine ⟨v', w', hr, h2, h3, ?_⟩
  have hn := hown.1
  rcases hown.2 with ⟨rfl, rfl⟩ | ⟨g, cap, cur, rfl, hbg, hg, hnc, hcm, hcs, htake⟩
  · have hx : xs = [] := List.eq_nil_of_length_eq_zero (by simpa using hn)
    subst hx
    obtain ⟨v2, w2, hr2, h22, _⟩ := Lib.run_append_own_string (P := P) w w.heap.size t u ty e i ht hu hi hz hsize hby (.slice none 0 0) 0 [] (World.ownsRow_nil w _ _ _) s h63 hbytes (Nat.le_refl _)
    rw [hr2] at hr
    injection hr with e1 e2
    subst e1
    intro g hg
    rcases h22.2 with ⟨rfl, _⟩ | ⟨g', cap, cur, rfl, hb, _⟩
    · cases hg
    · simp only [Value.ownBlock, Option.some.injEq] at hg
      subst hg
      exact Or.inr hb
  · by_cases hroom : n + s.size ≤ cap
    · have hcs' : cur.size = cap := by simpa using hcs
      rw [Lib.run_append_room_string (P := P) w t u ty e i ht hu hi hsize g n cap cur hg s hroom (by omega)] at hr
      injection hr with e1 e2
      subst e1
      exact fun x hx => Or.inl hx
    · have hl63 : ((n + s.size : Nat) : Int) ≤ 9223372036854775807 := by omega
      rw [Lib.run_append_grow_string (P := P) w t u ty e i (.int .u8 0) ht hu hi hz ⟨g, 0, none⟩ n cap xs (by rw [hsize]; simpa using hn) (hown.cells (g := g) rfl) s (by omega) hl63 (by rw [hby]; exact growslice_fits (by omega) (by omega))] at hr
      injection hr with e1 e2
      subst e1
      intro x hx
      simp only [Value.ownBlock, Option.some.injEq] at hx
      exact Or.inr (by omega)
theorem wpList_text_lies {P : Program} {ops : Array Oper} {rest : List Oper} {o : Oper} {a : Act} {Q : Exit → Act → World → Prop} (w : World) (hgd : o.guard = none) (sl x : Operand) (t u : TypeId)
    (ho : o.op = .call { callee := .builtin .append, args := #[sl, x], argTypes := #[t, u] })
    (base : Nat) (e : TypeId) (i : TypeInfo) (ht : P.underlying t = some (.slice e)) (hu : P.underlying u = some .string) (hi : P.info? e = some i) (hz : i.zero = some (.int .u8 0)) (hsize : i.size = 1) (hby : i.bytes = 1)
    (v : Value) (n : Nat) (xs : List Value) (hs : a.eval sl = v) (hown : w.ownsRow base e 1 v n xs) (s : ByteArray) (hx : a.eval x = .string s)
    (h63 : n + s.size ≤ maxLen) (hbytes : n + s.size ≤ 140737488355328) (hbase : base ≤ w.heap.size)
    (h : ∀ v' w', w'.ownsRow base e 1 v' (n + s.size) (xs ++ Lib.strCells s) → w.grownBy w' v.ownBlock → (∀ g, v'.ownBlock = some g → v.ownBlock = some g ∨ w.heap.size ≤ g) → wpList P ops Q rest (a.put o.dst v') w') : wpList P ops Q (o :: rest) a w := by
  refine wpList_plain hgd fun K hK => ?_
  obtain ⟨v', w', hr, h2, h3, h4⟩ := run_text_lies (P := P) w base t u o.type e i ht hu hi hz hsize hby v n xs hown s h63 hbytes hbase
  unfold Oper.wp execOp
  simp only [ho, resolve, invoke, builtin, Sem.run_bind, Sem.run_pure, Result.andThen_ok, List.map_toArray, List.map_cons, List.map_nil, hs, hx, hr]
  exact hK _ _ (h v' w' h2 h3 h4)
/-- What the writers leave: the Builder's slice grown, and put into its cell. -/
theorem BSet.put {S : Nat → Prop} {B b : Nat} {l l' : List UInt8} {w w2 : World} {v v' : Value} {n : Nat} (h : BSet S B b l w) (hbk : w.heap[b]? = some (.cells #[.pointer (some ⟨b, 0, none⟩), v] 45 (0, 0))) (hown : w2.ownsRow B 5 1 v' n (Lib.byteCells l')) (hn : n = l'.length) (hne : v.ownBlock ≠ some b) (hv : ∀ g, v.ownBlock = some g → ¬ S g)
    (hk : ∀ k, k < w.heap.size → some k ≠ v.ownBlock → w2.heap[k]? = w.heap[k]?) (hsz : w.heap.size ≤ w2.heap.size) (hat : ∀ g, v'.ownBlock = some g → v.ownBlock = some g ∨ w.heap.size ≤ g) :
    BSet S B b l' (w2.setCell ⟨b, 1, none⟩ v') ∧ Kept S w (w2.setCell ⟨b, 1, none⟩ v') := by
  subst hn
  have hblt := h.blt
  have hb2 : w2.heap[b]? = some (.cells #[.pointer (some ⟨b, 0, none⟩), v] 45 (0, 0)) := by rw [hk b hblt (fun e => hne e.symm)]; exact hbk
  have hne' : v'.ownBlock ≠ some b := by
    intro e
    rcases hat b e with h' | h'
    · exact hne h'
    · omega
  refine ⟨⟨⟨v', ?_, own_keep hown (fun g hg _ => Below.heap_setCell _ _ _ _ (fun e => hne' (by rw [hg, e]))), hne', ?_⟩, h.base, h.self, ?_⟩, ?_⟩
  · simp [World.setCell, Array.getElem?_modify, hb2]
  · intro g hg hs
    rcases hat g hg with h' | h'
    · exact hv g h' hs
    · have := h.lt g hs; omega
  · intro k hs
    have := h.lt k hs
    simp [World.setCell]
    omega
  · intro k hs
    have hkl := h.lt k hs
    rw [Below.heap_setCell _ _ _ _ (fun e => h.self (by rw [show b = k from e.symm]; exact hs)), hk k hkl (fun e => hv k e.symm hs)]

set_option maxHeartbeats 2000000 in
set_option maxRecDepth 100000 in
theorem text_any (S : Nat → Prop) (B b : Nat) (l : List UInt8) (s : ByteArray) (w : World) (h : BSet S B b l w) (hlen : l.length + s.size ≤ 140737488355328) :
    Calls Tryd.prog 35 #[.pointer (some ⟨b, 0, none⟩), .string s] w fun e w' => e = .returned (.tuple #[.int .i64 s.size, .nilIface]) ∧ BSet S B b (l ++ s.data.toList) w' ∧ Kept S w w' ∧ Below B w w' := by
  obtain ⟨i0, hi, hz0, hz1, hz2⟩ := info_parts Kit.info5
  have hblt := h.blt
  have hB := h.base
  obtain ⟨v, hbk, hown, hne, hv⟩ := h.at_
  have HP := Lib.hid (fun (l' : List UInt8) (n : Nat) (v' : Value) (w2 : World) (a1 : w2.ownsRow B 5 1 v' n (Lib.byteCells l')) a2 a3 a4 a5 => h.put hbk a1 a2 hne hv a3 a4 a5)
  have c0 : w.cell? ⟨b, 0, none⟩ = some (.pointer (some ⟨b, 0, none⟩)) := by rw [Lib.cell_of_heap hbk]; rfl
  have c1 : w.cell? ⟨b, 1, none⟩ = some v := by rw [Lib.cell_of_heap hbk]; rfl
  have hused := Any.Builder_copyCheck_used Tryd.lays240 Tryd.Builder_X72_240 b w c0
  clear h
  go_enter Tryd.func35, Tryd.ntmps35
  go_wp2_with fail
  refine hused.mono ?_
  rintro e w1 ⟨rfl, rfl⟩
  go_wp2_with (at_builtin; refine wpList_text_lies _ rfl _ _ 40 9 rfl B 5 i0 Tryd.underlying40 Tryd.underlying9 hi hz0 hz1 hz2 v l.length _ rfl hown s rfl ?c3 ?c4 ?c5 ?_)
  case c3 => unfold maxLen; omega
  case c4 => omega
  case c5 => omega
  intro v' w2 hown' hgrow hat
  obtain ⟨h1, h2⟩ := HP.out (l ++ s.data.toList) (l.length + s.size) v' w2 (by rw [← str_cells]; exact hown') (by rw [List.length_append, Lib.size_eq]) (fun k hk hn => hgrow.block k hk hn) hgrow.size hat
  have hbel : Below B w1 (w2.setCell ⟨b, 1, none⟩ v') := ((Below.refl B w1).grown hgrow (by omega) (fun k hk => (hown.lt k hk).1)).setCell (p := ⟨b, 1, none⟩) hB _
  have hb2 : w2.heap[b]? = some (.cells #[.pointer (some ⟨b, 0, none⟩), v] 45 (0, 0)) := by
    rw [hgrow.block b hblt (fun e => hne e.symm)]
    exact hbk
  have d0 : w2.cell? ⟨b, 0, none⟩ = some (.pointer (some ⟨b, 0, none⟩)) := by rw [Lib.cell_of_heap hb2]; rfl
  have d1 : w2.cell? ⟨b, 1, none⟩ = some v := by rw [Lib.cell_of_heap hb2]; rfl
  have f1 : w2.frozen? ⟨b, 1, none⟩ = false := Lib.frozen_of_heap hb2 1
  obtain ⟨ao, n', cap, rfl⟩ : ∃ ao n' cap, v' = .slice ao n' cap := by
    rcases hown'.2 with ⟨hv, _⟩ | ⟨g, cap, cur, hv, _⟩
    · exact ⟨_, _, _, hv⟩
    · exact ⟨_, _, _, hv⟩
  go_wp2
  go_ret2
  exact ⟨rfl, h1, h2, hbel⟩
end Go.Proofs.YtbjngdlkamdmdaaDoor.Bld
