/-
  Rows of the call's own that may begin inside their block (a slice whose front was cut off): what they hold, an append, a store into one. No law and no function of the project in this text. Conditions: none.
-/
import Derived.Test.YtojjlbhodiphdaaLgPlain
import Derived.WalkKit
import Derived.Below
import Derived.ArgAppend
import Derived.Maps.AppendAt
namespace Go.Proofs.Ytojjlbhodiphdaa.Lg
open Go Go.RowKit

/-- n elements of type e, of so many cells each, which hold xs, in a block of the call's own. -/
def QAt (B : Nat) (e : TypeId) (size : Nat) (v : Value) (n : Nat) (xs : List Value) (w : World) : Prop :=
  xs.length = n * size ∧ ((v = .slice none 0 0 ∧ n = 0) ∨ ∃ g o cap cur, v = .slice (some ⟨g, o, none⟩) n cap ∧ B ≤ g ∧ w.heap[g]? = some (.cells cur e (0, 0)) ∧ o + cap * size ≤ cur.size ∧ n ≤ cap ∧ cap ≤ maxLen ∧
    ∀ j, j < n * size → cur[o + j]? = xs[j]?)
section
variable {B : Nat} {e : TypeId} {size : Nat} {v : Value} {n : Nat} {xs : List Value} {w : World}

theorem QAt.nil (B : Nat) (e : TypeId) (size : Nat) (w : World) : QAt B e size (.slice none 0 0) 0 [] w := ⟨by simp, Or.inl ⟨rfl, rfl⟩⟩
theorem QAt.of_row (h : w.ownsRow B e size v n xs) : QAt B e size v n xs w := by
  refine ⟨h.1, ?_⟩
  rcases h.2 with h0 | ⟨g, cap, cur, rfl, hb, hh, hc, hm, hs, ht⟩
  · exact Or.inl h0
  · refine Or.inr ⟨g, 0, cap, cur, rfl, hb, hh, by omega, hc, hm, fun j hj => ?_⟩
    rw [Nat.zero_add, ← ht, List.getElem?_take, if_pos hj, Array.getElem?_toList]
theorem QAt.mono (h : QAt B e size v n xs w) {B' : Nat} (hB : B' ≤ B) : QAt B' e size v n xs w :=
  ⟨h.1, h.2.imp id fun ⟨g, o, cap, cur, h1, h2, r⟩ => ⟨g, o, cap, cur, h1, Nat.le_trans hB h2, r⟩⟩
theorem QAt.keep (h : QAt B e size v n xs w) {w' : World} (hk : ∀ g, v.ownBlock = some g → g < w.heap.size → w'.heap[g]? = w.heap[g]?) : QAt B e size v n xs w' := by
  obtain ⟨h1, h2⟩ := h
  refine ⟨h1, ?_⟩
  rcases h2 with h2 | ⟨g, o, cap, cur, hv, hg, hh, r⟩
  · exact Or.inl h2
  · exact Or.inr ⟨g, o, cap, cur, hv, hg, by rw [hk g (by rw [hv]; rfl) (Array.getElem?_eq_some_iff.1 hh).1]; exact hh, r⟩
theorem QAt.below (h : QAt B e size v n xs w) {w' : World} (hb : Below w.heap.size w w') : QAt B e size v n xs w' := h.keep (fun g _ hl => hb.block g hl)
theorem QAt.drewAlloc (h : QAt B e size v n xs w) (o : Obj) : QAt B e size v n xs (w.drew.alloc o) := h.below (((Below.refl _ w).drew).alloc (Nat.le_refl _) o)
theorem QAt.alloc (h : QAt B e size v n xs w) (o : Obj) : QAt B e size v n xs (w.alloc o) := h.below ((Below.refl _ w).alloc (Nat.le_refl _) o)
theorem QAt.kept (h : QAt B e size v n xs w) {w' : World} {row : Option Nat} (hg : w.grownBy w' row) (hne : ∀ r, row = some r → v.ownBlock ≠ some r) : QAt B e size v n xs w' :=
  h.keep (fun g hv hl => hg.block g hl (fun e => hne g e.symm hv))
theorem QAt.block (h : QAt B e size v n xs w) {g : Nat} (hg : v.ownBlock = some g) : B ≤ g ∧ ∃ cur, w.heap[g]? = some (.cells cur e (0, 0)) := by
  rcases h.2 with ⟨rfl, _⟩ | ⟨g', o, cap, cur, rfl, hb, hh, _⟩
  · cases hg
  · simp only [Value.ownBlock, Option.some.injEq] at hg
    subst hg
    exact ⟨hb, cur, hh⟩
theorem QAt.lt (h : QAt B e size v n xs w) {g : Nat} (hg : v.ownBlock = some g) : g < w.heap.size := by
  obtain ⟨_, cur, hh⟩ := h.block hg
  exact (Array.getElem?_eq_some_iff.1 hh).1
theorem QAt.ne (h : QAt B e size v n xs w) {k : Nat} {o : Obj} (hk : w.heap[k]? = some o) (ho : ∀ cs, o ≠ .cells cs e (0, 0)) : v.ownBlock ≠ some k := fun e => by
  obtain ⟨_, cur, hh⟩ := h.block e
  rw [hk] at hh
  exact ho cur (Option.some.inj hh)
theorem QAt.form (h : QAt B e size v n xs w) : ∃ a cap, v = .slice a n cap := by
  rcases h.2 with ⟨rfl, h0⟩ | ⟨g, o, cap, cur, rfl, _⟩
  · exact ⟨none, 0, by rw [h0]⟩
  · exact ⟨_, _, rfl⟩
/-- Where there is an element, the slice is written out. -/
theorem QAt.at (h : QAt B e size v n xs w) (hn : 0 < n) : ∃ g o cap, v = .slice (some ⟨g, o, none⟩) n cap ∧ n ≤ cap ∧ cap ≤ maxLen ∧ (∀ j, j < n * size → w.cell? ⟨g, o + j, none⟩ = xs[j]?) ∧ (∀ j, w.frozen? ⟨g, o + j, none⟩ = false) := by
  rcases h.2 with ⟨rfl, h0⟩ | ⟨g, o, cap, cur, rfl, hb, hh, hs, hc, hm, hx⟩
  · omega
  · refine ⟨g, o, cap, rfl, hc, hm, fun j hj => ?_, fun j => frozen_of_row w g _ cur e hh⟩
    rw [cell_of_row w g _ cur e (0, 0) hh]
    exact hx j hj
theorem kind_setCells (g : Nat) : ∀ (vs : List Value) (o : Nat) (w : World) (cur : Array Value) (e : TypeId), w.heap[g]? = some (.cells cur e (0, 0)) → ∃ cur', (w.setCells g o vs).heap[g]? = some (.cells cur' e (0, 0)) ∧ cur'.size = cur.size
  | [], _, _, cur, _, h => ⟨cur, h, rfl⟩
  | v :: r, o, w, cur, e, h => by
    obtain ⟨c, h1, h2⟩ := kind_setCells g r (o + 1) _ _ e (heap_setCell_same w g o cur e v h)
    exact ⟨c, h1, by rw [h2, Array.size_setIfInBounds]⟩
theorem grown_setCells (g : Nat) : ∀ (vs : List Value) (o : Nat) (w : World), w.grownBy (w.setCells g o vs) (some g)
  | [], _, w => ⟨rfl, rfl, rfl, Nat.le_refl _, fun _ _ _ => rfl⟩
  | v :: r, o, w => by
    have h := grown_setCells g r (o + 1) (w.setCell ⟨g, o, none⟩ v)
    have hs : (w.setCell ⟨g, o, none⟩ v).heap.size = w.heap.size := by show (w.heap.modify g _).size = _; rw [Array.size_modify]
    refine ⟨h.os, h.tape, h.output, by rw [← hs]; exact h.size, fun k hk hne => ?_⟩
    exact (h.block k (by rw [hs]; exact hk) hne).trans (Below.heap_setCell _ _ _ k (fun e => hne (by rw [e])))
/-- The front is cut off. -/
theorem QAt.tail {g o m cap : Nat} (h : QAt B e size (.slice (some ⟨g, o, none⟩) (m + 1) cap) (m + 1) xs w) : QAt B e size (.slice (some ⟨g, o + size, none⟩) m (cap - 1)) m (xs.drop size) w := by
  refine ⟨by rw [List.length_drop, h.1, Nat.add_mul, Nat.one_mul, Nat.add_sub_cancel], ?_⟩
  rcases h.2 with ⟨h0, h1⟩ | ⟨g', o', cap', cur, hv, hb, hh, hs, hc, hm, hx⟩
  · omega
  · injection hv with e1 e2 e3
    injection e1 with e1
    injection e1 with e1 e4 e5
    subst e1 e4 e3
    obtain ⟨c, rfl⟩ : ∃ c, cap = c + 1 := ⟨cap - 1, by omega⟩
    rw [Nat.add_mul, Nat.one_mul] at hs
    refine Or.inr ⟨g, o + size, c + 1 - 1, cur, rfl, hb, hh, by rw [Nat.add_sub_cancel]; omega, by omega, by omega, fun j hj => ?_⟩
    rw [List.getElem?_drop, Nat.add_assoc, hx (size + j) (by rw [Nat.add_mul, Nat.one_mul]; omega)]
/-- append of m elements. -/
theorem run_append_q {P : Program} (t ty : TypeId) (i : TypeInfo) (z : Value) (bytes : Nat) (ht : P.underlying t = some (.slice e)) (hi : P.info? e = some i) (hz : i.zero = some z)
    (hsize : i.size = size) (hby : i.bytes = bytes) (hzs : z.cells.size = size) (hsz : 0 < size) (h : QAt B e size v n xs w)
    (ad : Addr) (m c : Nat) (news : List Value) (hm : 0 < m) (hl : news.length = m * size) (hnews : ∀ j u, news[j]? = some u → w.cell? (ad.add j) = some u) (h1 : ∀ u ∈ news, u.oneCell' = true)
    (h63 : n + m ≤ maxLen) (hbytes : (n + m) * bytes ≤ 140737488355328) (hB : B ≤ w.heap.size) :
    ∃ g o cap w', (Builtin.append_ #[t, t] ty #[v, .slice (some ad) m c]).run P w = .ok (.slice (some ⟨g, o, none⟩) (n + m) cap) w' ∧ QAt B e size (.slice (some ⟨g, o, none⟩) (n + m) cap) (n + m) (xs ++ news) w' ∧
      w.grownBy w' v.ownBlock ∧ (v.ownBlock = some g ∨ w.heap.size ≤ g) := by
  have hlen : (xs ++ news).length = (n + m) * size := by rw [List.length_append, h.1, hl, Nat.add_mul]
  rcases h.2 with ⟨rfl, rfl⟩ | ⟨g, o, cap, cur, rfl, hb, hh, hs, hc, hmx, hx⟩
  · obtain ⟨v', w', hr, h2, h3, h4, h5⟩ := run_append_own_at (P := P) w B t ty e i z size bytes ht hi hz hsize hby hzs hsz (.slice none 0 0) 0 [] (World.ownsRow_nil w B e size) ad m c news hl hnews h1 h63 hbytes hB
    have hxs : xs = [] := List.eq_nil_of_length_eq_zero (by simpa using h.1)
    subst hxs
    rcases h2.2 with ⟨_, h0⟩ | ⟨g, cap, cur, rfl, r⟩
    · omega
    · refine ⟨g, 0, cap, w', hr, QAt.of_row h2, h3, ?_⟩
      rcases h5 with h5 | h5
      · cases h5
      · simp only [Value.ownBlock, Option.some.injEq] at h5
        exact Or.inr (by omega)
  · have hcell : ∀ j, w.cell? ⟨g, o + j, none⟩ = cur[o + j]? := fun j => cell_of_row w g _ cur e (0, 0) hh
    by_cases hroom : n + m ≤ cap
    · have hmul : (n + m) * size ≤ cap * size := Nat.mul_le_mul_right _ hroom
      rw [Nat.add_mul] at hmul
      have hsome : ∀ j, j < news.length → (w.cell? ⟨g, o + n * size + j, none⟩).isSome = true := fun j hj => by
        rw [Nat.add_assoc, hcell, Array.getElem?_eq_getElem (by omega)]
        rfl
      have hr := run_append_room_cells (P := P) w t ty e i ht hi g o n cap ad m c news (by rw [hsize]; exact hl) hnews h1 hroom (by rw [hsize]; exact hsome) (fun j _ => frozen_of_row w g _ cur e hh)
      rw [hsize] at hr
      obtain ⟨cur', hh', hs'⟩ := kind_setCells g news (o + n * size) w cur e hh
      refine ⟨g, o, cap, _, hr, ⟨hlen, Or.inr ⟨g, o, cap, cur', rfl, hb, hh', by rw [hs']; exact hs, hroom, hmx, fun j hj => ?_⟩⟩, grown_setCells g news _ w, Or.inl rfl⟩
      rw [← cell_of_row _ g _ cur' e (0, 0) hh']
      by_cases hj2 : j < n * size
      · rw [World.cell?_setCells_out g news _ w ⟨g, o + j, none⟩ (fun _ _ => Or.inl (by show o + j < _; omega)), hcell, hx j hj2, List.getElem?_append_left (by rw [h.1]; exact hj2)]
      · have hj3 : j - n * size < news.length := by rw [Nat.add_mul] at hj; omega
        have := World.cell?_setCells_in g news (o + n * size) w hsome (j - n * size) hj3
        rw [show o + n * size + (j - n * size) = o + j by omega] at this
        rw [this, List.getElem?_append_right (by rw [h.1]; omega), h.1, List.getElem?_eq_getElem hj3]
    · obtain ⟨v', w', hr, h2, h3⟩ := run_append_arg_grows (P := P) w t ty e i z size bytes ht hi hz hsize hby hzs hsz ⟨g, o, none⟩ n cap xs h.1 (fun j u hu => by
          rw [show (⟨g, o, none⟩ : Addr).add j = ⟨g, o + j, none⟩ by rw [Addr.add_lit]]
          have hj : j < xs.length := (List.getElem?_eq_some_iff.1 hu).1
          rw [hcell, hx j (by rw [← h.1]; exact hj)]
          exact hu) ad m c news hl hnews (by omega) h63 hbytes
      rcases h2.2 with ⟨_, h0⟩ | ⟨g', cap', cur', rfl, hg', r⟩
      · omega
      · exact ⟨g', 0, cap', w', hr, (QAt.of_row h2).mono hB, ⟨h3.os, h3.tape, h3.output, h3.size, fun k hk _ => h3.block k hk (by simp)⟩, Or.inr hg'⟩
/-- append at the operation. -/
theorem wp_append_q {P : Program} {o : Oper} {a : Act} {K : Act → World → Prop} {Q : Exit → Act → World → Prop} (sl x : Operand) (t : TypeId)
    (ho : o.op = .call { callee := .builtin .append, args := #[sl, x], argTypes := #[t, t] }) (i : TypeInfo) (z : Value) (bytes : Nat) (ht : P.underlying t = some (.slice e)) (hi : P.info? e = some i) (hz : i.zero = some z)
    (hsize : i.size = size) (hby : i.bytes = bytes) (hzs : z.cells.size = size) (hsz : 0 < size) (hs : a.eval sl = v) (h : QAt B e size v n xs w)
    (ad : Addr) (m c : Nat) (news : List Value) (hx : a.eval x = .slice (some ad) m c) (hm : 0 < m) (hl : news.length = m * size) (hnews : ∀ j u, news[j]? = some u → w.cell? (ad.add j) = some u) (h1 : ∀ u ∈ news, u.oneCell' = true)
    (h63 : n + m ≤ maxLen) (hbytes : (n + m) * bytes ≤ 140737488355328) (hB : B ≤ w.heap.size)
    (k : ∀ g q cap w', QAt B e size (.slice (some ⟨g, q, none⟩) (n + m) cap) (n + m) (xs ++ news) w' → w.grownBy w' v.ownBlock → (v.ownBlock = some g ∨ w.heap.size ≤ g) → K (a.put o.dst (.slice (some ⟨g, q, none⟩) (n + m) cap)) w') : o.wp P a w K Q := by
  obtain ⟨g, q, cap, w', hr, h2, h3, h4⟩ := run_append_q (P := P) t o.type i z bytes ht hi hz hsize hby hzs hsz h ad m c news hm hl hnews h1 h63 hbytes hB
  unfold Oper.wp execOp
  simp only [ho, resolve, invoke, builtin, Sem.run_bind, Sem.run_pure, Result.andThen_ok, List.map_toArray, List.map_cons, List.map_nil, hs, hx, hr]
  exact k g q cap w' h2 h3 h4
theorem wpList_append_q {P : Program} {ops : Array Oper} {rest : List Oper} {o : Oper} {a : Act} {Q : Exit → Act → World → Prop} (hgd : o.guard = none) (sl x : Operand) (t : TypeId)
    (ho : o.op = .call { callee := .builtin .append, args := #[sl, x], argTypes := #[t, t] }) (i : TypeInfo) (z : Value) (bytes : Nat) (ht : P.underlying t = some (.slice e)) (hi : P.info? e = some i) (hz : i.zero = some z)
    (hsize : i.size = size) (hby : i.bytes = bytes) (hzs : z.cells.size = size) (hsz : 0 < size) (hs : a.eval sl = v) (h : QAt B e size v n xs w)
    (ad : Addr) (m c : Nat) (news : List Value) (hx : a.eval x = .slice (some ad) m c) (hm : 0 < m) (hl : news.length = m * size) (hnews : ∀ j u, news[j]? = some u → w.cell? (ad.add j) = some u) (h1 : ∀ u ∈ news, u.oneCell' = true)
    (h63 : n + m ≤ maxLen) (hbytes : (n + m) * bytes ≤ 140737488355328) (hB : B ≤ w.heap.size)
    (k : ∀ g q cap w', QAt B e size (.slice (some ⟨g, q, none⟩) (n + m) cap) (n + m) (xs ++ news) w' → w.grownBy w' v.ownBlock → (v.ownBlock = some g ∨ w.heap.size ≤ g) → wpList P ops Q rest (a.put o.dst (.slice (some ⟨g, q, none⟩) (n + m) cap)) w') :
    wpList P ops Q (o :: rest) a w :=
  wpList_plain hgd fun _ hK' => wp_append_q sl x t ho i z bytes ht hi hz hsize hby hzs hsz hs h ad m c news hx hm hl hnews h1 h63 hbytes hB (fun g q cap w' a1 a2 a3 => hK' _ _ (k g q cap w' a1 a2 a3))
/-- .. as a step of a region that draws. -/
theorem step_append_q {P : Program} {ops : Array Oper} {o : Oper} {a : Act} {K : Act → World → Prop} {Q : Exit → Act → World → Prop} {E : Prop} (hgd : o.guard = none) (sl x : Operand) (t : TypeId)
    (ho : o.op = .call { callee := .builtin .append, args := #[sl, x], argTypes := #[t, t] }) (i : TypeInfo) (z : Value) (bytes : Nat) (ht : P.underlying t = some (.slice e)) (hi : P.info? e = some i) (hz : i.zero = some z)
    (hsize : i.size = size) (hby : i.bytes = bytes) (hzs : z.cells.size = size) (hsz : 0 < size) (hs : a.eval sl = v) (h : QAt B e size v n xs w)
    (ad : Addr) (m c : Nat) (news : List Value) (hx : a.eval x = .slice (some ad) m c) (hm : 0 < m) (hl : news.length = m * size) (hnews : ∀ j u, news[j]? = some u → w.cell? (ad.add j) = some u) (h1 : ∀ u ∈ news, u.oneCell' = true)
    (h63 : n + m ≤ maxLen) (hbytes : (n + m) * bytes ≤ 140737488355328) (hB : B ≤ w.heap.size)
    (k : ∀ g q cap w', QAt B e size (.slice (some ⟨g, q, none⟩) (n + m) cap) (n + m) (xs ++ news) w' → w.grownBy w' v.ownBlock → (v.ownBlock = some g ∨ w.heap.size ≤ g) → K (a.put o.dst (.slice (some ⟨g, q, none⟩) (n + m) cap)) w') :
    if Region.wanted o (yielded ops a.tmps) = true then Oper.wp P o a w K Q else E := by
  have hw : Region.wanted o (yielded ops a.tmps) = true := by simp [Region.wanted, hgd]
  rw [if_pos hw]
  exact wp_append_q sl x t ho i z bytes ht hi hz hsize hby hzs hsz hs h ad m c news hx hm hl hnews h1 h63 hbytes hB k
/-- A store into a cell of the row. -/
theorem QAt.set (h : QAt B e size v n xs w) {g o cap : Nat} (hv : v = .slice (some ⟨g, o, none⟩) n cap) (j : Nat) (hj : j < n * size) (u : Value) : QAt B e size v n (xs.set j u) (w.setCell ⟨g, o + j, none⟩ u) := by
  refine ⟨by rw [List.length_set]; exact h.1, ?_⟩
  rcases h.2 with ⟨h0, h1⟩ | ⟨g', o', cap', cur, hv', hb, hh, hs, hc, hm, hx⟩
  · rw [h1, Nat.zero_mul] at hj
    omega
  · rw [hv] at hv'
    injection hv' with e1 e2 e3
    injection e1 with e1
    injection e1 with e1 e4 e5
    subst e1 e4 e3
    have hmul : n * size ≤ cap * size := Nat.mul_le_mul_right _ hc
    refine Or.inr ⟨g, o, cap, _, hv, hb, heap_setCell_same w g (o + j) cur e u hh, by rw [Array.size_setIfInBounds]; exact hs, hc, hm, fun k hk => ?_⟩
    rw [Array.getElem?_setIfInBounds, List.getElem?_set]
    by_cases e : j = k
    · subst e
      rw [if_pos rfl, if_pos rfl, if_pos (by omega), if_pos (by rw [h.1]; exact hj)]
    · rw [if_neg (by omega), if_neg e, hx k hk]
end
end Go.Proofs.Ytojjlbhodiphdaa.Lg
