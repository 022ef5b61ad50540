/-
  append onto a row of bytes of the call's own that may bear the mark of a conversion ('append([]byte(s), b...)'): of a slice of bytes that stands anywhere, of nil, of a text. No law and no function of the project in this text. Conditions: none.
-/
import Derived.Test.YtkmopneeafbeaaaDoorKit
import Derived.Lib.AppendStr
import Derived.Lib.ConvBytes
import Derived.OwnWalk
namespace Go.Proofs.YtkmopneeafbeaaaDoor.Apm
open Go Go.RowKit Go.Joins

/-- Writing cells into a row of which no cell from there on is frozen. -/
theorem put_cells (P : Program) (g : Nat) (t : TypeId) (fz : Nat × Nat) : ∀ (vs : List Value) (k i : Nat) (cur : Array Value) (w : World), w.heap[g]? = some (.cells cur t fz) → (fz.2 = 0 ∨ cur.size ≤ fz.1) → k + i + vs.length ≤ cur.size → (∀ v ∈ vs, v.oneCell' = true) →
    ∃ cs : Array Value, (storeCells ⟨g, k, none⟩ vs i).run P w = .ok () (w.setRow g cs) ∧ cs.toList = cur.toList.take (k + i) ++ vs ++ cur.toList.drop (k + i + vs.length)
  | [], k, i, cur, w, hg, _, _, _ => ⟨cur, by rw [setRow_self w g cur t fz hg]; rfl, by simp⟩
  | v :: rest, k, i, cur, w, hg, hfz, hl, h1 => by
    have hl' : k + i + (rest.length + 1) ≤ cur.size := hl
    have hi : k + i < cur.size := by omega
    have e1 : (⟨g, k, none⟩ : Addr).add i = ⟨g, k + i, none⟩ := by simp [Addr.add]
    have e2 : w.cell? ⟨g, k + i, none⟩ = some cur[k + i] := by simp [World.cell?, hg, hi]
    have e3 : w.frozen? ⟨g, k + i, none⟩ = false := by
      obtain ⟨a, b⟩ := fz
      simp only at hfz
      simp only [World.frozen?, hg, Bool.and_eq_false_iff, decide_eq_false_iff_not]
      omega
    have e4 : (store ((⟨g, k, none⟩ : Addr).add i) v).run P w = .ok () (w.setRow g (cur.setIfInBounds (k + i) v)) := by
      rw [e1, run_store P w _ v _ (h1 v List.mem_cons_self), e2]
      simp [e3, setCell_eq_setRow w g (k + i) cur t fz v hg]
    obtain ⟨cs, r1, r2⟩ := put_cells P g t fz rest k (i + 1) (cur.setIfInBounds (k + i) v) (w.setRow g (cur.setIfInBounds (k + i) v)) (setRow_heap w g cur _ t _ hg) (by rw [Array.size_setIfInBounds]; exact hfz) (by rw [Array.size_setIfInBounds]; omega) fun x hx => h1 x (List.mem_cons_of_mem _ hx)
    refine ⟨cs, ?_, ?_⟩
    · simp only [storeCells, Sem.run_bind, e4, Result.andThen_ok, r1, setRow_setRow]
    · rw [r2, Array.toList_setIfInBounds]
      have := list_seg_step cur.toList (k + i) v rest (by rw [Array.length_toList]; omega)
      rw [List.length_cons, ← Nat.add_assoc k i 1, this]

/-- A slice of bytes of the call's own, its bytes; what bears a mark lies behind its row. -/
structure RowM (B : Nat) (w : World) (v : Value) (l : List UInt8) : Prop where
  ex : ∃ g cap cur fz, v = .slice (some ⟨g, 0, none⟩) l.length cap ∧ B ≤ g ∧ w.heap[g]? = some (.cells cur 5 fz) ∧ (fz.2 = 0 ∨ cur.size ≤ fz.1) ∧ cur.size = cap ∧ l.length ≤ cap ∧ cur.toList.take l.length = Lib.byteCells l
/-- What a slice of bytes anywhere reads as. -/
def At (w : World) (v : Value) (l : List UInt8) : Prop := (v = .slice none 0 0 ∧ l = []) ∨ ∃ ad cap, v = .slice (some ad) l.length cap ∧ ∀ j (h : j < l.length), w.cell? (ad.add j) = some (.int .u8 (l[j].toNat : Int))
theorem byteCells_get (l : List UInt8) (j : Nat) : (Lib.byteCells l)[j]? = l[j]?.map fun c => (.int .u8 (c.toNat : Int) : Value) := by
  unfold Lib.byteCells
  rw [List.getElem?_map]
namespace RowM
variable {B : Nat} {w : World} {v : Value} {l : List UInt8}
theorem cells (h : RowM B w v l) : At w v l := by
  obtain ⟨g, cap, cur, fz, rfl, hb, hg, hfz, hc, hl, ht⟩ := h.ex
  refine Or.inr ⟨_, cap, rfl, fun j hj => ?_⟩
  have e1 : (⟨g, 0, none⟩ : Addr).add j = ⟨g, j, none⟩ := by simp [Addr.add]; omega
  rw [e1, Lib.cell_of_heap hg, ← Array.getElem?_toList]
  have this : (cur.toList.take l.length)[j]? = (Lib.byteCells l)[j]? := by rw [ht]
  rw [List.getElem?_take, if_pos hj, byteCells_get, List.getElem?_eq_getElem hj] at this
  exact this
theorem lt (h : RowM B w v l) : ∀ k, v.ownBlock = some k → B ≤ k ∧ k < w.heap.size := by
  obtain ⟨g, cap, cur, fz, rfl, hb, hg, _⟩ := h.ex
  intro k hk
  simp [Value.ownBlock] at hk
  subst hk
  exact ⟨hb, (Array.getElem?_eq_some_iff.1 hg).1⟩
theorem below {w' : World} (h : RowM B w v l) (hb : Below w.heap.size w w') : RowM B w' v l := by
  obtain ⟨g, cap, cur, fz, rfl, hb1, hg, rest⟩ := h.ex
  exact ⟨_, _, _, _, rfl, hb1, by rw [hb.block g (Array.getElem?_eq_some_iff.1 hg).1]; exact hg, rest⟩
/-- The arm with room. -/
theorem room (h : RowM B w v l) (u ty : TypeId) (x : Value) (ns : List UInt8)
    (hap : ∀ (g cap : Nat), l.length + ns.length ≤ cap → ∀ W : World, (storeCells ⟨g, l.length, none⟩ (Lib.byteCells ns)).run Tryd.prog w = .ok () W → (Builtin.append_ #[37, u] ty #[.slice (some ⟨g, 0, none⟩) l.length cap, x]).run Tryd.prog w = .ok (.slice (some ⟨g, 0, none⟩) (l.length + ns.length) cap) W)
    (hcap : ∀ a n cap, v = .slice a n cap → l.length + ns.length ≤ cap) :
    ∃ v' w', (Builtin.append_ #[37, u] ty #[v, x]).run Tryd.prog w = .ok v' w' ∧ RowM B w' v' (l ++ ns) ∧ w.grownBy w' v.ownBlock := by
  obtain ⟨g, cap, cur, fz, rfl, hb, hg, hfz, hc, hl, ht⟩ := h.ex
  have hroom := hcap _ _ _ rfl
  have hbl : (Lib.byteCells ns).length = ns.length := Lib.byteCells_length ns
  obtain ⟨cs, r1, r2⟩ := put_cells Tryd.prog g 5 fz (Lib.byteCells ns) l.length 0 cur w hg hfz (by rw [hbl]; omega) (fun u hu => by
    unfold Lib.byteCells at hu
    obtain ⟨c, _, rfl⟩ := List.mem_map.1 hu
    rfl)
  have hsz : cs.size = cap := by
    have q : cs.toList.length = cap := by
      rw [r2, List.length_append, List.length_append, List.length_take, List.length_drop, hbl]
      have q0 : cur.toList.length = cur.size := Array.length_toList
      omega
    rw [Array.length_toList] at q
    exact q
  refine ⟨_, _, hap g cap hroom _ r1, ⟨g, cap, cs, fz, by rw [List.length_append], hb, setRow_heap w g cur cs _ _ hg, by rw [hsz, ← hc]; exact hfz, hsz, by rw [List.length_append]; exact hroom, ?_⟩, ⟨rfl, rfl, rfl, by simp, fun k _ hk => setRow_other w g k _ (fun e => hk (by simp [Value.ownBlock, e]))⟩⟩
  rw [r2, Nat.add_zero, ht, ← Lib.byteCells_append, ← Lib.byteCells_length, List.take_left]
/-- The arm without. -/
theorem grown (hB : B ≤ w.heap.size) (ns : List UInt8) (v' : Value) (w' : World) (zs : List Value) (cap : Nat) (hv : v' = .slice (some ⟨w.heap.size, 0, none⟩) (l.length + ns.length) cap) (hcap : l.length + ns.length ≤ cap)
    (hw : w' = w.drew.alloc (.cells ((Lib.byteCells l).toArray ++ (Lib.byteCells ns).toArray ++ zs.toArray) 5)) (hzs : zs.length = cap - (l.length + ns.length)) : RowM B w' v' (l ++ ns) ∧ w.grownBy w' v.ownBlock := by
  subst hv hw
  refine ⟨⟨w.heap.size, cap, _, (0, 0), by rw [List.length_append], hB, heap_alloc_new w.drew _, Or.inl rfl, ?_, by rw [List.length_append]; exact hcap, ?_⟩, ⟨rfl, rfl, rfl, by simp, fun k hk _ => heap_alloc_old w.drew _ hk⟩⟩
  · simp only [Array.size_append, List.size_toArray, Lib.byteCells_length, hzs]
    omega
  · simp only [Array.toList_append]
    rw [← Lib.byteCells_append, ← Lib.byteCells_length, List.take_left]
theorem app_some (h : RowM B w v l) (hB : B ≤ w.heap.size) (ty : TypeId) (ad : Addr) (c : Nat) (ns : List UInt8) (hns : ∀ j (hj : j < ns.length), w.cell? (ad.add j) = some (.int .u8 (ns[j].toNat : Int))) (hlen : l.length + ns.length ≤ 140737488355328) :
    ∃ v' w', (Builtin.append_ #[37, 37] ty #[v, .slice (some ad) ns.length c]).run Tryd.prog w = .ok v' w' ∧ RowM B w' v' (l ++ ns) ∧ w.grownBy w' v.ownBlock := by
  obtain ⟨i0, hi, hz0, hz1, hz2⟩ := info_parts Kit.info5
  have hnew : ∀ j u, (Lib.byteCells ns)[j]? = some u → w.cell? (ad.add j) = some u := fun j u hj => by
    rw [byteCells_get] at hj
    rcases Nat.lt_or_ge j ns.length with hlt | hge
    · rw [List.getElem?_eq_getElem hlt] at hj
      rw [hns j hlt]
      exact hj
    · rw [List.getElem?_eq_none hge] at hj
      cases hj
  have hnl : (Lib.byteCells ns).length = ns.length * i0.size := by rw [hz1, Lib.byteCells_length, Nat.mul_one]
  by_cases hroom : ∀ a n cap, v = .slice a n cap → l.length + ns.length ≤ cap
  · refine h.room 37 ty _ ns (fun g cap hr W hst => ?_) hroom
    have hf := run_firstCells_some (P := Tryd.prog) w i0.size ns.length ad ns.length c (Lib.byteCells ns) hnl hnew
    rw [hz1] at hf
    simp [Builtin.append_, run_underlying Tryd.underlying37, sizeOf, typeInfo, hi, hz1, Builtin.lenOf, hr, hf, Addr.add_lit, hst]
  · obtain ⟨g, cap, cur, fz, rfl, hb, hg, hfz, hc, hl, ht⟩ := h.ex
    have hroom : cap < l.length + ns.length := by
      rcases Nat.lt_or_ge cap (l.length + ns.length) with h | h
      · exact h
      · exact absurd (fun a n cap' e => by injection e with _ _ e; omega) hroom
    have hr := run_append_grow (P := Tryd.prog) w 37 ty 5 i0 (.int .u8 0) Tryd.underlying37 hi hz0 ⟨g, 0, none⟩ l.length cap (Lib.byteCells l) (by rw [hz1, Lib.byteCells_length, Nat.mul_one]) (fun j u hj => by
      have e1 : (⟨g, 0, none⟩ : Addr).add j = ⟨g, j, none⟩ := by simp [Addr.add]; omega
      rw [e1, Lib.cell_of_heap hg, ← Array.getElem?_toList]
      rw [← ht, List.getElem?_take] at hj
      split at hj
      · exact hj
      · cases hj) ad ns.length c (Lib.byteCells ns) hnl hnew hroom (by omega) (growslice_fits hroom (by rw [hz2]; omega))
    obtain ⟨q1, q2⟩ := grown (v := .slice (some ⟨g, 0, none⟩) l.length cap) (l := l) hB ns _ _ (Builtin.zeroCells (Value.int IntKind.u8 0).cells (grownCap w (l.length + ns.length) cap 5 - (l.length + ns.length))).toList _ rfl (grownCap_ge w (l.length + ns.length) cap 5) (by rw [Array.toArray_toList]) (by rw [Array.length_toList, size_zeroCells]; exact Nat.mul_one _)
    exact ⟨_, _, hr, q1, q2⟩
theorem app_nil (h : RowM B w v l) (ty : TypeId) : (Builtin.append_ #[37, 37] ty #[v, .slice none 0 0]).run Tryd.prog w = .ok v w := by
  obtain ⟨i0, hi, hz0, hz1, hz2⟩ := info_parts Kit.info5
  obtain ⟨g, cap, cur, fz, rfl, hb, hg, hfz, hc, hl, ht⟩ := h.ex
  simp [Builtin.append_, run_underlying Tryd.underlying37, sizeOf, typeInfo, hi, Builtin.lenOf, hl, Builtin.firstCells, storeCells]
theorem app_text (h : RowM B w v l) (hB : B ≤ w.heap.size) (ty : TypeId) (s : ByteArray) (hlen : l.length + s.size ≤ 140737488355328) :
    ∃ v' w', (Builtin.append_ #[37, 9] ty #[v, .string s]).run Tryd.prog w = .ok v' w' ∧ RowM B w' v' (l ++ s.data.toList) ∧ w.grownBy w' v.ownBlock := by
  obtain ⟨i0, hi, hz0, hz1, hz2⟩ := info_parts Kit.info5
  have hs : s.size = s.data.toList.length := Lib.size_eq s
  have hcs : Lib.strCells s = Lib.byteCells s.data.toList := rfl
  by_cases hroom : ∀ a n cap, v = .slice a n cap → l.length + s.data.toList.length ≤ cap
  · refine h.room 9 ty _ s.data.toList (fun g cap hr W hst => ?_) hroom
    have hf := Lib.run_firstCells_string (P := Tryd.prog) w 1 s
    rw [hcs] at hf
    rw [← hs] at hr
    rw [← hs]
    simp [Builtin.append_, run_underlying Tryd.underlying37, run_underlying Tryd.underlying9, sizeOf, typeInfo, hi, hz1, Builtin.lenOf, hr, hf, Addr.add_lit, hst]
  · obtain ⟨g, cap, cur, fz, rfl, hb, hg, hfz, hc, hl, ht⟩ := h.ex
    have hroom : cap < l.length + s.size := by
      rw [hs]
      rcases Nat.lt_or_ge cap (l.length + s.data.toList.length) with h | h
      · exact h
      · exact absurd (fun a n cap' e => by injection e with _ _ e; omega) hroom
    have hr := Lib.run_append_grow_string (P := Tryd.prog) w 37 9 ty 5 i0 (.int .u8 0) Tryd.underlying37 Tryd.underlying9 hi hz0 ⟨g, 0, none⟩ l.length cap (Lib.byteCells l) (by rw [hz1, Lib.byteCells_length, Nat.mul_one]) (fun j u hj => by
      have e1 : (⟨g, 0, none⟩ : Addr).add j = ⟨g, j, none⟩ := by simp [Addr.add]; omega
      rw [e1, Lib.cell_of_heap hg, ← Array.getElem?_toList]
      rw [← ht, List.getElem?_take] at hj
      split at hj
      · exact hj
      · cases hj) s hroom (by omega) (growslice_fits hroom (by rw [hz2]; omega))
    rw [hs, hcs] at hr
    obtain ⟨q1, q2⟩ := grown (v := .slice (some ⟨g, 0, none⟩) l.length cap) (l := l) hB s.data.toList _ _ (Builtin.zeroCells (Value.int IntKind.u8 0).cells (grownCap w (l.length + s.data.toList.length) cap 5 - (l.length + s.data.toList.length))).toList _ rfl (grownCap_ge w (l.length + s.data.toList.length) cap 5) (by rw [Array.toArray_toList]) (by rw [Array.length_toList, size_zeroCells]; exact Nat.mul_one _)
    exact ⟨_, _, hr, q1, q2⟩
/-- A slice of bytes that stands anywhere. -/
theorem app_at (h : RowM B w v l) (hB : B ≤ w.heap.size) (ty : TypeId) (x : Value) (ns : List UInt8) (hx : At w x ns) (hlen : l.length + ns.length ≤ 140737488355328) :
    ∃ v' w', (Builtin.append_ #[37, 37] ty #[v, x]).run Tryd.prog w = .ok v' w' ∧ RowM B w' v' (l ++ ns) ∧ w.grownBy w' v.ownBlock := by
  rcases hx with ⟨rfl, rfl⟩ | ⟨ad, c, rfl, hc⟩
  · exact ⟨v, w, h.app_nil ty, by rw [List.append_nil]; exact h, ⟨rfl, rfl, rfl, Nat.le_refl _, fun _ _ _ => rfl⟩⟩
  · exact h.app_some hB ty ad c ns hc hlen
end RowM
/-- '[]byte(s)'. -/
theorem rowM_conv (s : ByteArray) (w : World) : ∃ v w', (convert 9 37 (.string s)).run Tryd.prog w = .ok v w' ∧ RowM w.heap.size w' v s.data.toList ∧ Below w.heap.size w w' := by
  refine ⟨_, _, Lib.run_convert_string_bytes (P := Tryd.prog) w 9 37 5 s Tryd.underlying9 Tryd.underlying37 Tryd.underlying5, ?_, ⟨rfl, rfl, rfl, by rw [Lib.bytesWorld_size]; omega, fun k hk => Lib.bytesWorld_at_old w 5 s k hk⟩⟩
  have hge := grownCap_ge w s.size 0 5
  have hsz : (Lib.bytesCells w 5 s).size = grownCap w s.size 0 5 := by
    unfold Lib.bytesCells
    rw [Array.size_append, Array.size_map, Array.size_replicate]
    show s.size + _ = _
    omega
  refine ⟨w.heap.size, _, _, _, by rw [Lib.size_eq], Nat.le_refl _, Lib.bytesWorld_at_new w 5 s, Or.inr (Nat.le_refl _), hsz, by rw [← Lib.size_eq]; exact hge, ?_⟩
  unfold Lib.bytesCells Lib.byteCells
  rw [Array.toList_append, Array.toList_map]
  rw [show s.data.toList.length = (s.data.toList.map fun b => Value.int .u8 b.toNat).length by rw [List.length_map], List.take_left]
/-- A literal without bytes. -/
theorem rowM_empty (w : World) : RowM w.heap.size (w.alloc (.cells #[] 5)) (.slice (some ⟨w.heap.size, 0, none⟩) 0 0) [] :=
  ⟨w.heap.size, 0, #[], (0, 0), rfl, Nat.le_refl _, by show (w.heap.push _)[w.heap.size]? = _; simp, Or.inl rfl, rfl, Nat.le_refl _, rfl⟩
/-- A slice of the call's own, its bytes; what was there when W0 stood is as it was. -/
structure BufM (W0 : World) (v : Value) (l : List UInt8) (w : World) : Prop where
  own : RowM W0.heap.size w v l
  below : Below W0.heap.size W0 w
namespace BufM
variable {W0 w : World} {v : Value} {l : List UInt8}
theorem next {w' : World} (h : BufM W0 v l w) (hb : Below w.heap.size w w') : BufM W0 v l w' := ⟨h.own.below hb, h.below.trans (hb.mono h.below.size)⟩
theorem step {ops : Array Oper} {rest : List Oper} {o : Oper} {a : Act} {Q : Exit → Act → World → Prop} (hgd : o.guard = none) (s x : Operand)
    (ho : o.op = .call { callee := .builtin .append, args := #[s, x], argTypes := #[37, 37] })
    (h : BufM W0 v l w) (xv : Value) (ns : List UInt8) (hx : At w xv ns) (hs : a.eval s = v) (hxe : a.eval x = xv) (hlen : l.length + ns.length ≤ 140737488355328)
    (hk : ∀ v' w', BufM W0 v' (l ++ ns) w' → wpList Tryd.prog ops Q rest (a.put o.dst v') w') : wpList Tryd.prog ops Q (o :: rest) a w := by
  refine wpList_plain hgd fun K hK => ?_
  obtain ⟨v', w', hr, h2, h3⟩ := h.own.app_at h.below.size o.type xv ns hx hlen
  unfold Oper.wp execOp
  simp only [ho, resolve, invoke, builtin, Sem.run_bind, Sem.run_pure, Result.andThen_ok, List.map_toArray, List.map_cons, List.map_nil, hs, hxe, hr]
  exact hK _ _ (hk v' w' ⟨h2, h.below.grown h3 h.below.size fun j hj => (h.own.lt j hj).1⟩)
theorem step_text {ops : Array Oper} {rest : List Oper} {o : Oper} {a : Act} {Q : Exit → Act → World → Prop} (hgd : o.guard = none) (s x : Operand)
    (ho : o.op = .call { callee := .builtin .append, args := #[s, x], argTypes := #[37, 9] })
    (h : BufM W0 v l w) (t : ByteArray) (hs : a.eval s = v) (hxe : a.eval x = .string t) (hlen : l.length + t.size ≤ 140737488355328)
    (hk : ∀ v' w', BufM W0 v' (l ++ t.data.toList) w' → wpList Tryd.prog ops Q rest (a.put o.dst v') w') : wpList Tryd.prog ops Q (o :: rest) a w := by
  refine wpList_plain hgd fun K hK => ?_
  obtain ⟨v', w', hr, h2, h3⟩ := h.own.app_text h.below.size o.type t hlen
  unfold Oper.wp execOp
  simp only [ho, resolve, invoke, builtin, Sem.run_bind, Sem.run_pure, Result.andThen_ok, List.map_toArray, List.map_cons, List.map_nil, hs, hxe, hr]
  exact hK _ _ (hk v' w' ⟨h2, h.below.grown h3 h.below.size fun j hj => (h.own.lt j hj).1⟩)
end BufM
end Go.Proofs.YtkmopneeafbeaaaDoor.Apm
