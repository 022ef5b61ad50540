/-
  The reader of the document's answer for package json: what stands in memory while an array, an object is read; what the reading comes to from there on. Conditions: none.
-/
import Derived.Test.YtpnffmimpkimeaaJ7Word
import Derived.Test.YtpnffmimpkimeaaJ7RTx
namespace Go.Proofs.Ytpnffmimpkimeaa.J7
open Go Go.RowKit Go.Joins Kit

/-- Where a reader stands, from place q on: the rest of the text, or its error. -/
def St (R : Nat) (s : ByteArray) (d : Int) (q : Nat) (o : Except Nat (List UInt8)) (w : World) : Prop := match o with
  | .ok r => ∃ k : Nat, q ≤ k ∧ k ≤ s.size ∧ r = tail s k ∧ Rd R s (k : Int) d 0 w
  | .error c => c ≠ 0 ∧ ∃ k : Nat, k ≤ s.size ∧ Rd R s (k : Int) d (c : Int) w
/-- The result's variable G0, the value's G1, its keys and kids, in blocks from B on. -/
structure Ls (R : Nat) (w0 : World) (B G0 G1 : Nat) (kd : Int) (keys : List ByteArray) (kids : List J) (kv v : Value) (w : World) : Prop where
  o1 : R < w0.heap.size
  o2 : w0.heap.size ≤ G0
  o3 : G0 < G1
  o4 : G1 < B
  st : Step R w0 w
  le : B ≤ w.heap.size
  b0 : Bx G0 (.int .i64 0) (.int .i64 0) (.string { data := #[] }) (.slice none 0 0) (.slice none 0 0) w
  b1 : Bx G1 (.int .i64 kd) (.int .i64 0) (.string { data := #[] }) kv v w
  ky : w.ownsRow B 9 1 kv keys.length (strs keys)
  kd : Kids B kv.ownBlock v kids w
namespace Ls
variable {R : Nat} {w0 w w' : World} {B G0 G1 : Nat} {kd : Int} {keys : List ByteArray} {kids : List J} {kv v : Value}
theorem step (h : Ls R w0 B G0 G1 kd keys kids kv v w) (hs : Step R w w') : Ls R w0 B G0 G1 kd keys kids kv v w' := by
  have := h.o1; have := h.o2; have := h.o3; have := h.o4
  exact ⟨h.o1, h.o2, h.o3, h.o4, h.st.trans hs, Nat.le_trans h.le hs.size, h.b0.keep hs (by omega), h.b1.keep hs (by omega), own_keep5 h.ky (fun g hg hl => hs.block g hl (by have := (h.ky.lt g hg).1; omega)), h.kd.same (fun g hg hl => hs.block g hl (by omega))⟩
theorem kv_lt (h : Ls R w0 B G0 G1 kd keys kids kv v w) : ∀ g, kv.ownBlock = some g → g < w.heap.size := fun g hg => (h.ky.lt g hg).2
theorem v_lt (h : Ls R w0 B G0 G1 kd keys kids kv v w) : ∀ g, v.ownBlock = some g → g < w.heap.size := fun g hg => ((h.kd.choose_spec.1).lt g hg).2
/-- Behind the append of a kid, in a world with one block more, and its store. -/
theorem kid (h : Ls R w0 B G0 G1 kd keys kids kv v w) {o : Obj} {j : J} {g c : Nat} {w5 : World} (hk : Kids B kv.ownBlock (.slice (some ⟨g, 0, none⟩) (kids.length + 1) c) (kids ++ [j]) w5) (hg : (w.alloc o).grownBy w5 v.ownBlock) :
    Ls R w0 B G0 G1 kd keys (kids ++ [j]) kv (.slice (some ⟨g, 0, none⟩) (kids.length + 1) c) (w5.setCell ⟨G1, 4, none⟩ (.slice (some ⟨g, 0, none⟩) (kids.length + 1) c)) ∧ Bx G1 (.int .i64 kd) (.int .i64 0) (.string { data := #[] }) kv v w5 ∧
      (∀ (s : ByteArray) (i d e : Int), Rd R s i d e w → Rd R s i d e (w5.setCell ⟨G1, 4, none⟩ (.slice (some ⟨g, 0, none⟩) (kids.length + 1) c))) := by
  have a1 := h.o1; have a2 := h.o2; have a3 := h.o3; have a4 := h.o4; have a5 := h.le; have a6 := h.st.size
  have hne : ∀ k, k < B → v.ownBlock ≠ some k := fun k hk e => by have := ((h.kd.choose_spec.1).lt k e).1; omega
  have hold : ∀ k, k < w.heap.size → v.ownBlock ≠ some k → w5.heap[k]? = w.heap[k]? := fun k hk hn => (hg.block k (by simp; omega) (fun e => hn e.symm)).trans (Below.heap_alloc w o k hk)
  have hsz : w.heap.size + 1 ≤ w5.heap.size := by have := hg.size; simpa using this
  have hset : ∀ k, k ≠ G1 → (w5.setCell ⟨G1, 4, none⟩ (.slice (some ⟨g, 0, none⟩) (kids.length + 1) c)).heap[k]? = w5.heap[k]? := fun k hk => Below.heap_setCell _ _ _ _ hk
  have hb1 := h.b1.same (hold G1 h.b1.lt (hne G1 a4))
  refine ⟨⟨a1, a2, a3, a4, ?_, by simp [World.setCell]; omega, (h.b0.same (hold G0 h.b0.lt (hne G0 (by omega)))).same (hset G0 (by omega)), hb1.set4 _, ?_, hk.same (fun k hk hl => hset k (by omega))⟩, hb1, fun s i d e hr => ⟨by rw [hset R (by omega), hold R hr.lt (hne R (by omega))]; exact hr.blk⟩⟩
  · exact Step.setNew ⟨hg.os.trans h.st.os, hg.tape.trans h.st.tape, hg.output.trans h.st.output, by omega, fun k hk hn => (hold k (by omega) (hne k (by omega))).trans (h.st.block k hk hn)⟩ (by omega) _ _
  · refine own_keep5 (own_keep5 h.ky (fun k hk hl => hold k hl (own_ne h.ky (h.kd.choose_spec.1) (by decide) hk))) (fun k hk hl => hset k (by have := (h.ky.lt k hk).1; omega))
/-- Behind the append of a key. -/
theorem key (h : Ls R w0 B G0 G1 kd keys kids kv v w) {o : Obj} {kb : ByteArray} {g c : Nat} {w5 : World} (hk : w5.ownsRow B 9 1 (.slice (some ⟨g, 0, none⟩) (keys.length + 1) c) (keys ++ [kb]).length (strs (keys ++ [kb]))) (hg : (w.alloc o).grownBy w5 kv.ownBlock)
    (hat : kv.ownBlock = some g ∨ g = (w.alloc o).heap.size) :
    Ls R w0 B G0 G1 kd (keys ++ [kb]) kids (.slice (some ⟨g, 0, none⟩) (keys.length + 1) c) v (w5.setCell ⟨G1, 3, none⟩ (.slice (some ⟨g, 0, none⟩) (keys.length + 1) c)) ∧ Bx G1 (.int .i64 kd) (.int .i64 0) (.string { data := #[] }) kv v w5 ∧
      (∀ (s : ByteArray) (i d e : Int), Rd R s i d e w → Rd R s i d e (w5.setCell ⟨G1, 3, none⟩ (.slice (some ⟨g, 0, none⟩) (keys.length + 1) c))) := by
  have a1 := h.o1; have a2 := h.o2; have a3 := h.o3; have a4 := h.o4; have a5 := h.le; have a6 := h.st.size
  have hne : ∀ k, k < B → kv.ownBlock ≠ some k := fun k hk e => by have := (h.ky.lt k e).1; omega
  have hold : ∀ k, k < w.heap.size → kv.ownBlock ≠ some k → w5.heap[k]? = w.heap[k]? := fun k hk hn => (hg.block k (by simp; omega) (fun e => hn e.symm)).trans (Below.heap_alloc w o k hk)
  have hsz : w.heap.size + 1 ≤ w5.heap.size := by have := hg.size; simpa using this
  have hset : ∀ k, k ≠ G1 → (w5.setCell ⟨G1, 3, none⟩ (.slice (some ⟨g, 0, none⟩) (keys.length + 1) c)).heap[k]? = w5.heap[k]? := fun k hk => Below.heap_setCell _ _ _ _ hk
  have hb1 := h.b1.same (hold G1 h.b1.lt (hne G1 a4))
  have hkd5 : Kids B (some g) v kids w5 := (h.kd.same (w' := w.alloc o) (fun k hk hl => Below.heap_alloc w _ k hl)).beside hg (fun k hk => own_ne (h.kd.choose_spec.1) h.ky (by decide) hk) (fun k e => by have e' : g = k := Option.some.inj e; subst e'; exact hat)
  refine ⟨⟨a1, a2, a3, a4, ?_, by simp [World.setCell]; omega, (h.b0.same (hold G0 h.b0.lt (hne G0 (by omega)))).same (hset G0 (by omega)), hb1.set3 _, ?_, hkd5.same (fun k hk hl => hset k (by omega))⟩, hb1, fun s i d e hr => ⟨by rw [hset R (by omega), hold R hr.lt (hne R (by omega))]; exact hr.blk⟩⟩
  · exact Step.setNew ⟨hg.os.trans h.st.os, hg.tape.trans h.st.tape, hg.output.trans h.st.output, by omega, fun k hk hn => (hold k (by omega) (hne k (by omega))).trans (h.st.block k hk hn)⟩ (by omega) _ _
  · exact own_keep5 hk (fun k hk' hl => hset k (by have := (hk.lt k hk').1; omega))
/-- What is handed back. -/
theorem done (h : Ls R w0 B G0 G1 kd keys kids kv v w) : Step R w0 (putN w G0 (.int .i64 kd) (.int .i64 0) (.string { data := #[] }) kv v) ∧
    NodeAt (fun g => w0.heap.size ≤ g) (putN w G0 (.int .i64 kd) (.int .i64 0) (.string { data := #[] }) kv v) (.mk kd 0 ⟨#[]⟩ keys kids) (.agg #[.int .i64 kd, .int .i64 0, .string ⟨#[]⟩, kv, v]) ∧
    (∀ (s : ByteArray) (i d e : Int), Rd R s i d e w → Rd R s i d e (putN w G0 (.int .i64 kd) (.int .i64 0) (.string { data := #[] }) kv v)) := by
  have a1 := h.o1; have a2 := h.o2; have a3 := h.o3; have a4 := h.o4
  have hn : NodeAt (fun g => B ≤ g) w (.mk kd 0 ⟨#[]⟩ keys kids) (.agg #[.int .i64 kd, .int .i64 0, .string ⟨#[]⟩, kv, v]) := by
    rw [NodeAt]
    obtain ⟨cs, h1, h2⟩ := h.kd.read (fun g => B ≤ g) (fun g hg => hg)
    exact ⟨kv, v, rfl, cells_own h.ky (fun g hg => hg), cs, h1, h2⟩
  exact ⟨putN_step h.st (by omega) _ _ _ _ _, hn.keep (fun g hg hl => ⟨by have hg : B ≤ g := hg; show w0.heap.size ≤ g; omega, putN_block w G0 _ _ _ _ _ g (by have hg : B ≤ g := hg; omega)⟩), fun s i d e hr => ⟨(putN_block w G0 _ _ _ _ _ R (by omega)).trans hr.blk⟩⟩
end Ls
/-- append of a key. -/
theorem key_list {ops : Array Oper} {rest : List Oper} {o : Oper} {a : Act} {Q : Exit → Act → World → Prop} (hgd : o.guard = none) (sl x : Operand)
    (ho : o.op = .call { callee := .builtin .append, args := #[sl, x], argTypes := #[24, 24] })
    (B : Nat) (w : World) (v : Value) (keys : List ByteArray) (hown : w.ownsRow B 9 1 v keys.length (strs keys)) (kb : ByteArray)
    (b cap : Nat) (fr : Nat × Nat) (hblk : w.heap[b]? = some (.cells #[.string kb] 9 fr)) (hs : a.eval sl = v) (hx : a.eval x = .slice (some ⟨b, 0, none⟩) 1 cap) (hlen : keys.length ≤ 65536) (hsz : B ≤ w.heap.size)
    (h : ∀ g c w', w'.ownsRow B 9 1 (.slice (some ⟨g, 0, none⟩) (keys.length + 1) c) (keys ++ [kb]).length (strs (keys ++ [kb])) → w.grownBy w' v.ownBlock → (v.ownBlock = some g ∨ g = w.heap.size) → wpList Try.prog ops Q rest (a.put o.dst (.slice (some ⟨g, 0, none⟩) (keys.length + 1) c)) w') :
    wpList Try.prog ops Q (o :: rest) a w := by
  obtain ⟨i0, hi, hz0, hz1, hz2⟩ := info_parts infoS
  refine wpList_append_lies w hgd sl x 24 ho B 9 i0 _ 1 16 Try.underlying24 hi hz0 hz1 hz2 rfl (by decide) v keys.length (strs keys) hs hown ⟨b, 0, none⟩ 1 cap [.string kb] hx rfl ?_ ?_ (by decide) ?_ ?_ hsz w.heap.size rfl ?_
  · intro k u hk
    exact World.news_of_block hblk k u hk
  · intro u hu
    simp only [List.mem_cons, List.not_mem_nil, or_false] at hu
    subst hu
    rfl
  · unfold maxLen; omega
  · omega
  · intro g c w' ho' hg hat _
    refine h g c w' ?_ hg hat
    rw [List.length_append, List.length_singleton]
    unfold strs at ho' ⊢
    rw [List.map_append]
    exact ho'

/-! ### What the reading comes to -/
def onS (g : List UInt8 → Out J) : Except Nat (List UInt8) → Out J
  | .ok r => g r
  | .error c => .error c
def outS {α : Type} : Out α → Except Nat (List UInt8)
  | .ok (_, r) => .ok r
  | .error c => .error c
def endI (val : List UInt8 → Out J) (obj : Bool) (f : Nat) (ks : List ByteArray) (kids : List J) (l : List UInt8) : Out J := match eatL (endO obj) (skipL l) with
  | some r => .ok (listJ obj ks kids, r)
  | none => match eatL 44 (skipL l) with
    | some r => itemsG val obj f ks kids r
    | none => .error 3
def bodyI (val : List UInt8 → Out J) (obj : Bool) (f : Nat) (ks : List ByteArray) (kids : List J) (l : List UInt8) : Out J := match val l with
  | .error e => .error e
  | .ok (j, r) => endI val obj f ks (kids ++ [j]) r
theorem items_false (val : List UInt8 → Out J) (f : Nat) (keys : List ByteArray) (kids : List J) (l : List UInt8) : itemsG val false (f + 1) keys kids l = bodyI val false f keys kids l := by
  rw [itemsG]
  rfl
theorem items_true (val : List UInt8 → Out J) (f : Nat) (keys : List ByteArray) (kids : List J) (l : List UInt8) : itemsG val true (f + 1) keys kids l = match keyL keys l with
    | .error e => .error e
    | .ok (ks, l1) => bodyI val true f ks kids l1 := by
  rw [itemsG]
  rfl
theorem body_on (val : List UInt8 → Out J) (obj : Bool) (f : Nat) (ks : List ByteArray) (kids : List J) (st : Except Nat (List UInt8)) (j : J) (hj : ∀ k r, onS val st = .ok (k, r) → j = k) : onS (bodyI val obj f ks kids) st = onS (endI val obj f ks (kids ++ [j])) (outS (onS val st)) := by
  cases st with
  | error c => rfl
  | ok l =>
    show bodyI val obj f ks kids l = onS _ (outS (val l))
    unfold bodyI
    cases e : val l with
    | error c => rfl
    | ok x =>
      obtain ⟨k, r⟩ := x
      rw [hj k r e]
      rfl
theorem key_none {keys : List ByteArray} {l : List UInt8} (h : eatL 34 (skipL l) = none) : keyL keys l = .error 3 := by unfold keyL; rw [h]
theorem key_err {keys : List ByteArray} {l r : List UInt8} {e : Nat} (h : eatL 34 (skipL l) = some r) (ht : textL r = .error e) : keyL keys l = .error e := by unfold keyL; rw [h]; simp only; rw [ht]
theorem key_dup {keys : List ByteArray} {l r k r1 : List UInt8} (h : eatL 34 (skipL l) = some r) (ht : textL r = .ok (k, r1)) (hb : hasB keys k = true) : keyL keys l = .error 5 := by unfold keyL; rw [h]; simp only; rw [ht]; simp only; rw [hb, if_pos rfl]
theorem key_colon {keys : List ByteArray} {l r k r1 : List UInt8} (h : eatL 34 (skipL l) = some r) (ht : textL r = .ok (k, r1)) (hb : hasB keys k = false) : keyL keys l = colonL (keys ++ [⟨k.toArray⟩]) r1 := by unfold keyL; rw [h]; simp only; rw [ht]; simp only; rw [hb, if_neg (by decide)]
theorem colon_none {keys : List ByteArray} {l : List UInt8} (h : eatL 58 (skipL l) = none) : colonL keys l = .error 3 := by unfold colonL; rw [h]
theorem colon_some {keys : List ByteArray} {l r : List UInt8} (h : eatL 58 (skipL l) = some r) : colonL keys l = .ok (keys, r) := by unfold colonL; rw [h]
/-- Where the reader stands behind a value. -/
def Mo (R : Nat) (s : ByteArray) (d : Int) (o : Out J) (w : World) : Prop := match o with
  | .ok (_, r) => ∃ k : Nat, k ≤ s.size ∧ r = tail s k ∧ Rd R s (k : Int) d 0 w
  | .error c => c ≠ 0 ∧ ∃ k : Nat, k ≤ s.size ∧ Rd R s (k : Int) d (c : Int) w
/-- A value's reading, where its reader stands. -/
theorem Left.on {R : Nat} {s : ByteArray} {d : Int} {w w' : World} {o : Out J} {e' : Ending} (h : Left R s d w o e' w') : Step R w w' ∧ ∃ j c0 c1 c2 c3 c4, e' = .returned (.agg #[c0, c1, c2, c3, c4]) ∧ NodeAt (fun g => w.heap.size ≤ g) w' j (.agg #[c0, c1, c2, c3, c4]) ∧ (∀ k r, o = .ok (k, r) → j = k) ∧ Mo R s d o w' := by
  obtain ⟨hs, v, he, hm⟩ := h
  have hform : ∀ j, NodeAt (fun g => w.heap.size ≤ g) w' j v → ∃ c0 c1 c2 c3 c4, v = .agg #[c0, c1, c2, c3, c4] := fun j hj => by
    obtain ⟨k, n, t, kv, vv, rfl⟩ := hj.any
    exact ⟨_, _, _, _, _, rfl⟩
  cases o with
  | ok x =>
    obtain ⟨j, r⟩ := x
    obtain ⟨hn, hk⟩ := hm
    obtain ⟨c0, c1, c2, c3, c4, rfl⟩ := hform j hn
    exact ⟨hs, j, _, _, _, _, _, he, hn, fun k r h => by injection h with h; injection h, hk⟩
  | error c =>
    obtain ⟨⟨j, hn⟩, hk⟩ := hm
    obtain ⟨c0, c1, c2, c3, c4, rfl⟩ := hform j hn
    exact ⟨hs, j, _, _, _, _, _, he, hn, fun k r h => (by cases h), hk⟩
theorem St.map {R : Nat} {s : ByteArray} {d : Int} {q : Nat} {o : Except Nat (List UInt8)} {w w' : World} (h : St R s d q o w) (hm : ∀ i e : Int, Rd R s i d e w → Rd R s i d e w') : St R s d q o w' := by
  cases o with
  | ok r => obtain ⟨k, h1, h2, h3, h4⟩ := h; exact ⟨k, h1, h2, h3, hm _ _ h4⟩
  | error c => obtain ⟨h0, k, h2, h4⟩ := h; exact ⟨h0, k, h2, hm _ _ h4⟩
theorem st_out {R : Nat} {s : ByteArray} {d : Int} {q : Nat} {o : Out J} {w : World} (hm : Mo R s d o w) (hq : ∀ j k, k ≤ s.size → o = .ok (j, tail s k) → q ≤ k) : St R s d q (outS o) w := by
  cases o with
  | error c => exact hm
  | ok x =>
    obtain ⟨j, r⟩ := x
    obtain ⟨k, h1, h2, h3⟩ := hm
    exact ⟨k, hq j k h1 (by rw [h2]), h1, h2, h3⟩
theorem Ls.key_at {R : Nat} {w0 w : World} {B G0 G1 : Nat} {kd : Int} {keys : List ByteArray} {kids : List J} {kv v : Value} (h : Ls R w0 B G0 G1 kd keys kids kv v w) (i : Nat) (hi : i < keys.length) : ∃ g o cap, kv = .slice (some ⟨g, o, none⟩) keys.length cap ∧ w.cell? ⟨g, o + i, none⟩ = some (.string keys[i]) := by
  rcases cells_own (P := fun _ => True) h.ky (fun _ _ => trivial) with ⟨_, h2, _⟩ | ⟨g, o, cap, hv, hc⟩
  · omega
  · refine ⟨g, o, cap, hv, ?_⟩
    rw [(hc i (by unfold strs; rw [List.length_map]; exact hi)).2]
    unfold strs
    rw [List.getElem_map]
theorem has_new {keys : List ByteArray} {T : ByteArray} (h : ∀ z (hz : z < keys.length), keys[z] ≠ T) : hasB keys T.data.toList = false := by
  unfold hasB
  rw [List.any_eq_false]
  intro x hx e
  obtain ⟨z, hz, rfl⟩ := List.getElem_of_mem hx
  exact h z hz (bytes_ext (by simpa using e))
theorem has_old {keys : List ByteArray} {T : ByteArray} {z : Nat} (hz : z < keys.length) (h : keys[z] = T) : hasB keys T.data.toList = true := by
  unfold hasB
  rw [List.any_eq_true]
  exact ⟨keys[z], List.getElem_mem hz, by rw [h]; simp⟩
theorem text_eq {a b : ByteArray} (h : a = b) : (a.toList == b.toList) = true := by rw [h]; simp
theorem text_ne {a b : ByteArray} (h : a ≠ b) : (a.toList == b.toList) = false := by
  rw [beq_eq_false_iff_ne, Lib.toList_data, Lib.toList_data]
  exact fun e => h (bytes_ext e)
end Go.Proofs.Ytpnffmimpkimeaa.J7
