/-
  What the program's read keeps in memory: the boxes of what it was handed, the part that it makes; how parts are counted. No law in this text. Conditions: none.
-/
import Derived.Test.YtnnbbjdidbggmaaGreatDoorPtBx
import Derived.Test.YtnnbbjdidbggmaaGreatDoorPtSizes
namespace Go.Proofs.YtnnbbjdidbggmaaGreatDoor.Pt
open Go Go.RowKit Go.Joins Kit F0

/-- The kids so far, ks, m counted; whatever is still to come. -/
def Fd (rd : Nat → Nat → Nat → P × Nat) (n : Nat) (pre : List (Nat × Nat)) (ks : List P) (m : Nat) : Prop := ∀ rest, foldK rd (pre ++ rest) n = (ks ++ (foldK rd rest m).1, (foldK rd rest m).2)
theorem Fd.start (rd : Nat → Nat → Nat → P × Nat) (n : Nat) : Fd rd n [] [] n := fun rest => by simp
theorem Fd.next {rd : Nat → Nat → Nat → P × Nat} {n m : Nat} {pre : List (Nat × Nat)} {ks : List P} (h : Fd rd n pre ks m) (x : Nat × Nat) (hm : m < 30) : Fd rd n (pre ++ [x]) (ks ++ [(rd x.1 x.2 (m + 1)).1]) (rd x.1 x.2 (m + 1)).2 := fun rest => by
  have h1 := h (x :: rest)
  rw [List.append_assoc, List.singleton_append, h1]
  obtain ⟨f, e⟩ := x
  rw [foldK, if_pos hm]
  simp
theorem Fd.stop {rd : Nat → Nat → Nat → P × Nat} {n m : Nat} {pre : List (Nat × Nat)} {ks : List P} (h : Fd rd n pre ks m) (x : Nat × Nat) (hm : ¬ m < 30) (rest : List (Nat × Nat)) : foldK rd (pre ++ [x] ++ rest) n = (ks, m) := by
  have h1 := h (x :: rest)
  rw [List.append_assoc, List.singleton_append, h1]
  obtain ⟨f, e⟩ := x
  rw [foldK, if_neg hm]
  simp
theorem Fd.all {rd : Nat → Nat → Nat → P × Nat} {n m : Nat} {pre : List (Nat × Nat)} {ks : List P} (h : Fd rd n pre ks m) : foldK rd pre n = (ks, m) := by
  have := h []
  rw [List.append_nil] at this
  rw [this, foldK]
  simp
/-- How many parts are counted: in the box too, or there are thirty, and the box has gone on. -/
def Cnt (n v d : Nat) : Prop := n ≤ 30 ∧ (v = n ∨ (n = 30 ∧ 30 ≤ v ∧ v ≤ 30 + d))
theorem Cnt.more {n v d : Nat} (h : Cnt n v d) : Cnt n v (d + 1) := ⟨h.1, h.2.imp id (fun ⟨a, b, c⟩ => ⟨a, b, by omega⟩)⟩
def anoV (C : Nat) : Value := .func (.func 51) #[] #[.pointer (some ⟨C, 0, none⟩)]
def zS : Value := .string ⟨#[]⟩
def zL : Value := .slice none 0 0
def zB : Value := .bool false
def zI : Value := .int .i64 0
theorem grown_set (W : World) (g o : Nat) (v : Value) : W.grownBy (W.setCell ⟨g, o, none⟩ v) (some g) := ⟨rfl, rfl, rfl, by simp [World.setCell], fun k _ hk => Below.heap_setCell _ _ _ k (fun e => hk (by rw [e]))⟩
/-- What read keeps in memory: from block B on; the part in block G. -/
structure St (s : ByteArray) (i : Int) (C B G : Nat) (w : World) (c0 c1 c2 c3 c4 c5 c6 c7 : Value) (W : World) : Prop where
  bs : Boxed W B 9 (.string s)
  bi : Boxed W (B + 1) 3 (.int .i64 i)
  ba : Boxed W (B + 1 + 1) 22 (anoV C)
  br : Bx (B + 1 + 1 + 1) zS zL zS zB zI zI zI zL W
  bp : Bx G c0 c1 c2 c3 c4 c5 c6 c7 W
  st : Step C w W
  hG : B + 4 ≤ G
  hB : w.heap.size = B
  hC : C < B
namespace St
variable {s : ByteArray} {i : Int} {C B G : Nat} {w W W' : World} {c0 c1 c2 c3 c4 c5 c6 c7 : Value}
theorem step (h : St s i C B G w c0 c1 c2 c3 c4 c5 c6 c7 W) (k : Step C W W') : St s i C B G w c0 c1 c2 c3 c4 c5 c6 c7 W' := by
  have hC := h.hC
  have hG := h.hG
  exact ⟨k.box h.bs (by omega), k.box h.bi (by omega), k.box h.ba (by omega), h.br.keep k (by omega), h.bp.keep k (by omega), h.st.trans k, hG, h.hB, hC⟩
theorem below (h : St s i C B G w c0 c1 c2 c3 c4 c5 c6 c7 W) (k : Below W.heap.size W W') : St s i C B G w c0 c1 c2 c3 c4 c5 c6 c7 W' := h.step (Step.of_below k)
theorem setG (h : St s i C B G w c0 c1 c2 c3 c4 c5 c6 c7 W) (o : Nat) (d : Value) {d0 d1 d2 d3 d4 d5 d6 d7 : Value} (k : Bx G d0 d1 d2 d3 d4 d5 d6 d7 (W.setCell ⟨G, o, none⟩ d)) : St s i C B G w d0 d1 d2 d3 d4 d5 d6 d7 (W.setCell ⟨G, o, none⟩ d) := by
  have hC := h.hC
  have hG := h.hG
  have hB := h.hB
  have ne : ∀ {A : Nat} {t : TypeId} {v : Value}, A ≠ G → Boxed W A t v → Boxed (W.setCell ⟨G, o, none⟩ d) A t v := fun hn hA => hA.kept (grown_set W G o d) (fun e => hn (Option.some.inj e))
  exact ⟨ne (by omega) h.bs, ne (by omega) h.bi, ne (by omega) h.ba, h.br.same (Below.heap_setCell _ _ _ _ (by show B + 1 + 1 + 1 ≠ G; omega)), k, h.st.setNew (by omega) o d, hG, hB, hC⟩
/-- What turns a row beyond. -/
theorem grown {row : Option Nat} (h : St s i C B G w c0 c1 c2 c3 c4 c5 c6 c7 W) (k : W.grownBy W' row) (hr : ∀ r, row = some r → B ≤ r ∧ r ≠ G ∧ r ≠ B ∧ r ≠ B + 1 ∧ r ≠ B + 1 + 1 ∧ r ≠ B + 1 + 1 + 1) : St s i C B G w c0 c1 c2 c3 c4 c5 c6 c7 W' := by
  have ne : ∀ {A : Nat}, (∀ r, row = some r → r ≠ A) → some A ≠ row := fun hn e => hn _ e.symm rfl
  exact ⟨h.bs.kept k (ne fun r e => (hr r e).2.2.1), h.bi.kept k (ne fun r e => (hr r e).2.2.2.1), h.ba.kept k (ne fun r e => (hr r e).2.2.2.2.1), h.br.same (k.block _ h.br.lt (ne fun r e => (hr r e).2.2.2.2.2)), h.bp.same (k.block _ h.bp.lt (ne fun r e => (hr r e).2.1)),
    h.st.grown k (fun r e => by have := (hr r e).1; have := h.hB; omega), h.hG, h.hB, h.hC⟩
theorem drew (h : St s i C B G w c0 c1 c2 c3 c4 c5 c6 c7 W) : St s i C B G w c0 c1 c2 c3 c4 c5 c6 c7 W.drew := ⟨h.bs, h.bi, h.ba, h.br.drew, h.bp.drew, h.st.drew, h.hG, h.hB, h.hC⟩
theorem count (h : St s i C B G w c0 c1 c2 c3 c4 c5 c6 c7 W) : B + 5 ≤ W.heap.size := by have := h.bp.lt; have := h.hG; omega
end St
/-- Where all blocks of cells are as they were. -/
theorem St.cells {s : ByteArray} {i : Int} {C B G : Nat} {w W W' : World} {c0 c1 c2 c3 c4 c5 c6 c7 : Value} (h : St s i C B G w c0 c1 c2 c3 c4 c5 c6 c7 W) (hc : ∀ (g : Nat) cs t f, W.heap[g]? = some (Obj.cells cs t f) → W'.heap[g]? = W.heap[g]?) (hst : Step C w W') : St s i C B G w c0 c1 c2 c3 c4 c5 c6 c7 W' := by
  have ne : ∀ {A : Nat} {t : TypeId} {v : Value}, Boxed W A t v → Boxed W' A t v := fun hA => (hc _ _ _ _ hA).trans hA
  exact ⟨ne h.bs, ne h.bi, ne h.ba, h.br.same (hc _ _ _ _ h.br.blk), h.bp.same (hc _ _ _ _ h.bp.blk), hst, h.hG, h.hB, h.hC⟩
/-- What turns a block that is no cells. -/
theorem own_cells {W W' : World} {row : Option Nat} {B : Nat} (hg : W.grownBy W' row) (hr : ∀ r, row = some r → B ≤ r ∧ ∃ o : Obj, W.heap[r]? = some o ∧ o.isCells = false) : ∀ (g : Nat) cs t f, W.heap[g]? = some (Obj.cells cs t f) → W'.heap[g]? = W.heap[g]? := fun g cs t f hb =>
  hg.block g (Array.getElem?_eq_some_iff.1 hb).1 (fun e => by
    obtain ⟨_, o, ho, hc⟩ := hr g e.symm
    rw [hb] at ho
    cases ho
    cases hc)
/-- What is left where the part is told. -/
def finW (W : World) (R : Nat) (c0 c1 c2 c3 c4 c5 c6 c7 : Value) : World := (((((((W.setCell ⟨R, 0, none⟩ c0).setCell ⟨R, 1, none⟩ c1).setCell ⟨R, 2, none⟩ c2).setCell ⟨R, 3, none⟩ c3).setCell ⟨R, 4, none⟩ c4).setCell ⟨R, 5, none⟩ c5).setCell ⟨R, 6, none⟩ c6).setCell ⟨R, 7, none⟩ c7
theorem finW_other (W : World) (R : Nat) (c0 c1 c2 c3 c4 c5 c6 c7 : Value) (k : Nat) (h : k ≠ R) : (finW W R c0 c1 c2 c3 c4 c5 c6 c7).heap[k]? = W.heap[k]? := by
  unfold finW
  repeat rw [Below.heap_setCell _ _ _ _ h]
theorem finW_kept {Q Q' : Nat → Prop} (W : World) (R : Nat) (c0 c1 c2 c3 c4 c5 c6 c7 : Value) (h : ∀ g, Q g → g ≠ R ∧ Q' g) : Kept Q Q' W (finW W R c0 c1 c2 c3 c4 c5 c6 c7) := kept_block fun k _ _ _ hk _ => ⟨(h k hk).2, finW_other _ _ _ _ _ _ _ _ _ _ k (h k hk).1⟩
theorem St.fin {s : ByteArray} {i : Int} {C B G : Nat} {w W : World} {c0 c1 c2 c3 c4 c5 c6 c7 : Value} (h : St s i C B G w c0 c1 c2 c3 c4 c5 c6 c7 W) : Bx (B + 1 + 1 + 1) c0 c1 c2 c3 c4 c5 c6 c7 (finW W (B + 1 + 1 + 1) c0 c1 c2 c3 c4 c5 c6 c7) ∧ Step C w (finW W (B + 1 + 1 + 1) c0 c1 c2 c3 c4 c5 c6 c7) :=
  ⟨h.br.setAll _ _ _ _ _ _ _ _, h.st.setAll (by have := h.hB; omega) _ _ _ _ _ _ _ _⟩
/-- The headers' part of a message's part. -/
theorem part_at {Q : Nat → Prop} {w : World} {ty enc : List UInt8} {ps : List Fl} {att : Bool} {h f t : Nat} {kids : List P} {pv kv : Value} (hp : CellsAt Q w ps.length pv (fC ps)) (hk : ∃ cs, CellsAt Q w kids.length kv cs ∧ KidsAt Q w kids cs) :
    PartAt Q w (.mk ty ps enc att h f t kids) (.agg #[sV ty, pv, sV enc, .bool att, .int .i64 (h : Int), .int .i64 (f : Int), .int .i64 (t : Int), kv]) := by
  rw [PartAt]
  exact ⟨pv, kv, rfl, hp, hk⟩
end Go.Proofs.YtnnbbjdidbggmaaGreatDoor.Pt
