/-
  The three lists in memory while log.lists puts them together. No function of the project is walked in this text. Conditions: none.
-/
import Derived.Test.YtojjlbhodiphdaaLgReach
namespace Go.Proofs.Ytojjlbhodiphdaa.Lg
open Go Go.RowKit Go.Joins

def isC (l : List Int) : List Value := l.map (fun x => .int .i64 x)
theorem isC_length (l : List Int) : (isC l).length = l.length := List.length_map _
theorem infoI : (Try.prog.info? 3).map (fun i => (i.zero, i.size, i.bytes)) = some (some (.int .i64 0), 1, 8) := by kernel_rfl
/-- The lists so far: three rows of the call's own, in the block CH; all else below B is as it was in w0. -/
structure LSt (B CH : Nat) (w0 : World) (c1 c2 c3 : Value) (l1 l2 l3 : List Int) (w : World) : Prop where
  ch : w.heap[CH]? = some (.cells #[c1, c2, c3, .int .i64 0, .bool false] 42 (0, 0))
  q1 : QAt B 3 1 c1 l1.length (isC l1) w
  q2 : QAt B 3 1 c2 l2.length (isC l2) w
  q3 : QAt B 3 1 c3 l3.length (isC l3) w
  d12 : ∀ g, c1.ownBlock = some g → c2.ownBlock ≠ some g
  d13 : ∀ g, c1.ownBlock = some g → c3.ownBlock ≠ some g
  d23 : ∀ g, c2.ownBlock = some g → c3.ownBlock ≠ some g
  base : CH < B
  os : w.os = w0.os
  tape : w.tape = w0.tape
  output : w.output = w0.output
  size : w0.heap.size ≤ w.heap.size
  room : B ≤ w.heap.size
  oth : ∀ j, j < B → j ≠ CH → w.heap[j]? = w0.heap[j]?
theorem LSt.cells {B CH : Nat} {w0 : World} {c1 c2 c3 : Value} {l1 l2 l3 : List Int} {w : World} (h : LSt B CH w0 c1 c2 c3 l1 l2 l3 w) :
    w.cell? ⟨CH, 0, none⟩ = some c1 ∧ w.cell? ⟨CH, 1, none⟩ = some c2 ∧ w.cell? ⟨CH, 2, none⟩ = some c3 ∧ w.cell? ⟨CH, 3, none⟩ = some (.int .i64 0) ∧ w.cell? ⟨CH, 4, none⟩ = some (.bool false) ∧ ∀ j, w.frozen? ⟨CH, j, none⟩ = false := by
  refine ⟨?_, ?_, ?_, ?_, ?_, fun j => frozen_of_row w CH j _ _ h.ch⟩ <;> (rw [cell_of_row w CH _ _ _ _ h.ch]; rfl)
theorem LSt.below {B CH : Nat} {w0 : World} {c1 c2 c3 : Value} {l1 l2 l3 : List Int} {w w' : World} (h : LSt B CH w0 c1 c2 c3 l1 l2 l3 w) (hb : Below w.heap.size w w') : LSt B CH w0 c1 c2 c3 l1 l2 l3 w' := by
  have hlt : CH < w.heap.size := (Array.getElem?_eq_some_iff.1 h.ch).1
  exact ⟨(hb.block CH hlt).trans h.ch, h.q1.below hb, h.q2.below hb, h.q3.below hb, h.d12, h.d13, h.d23, h.base, hb.os.trans h.os, hb.tape.trans h.tape, hb.output.trans h.output, Nat.le_trans h.size hb.size, Nat.le_trans h.room hb.size, fun j hj hn => (hb.block j (Nat.lt_of_lt_of_le hj h.room)).trans (h.oth j hj hn)⟩
theorem LSt.start (w : World) : LSt (w.heap.size + 1) w.heap.size w (.slice none 0 0) (.slice none 0 0) (.slice none 0 0) [] [] [] (w.alloc (.cells #[.slice none 0 0, .slice none 0 0, .slice none 0 0, .int .i64 0, .bool false] 42)) :=
  ⟨heap_alloc_new w _, QAt.nil _ _ _ _, QAt.nil _ _ _ _, QAt.nil _ _ _ _, (fun g e => by cases e), (fun g e => by cases e), (fun g e => by cases e), Nat.lt_succ_self _, rfl, rfl, rfl, by simp, by simp, fun j hj hn => ((Below.refl _ w).alloc (Nat.le_refl _) _).block j (by omega)⟩
/-- A number more in list 1. -/
theorem LSt.put1 {B CH : Nat} {w0 : World} {c1 c2 c3 c' : Value} {l1 l2 l3 : List Int} {w w1 w2 : World} {x : Int} (h : LSt B CH w0 c1 c2 c3 l1 l2 l3 w) (hb : Below w.heap.size w w1) (hq : QAt B 3 1 c' (l1.length + 1) (isC l1 ++ [.int .i64 x]) w2) (hg : w1.grownBy w2 c1.ownBlock)
    (ho : c'.ownBlock = c1.ownBlock ∨ ∃ g, c'.ownBlock = some g ∧ w.heap.size ≤ g) : LSt B CH w0 c' c2 c3 (l1 ++ [x]) l2 l3 (w2.setCell ⟨CH, 0, none⟩ c') := by
  have hlt : CH < w.heap.size := (Array.getElem?_eq_some_iff.1 h.ch).1
  have hneCh : ∀ cs, Obj.cells #[c1, c2, c3, .int .i64 0, .bool false] 42 (0, 0) ≠ .cells cs 3 (0, 0) := fun cs e => by injection e with e1 e2; exact absurd e2 (by decide)
  have hmeCh : c1.ownBlock ≠ some CH := h.q1.ne h.ch hneCh
  have hsame : ∀ j, j < w.heap.size → c1.ownBlock ≠ some j → w2.heap[j]? = w.heap[j]? := fun j hj hn => (hg.block j (Nat.lt_of_lt_of_le hj hb.size) (fun e => hn e.symm)).trans (hb.block j hj)
  have hch2 := (hsame CH hlt hmeCh).trans h.ch
  have hset : ∀ {v : Value} {n : Nat} {xs : List Value}, QAt B 3 1 v n xs w2 → v.ownBlock ≠ some CH → QAt B 3 1 v n xs (w2.setCell ⟨CH, 0, none⟩ c') := fun hv hn => hv.keep (fun g hg' _ => Below.heap_setCell w2 _ _ g (fun e => hn (by rw [hg']; exact congrArg some e)))
  have hdis2 : ∀ g, c2.ownBlock = some g → c1.ownBlock ≠ some g := fun g e => fun e' => h.d12 g e' e
  have hdis3 : ∀ g, c3.ownBlock = some g → c1.ownBlock ≠ some g := fun g e => fun e' => h.d13 g e' e
  have hold : ∀ {v : Value} {n : Nat} {xs : List Value}, QAt B 3 1 v n xs w → (∀ g, v.ownBlock = some g → c1.ownBlock ≠ some g) → QAt B 3 1 v n xs w2 := fun hv hn => hv.keep (fun g hg' hl => hsame g hl (hn g hg'))
  have hnew2 : ∀ g, c2.ownBlock = some g → c'.ownBlock ≠ some g := fun g e e' => by
    rcases ho with h1 | ⟨g', h1, h2⟩
    · exact hdis2 g e (h1 ▸ e')
    · rw [h1] at e'
      injection e' with e'
      have := h.q2.lt e
      omega
  have hnew3 : ∀ g, c3.ownBlock = some g → c'.ownBlock ≠ some g := fun g e e' => by
    rcases ho with h1 | ⟨g', h1, h2⟩
    · exact hdis3 g e (h1 ▸ e')
    · rw [h1] at e'
      injection e' with e'
      have := h.q3.lt e
      omega
  refine ⟨heap_setCell_same w2 CH 0 _ _ c' hch2, by rw [List.length_append]; show QAt _ _ _ _ _ ((l1 ++ [x]).map _) _; rw [List.map_append]; exact hset hq (hq.ne hch2 hneCh), hset (hold h.q2 (hdis2)) ((hold h.q2 (hdis2)).ne hch2 hneCh), hset (hold h.q3 (hdis3)) ((hold h.q3 (hdis3)).ne hch2 hneCh), fun g e e' => hnew2 g e' e, fun g e e' => hnew3 g e' e, h.d23, h.base, hg.os.trans (hb.os.trans h.os), hg.tape.trans (hb.tape.trans h.tape), hg.output.trans (hb.output.trans h.output), Nat.le_trans h.size (Nat.le_trans hb.size (Nat.le_trans hg.size (by simp [World.setCell]))), Nat.le_trans h.room (Nat.le_trans hb.size (Nat.le_trans hg.size (by simp [World.setCell]))), fun j hj hn => ?_⟩
  rw [Below.heap_setCell w2 _ _ j hn, hsame j (Nat.lt_of_lt_of_le hj h.room) (fun e => by have := (h.q1.block e).1; omega)]
  exact h.oth j hj hn
/-- A number more in list 2. -/
theorem LSt.put2 {B CH : Nat} {w0 : World} {c1 c2 c3 c' : Value} {l1 l2 l3 : List Int} {w w1 w2 : World} {x : Int} (h : LSt B CH w0 c1 c2 c3 l1 l2 l3 w) (hb : Below w.heap.size w w1) (hq : QAt B 3 1 c' (l2.length + 1) (isC l2 ++ [.int .i64 x]) w2) (hg : w1.grownBy w2 c2.ownBlock)
    (ho : c'.ownBlock = c2.ownBlock ∨ ∃ g, c'.ownBlock = some g ∧ w.heap.size ≤ g) : LSt B CH w0 c1 c' c3 l1 (l2 ++ [x]) l3 (w2.setCell ⟨CH, 1, none⟩ c') := by
  have hlt : CH < w.heap.size := (Array.getElem?_eq_some_iff.1 h.ch).1
  have hneCh : ∀ cs, Obj.cells #[c1, c2, c3, .int .i64 0, .bool false] 42 (0, 0) ≠ .cells cs 3 (0, 0) := fun cs e => by injection e with e1 e2; exact absurd e2 (by decide)
  have hmeCh : c2.ownBlock ≠ some CH := h.q2.ne h.ch hneCh
  have hsame : ∀ j, j < w.heap.size → c2.ownBlock ≠ some j → w2.heap[j]? = w.heap[j]? := fun j hj hn => (hg.block j (Nat.lt_of_lt_of_le hj hb.size) (fun e => hn e.symm)).trans (hb.block j hj)
  have hch2 := (hsame CH hlt hmeCh).trans h.ch
  have hset : ∀ {v : Value} {n : Nat} {xs : List Value}, QAt B 3 1 v n xs w2 → v.ownBlock ≠ some CH → QAt B 3 1 v n xs (w2.setCell ⟨CH, 1, none⟩ c') := fun hv hn => hv.keep (fun g hg' _ => Below.heap_setCell w2 _ _ g (fun e => hn (by rw [hg']; exact congrArg some e)))
  have hdis1 : ∀ g, c1.ownBlock = some g → c2.ownBlock ≠ some g := fun g e => fun e' => h.d12 g e e'
  have hdis3 : ∀ g, c3.ownBlock = some g → c2.ownBlock ≠ some g := fun g e => fun e' => h.d23 g e' e
  have hold : ∀ {v : Value} {n : Nat} {xs : List Value}, QAt B 3 1 v n xs w → (∀ g, v.ownBlock = some g → c2.ownBlock ≠ some g) → QAt B 3 1 v n xs w2 := fun hv hn => hv.keep (fun g hg' hl => hsame g hl (hn g hg'))
  have hnew1 : ∀ g, c1.ownBlock = some g → c'.ownBlock ≠ some g := fun g e e' => by
    rcases ho with h1 | ⟨g', h1, h2⟩
    · exact hdis1 g e (h1 ▸ e')
    · rw [h1] at e'
      injection e' with e'
      have := h.q1.lt e
      omega
  have hnew3 : ∀ g, c3.ownBlock = some g → c'.ownBlock ≠ some g := fun g e e' => by
    rcases ho with h1 | ⟨g', h1, h2⟩
    · exact hdis3 g e (h1 ▸ e')
    · rw [h1] at e'
      injection e' with e'
      have := h.q3.lt e
      omega
  refine ⟨heap_setCell_same w2 CH 1 _ _ c' hch2, hset (hold h.q1 (hdis1)) ((hold h.q1 (hdis1)).ne hch2 hneCh), by rw [List.length_append]; show QAt _ _ _ _ _ ((l2 ++ [x]).map _) _; rw [List.map_append]; exact hset hq (hq.ne hch2 hneCh), hset (hold h.q3 (hdis3)) ((hold h.q3 (hdis3)).ne hch2 hneCh), fun g e e' => hnew1 g e e', h.d13, fun g e e' => hnew3 g e' e, h.base, hg.os.trans (hb.os.trans h.os), hg.tape.trans (hb.tape.trans h.tape), hg.output.trans (hb.output.trans h.output), Nat.le_trans h.size (Nat.le_trans hb.size (Nat.le_trans hg.size (by simp [World.setCell]))), Nat.le_trans h.room (Nat.le_trans hb.size (Nat.le_trans hg.size (by simp [World.setCell]))), fun j hj hn => ?_⟩
  rw [Below.heap_setCell w2 _ _ j hn, hsame j (Nat.lt_of_lt_of_le hj h.room) (fun e => by have := (h.q2.block e).1; omega)]
  exact h.oth j hj hn
/-- A number more in list 3. -/
theorem LSt.put3 {B CH : Nat} {w0 : World} {c1 c2 c3 c' : Value} {l1 l2 l3 : List Int} {w w1 w2 : World} {x : Int} (h : LSt B CH w0 c1 c2 c3 l1 l2 l3 w) (hb : Below w.heap.size w w1) (hq : QAt B 3 1 c' (l3.length + 1) (isC l3 ++ [.int .i64 x]) w2) (hg : w1.grownBy w2 c3.ownBlock)
    (ho : c'.ownBlock = c3.ownBlock ∨ ∃ g, c'.ownBlock = some g ∧ w.heap.size ≤ g) : LSt B CH w0 c1 c2 c' l1 l2 (l3 ++ [x]) (w2.setCell ⟨CH, 2, none⟩ c') := by
  have hlt : CH < w.heap.size := (Array.getElem?_eq_some_iff.1 h.ch).1
  have hneCh : ∀ cs, Obj.cells #[c1, c2, c3, .int .i64 0, .bool false] 42 (0, 0) ≠ .cells cs 3 (0, 0) := fun cs e => by injection e with e1 e2; exact absurd e2 (by decide)
  have hmeCh : c3.ownBlock ≠ some CH := h.q3.ne h.ch hneCh
  have hsame : ∀ j, j < w.heap.size → c3.ownBlock ≠ some j → w2.heap[j]? = w.heap[j]? := fun j hj hn => (hg.block j (Nat.lt_of_lt_of_le hj hb.size) (fun e => hn e.symm)).trans (hb.block j hj)
  have hch2 := (hsame CH hlt hmeCh).trans h.ch
  have hset : ∀ {v : Value} {n : Nat} {xs : List Value}, QAt B 3 1 v n xs w2 → v.ownBlock ≠ some CH → QAt B 3 1 v n xs (w2.setCell ⟨CH, 2, none⟩ c') := fun hv hn => hv.keep (fun g hg' _ => Below.heap_setCell w2 _ _ g (fun e => hn (by rw [hg']; exact congrArg some e)))
  have hdis1 : ∀ g, c1.ownBlock = some g → c3.ownBlock ≠ some g := fun g e => fun e' => h.d13 g e e'
  have hdis2 : ∀ g, c2.ownBlock = some g → c3.ownBlock ≠ some g := fun g e => fun e' => h.d23 g e e'
  have hold : ∀ {v : Value} {n : Nat} {xs : List Value}, QAt B 3 1 v n xs w → (∀ g, v.ownBlock = some g → c3.ownBlock ≠ some g) → QAt B 3 1 v n xs w2 := fun hv hn => hv.keep (fun g hg' hl => hsame g hl (hn g hg'))
  have hnew1 : ∀ g, c1.ownBlock = some g → c'.ownBlock ≠ some g := fun g e e' => by
    rcases ho with h1 | ⟨g', h1, h2⟩
    · exact hdis1 g e (h1 ▸ e')
    · rw [h1] at e'
      injection e' with e'
      have := h.q1.lt e
      omega
  have hnew2 : ∀ g, c2.ownBlock = some g → c'.ownBlock ≠ some g := fun g e e' => by
    rcases ho with h1 | ⟨g', h1, h2⟩
    · exact hdis2 g e (h1 ▸ e')
    · rw [h1] at e'
      injection e' with e'
      have := h.q2.lt e
      omega
  refine ⟨heap_setCell_same w2 CH 2 _ _ c' hch2, hset (hold h.q1 (hdis1)) ((hold h.q1 (hdis1)).ne hch2 hneCh), hset (hold h.q2 (hdis2)) ((hold h.q2 (hdis2)).ne hch2 hneCh), by rw [List.length_append]; show QAt _ _ _ _ _ ((l3 ++ [x]).map _) _; rw [List.map_append]; exact hset hq (hq.ne hch2 hneCh), h.d12, fun g e e' => hnew1 g e e', fun g e e' => hnew2 g e e', h.base, hg.os.trans (hb.os.trans h.os), hg.tape.trans (hb.tape.trans h.tape), hg.output.trans (hb.output.trans h.output), Nat.le_trans h.size (Nat.le_trans hb.size (Nat.le_trans hg.size (by simp [World.setCell]))), Nat.le_trans h.room (Nat.le_trans hb.size (Nat.le_trans hg.size (by simp [World.setCell]))), fun j hj hn => ?_⟩
  rw [Below.heap_setCell w2 _ _ j hn, hsame j (Nat.lt_of_lt_of_le hj h.room) (fun e => by have := (h.q3.block e).1; omega)]
  exact h.oth j hj hn
end Go.Proofs.Ytojjlbhodiphdaa.Lg
