/-
  How the reader of addresses lies in memory: eight cells in a block of its own, a Builder among them; the words and the addresses told in rows of the call's own that grow. No law and no function of the project in this text. Conditions: none.
-/
import Derived.Test.YtigamkdomdglhaaDoorAdPlain
import Derived.Test.YtigamkdomdglhaaDoorOwn
namespace Go.Proofs.YtigamkdomdglhaaDoor.Ad
open Go Go.RowKit Go.Joins Kit J7

abbrev sV (l : List UInt8) : Value := .string ⟨l.toArray⟩
theorem sV_data (s : ByteArray) : sV s.data.toList = .string s := rfl
def aC : List Ad3 → List Value
  | [] => []
  | f :: r => sV f.1 :: sV f.2.1 :: sV f.2.2 :: aC r
theorem aC_append : ∀ a b : List Ad3, aC (a ++ b) = aC a ++ aC b
  | [], _ => rfl
  | f :: r, b => by rw [List.cons_append, aC, aC, aC_append r b]; rfl
theorem aC_length : ∀ a : List Ad3, (aC a).length = a.length * 3
  | [] => rfl
  | f :: r => by rw [aC, List.length_cons, List.length_cons, List.length_cons, aC_length r, List.length_cons]; omega
theorem aC_at : ∀ (a : List Ad3) (k : Nat) (h : k < a.length), (aC a)[k * 3]? = some (sV a[k].1) ∧ (aC a)[k * 3 + 1]? = some (sV a[k].2.1) ∧ (aC a)[k * 3 + 2]? = some (sV a[k].2.2)
  | [], k, h => by simp at h
  | f :: r, 0, _ => ⟨rfl, rfl, rfl⟩
  | f :: r, k + 1, h => by
    have := aC_at r k (by simpa using h)
    rw [aC, show (k + 1) * 3 = k * 3 + 3 by omega, show k * 3 + 3 + 1 = k * 3 + 1 + 3 by omega, show k * 3 + 3 + 2 = k * 3 + 2 + 3 by omega]
    simpa using this

/-! ### Rows of the call's own -/
section
variable {B sz n : Nat} {T : TypeId} {v : Value} {xs : List Value} {w w' : World}
theorem row_keep (h : w.ownsRow B T sz v n xs) (hk : ∀ g, v.ownBlock = some g → g < w.heap.size → w'.heap[g]? = w.heap[g]?) : w'.ownsRow B T sz v n xs := by
  obtain ⟨h1, h2⟩ := h
  refine ⟨h1, ?_⟩
  rcases h2 with h2 | ⟨g, cap, cur, hv, hg, hh, r⟩
  · exact Or.inl h2
  · exact Or.inr ⟨g, cap, cur, hv, hg, by rw [hk g (by rw [hv]; rfl) (Array.getElem?_eq_some_iff.1 hh).1]; exact hh, r⟩
theorem row_block (h : w.ownsRow B T sz v n xs) {g : Nat} (hg : v.ownBlock = some g) : B ≤ g ∧ ∃ cur, w.heap[g]? = some (.cells cur T (0, 0)) := by
  rcases h.2 with ⟨rfl, _⟩ | ⟨g', cap, cur, rfl, hb, hh, _⟩
  · cases hg
  · simp only [Value.ownBlock, Option.some.injEq] at hg
    subst hg
    exact ⟨hb, cur, hh⟩
theorem row_lt (h : w.ownsRow B T sz v n xs) {g : Nat} (hg : v.ownBlock = some g) : g < w.heap.size := by
  obtain ⟨_, cur, hh⟩ := row_block h hg
  exact (Array.getElem?_eq_some_iff.1 hh).1
theorem row_ne (h : w.ownsRow B T sz v n xs) {k : Nat} {cs : Array Value} {T' : TypeId} {fr : Nat × Nat} (hk : w.heap[k]? = some (.cells cs T' fr)) (hT : T' ≠ T) : v.ownBlock ≠ some k := fun e => by
  obtain ⟨_, cur, hh⟩ := row_block h e
  rw [hk] at hh
  injection hh with hh
  injection hh with _ hh
  exact hT hh
theorem row_row {B' sz' n' : Nat} {T' : TypeId} {v' : Value} {xs' : List Value} (h : w.ownsRow B T sz v n xs) (h' : w.ownsRow B' T' sz' v' n' xs') (hT : T' ≠ T) : ∀ g, v'.ownBlock = some g → v.ownBlock ≠ some g := fun g hg => by
  obtain ⟨_, cur, hh⟩ := row_block h' hg
  exact row_ne h hh hT
theorem row_below (h : w.ownsRow B T sz v n xs) (hb : Below w.heap.size w w') : w'.ownsRow B T sz v n xs := row_keep h (fun g _ hl => hb.block g hl)
theorem row_form (h : w.ownsRow B T sz v n xs) : ∃ a cap, v = .slice a n cap := by
  rcases h.2 with ⟨rfl, h0⟩ | ⟨g, cap, cur, rfl, _⟩
  · exact ⟨none, 0, by rw [h0]⟩
  · exact ⟨_, _, rfl⟩
theorem row_free (h : w.ownsRow B T sz v n xs) {g o : Nat} (hg : v.ownBlock = some g) : w.frozen? ⟨g, o, none⟩ = false := by
  obtain ⟨_, cur, hh⟩ := row_block h hg
  exact Lib.frozen_of_heap hh o
end

/-! ### The reader -/
/-- The reader's block, its words, what it has told. -/
structure RY (w0 : World) (b : Nat) (c0 c1 p v wv c5 c6 tv : Value) (ws : List (List UInt8)) (T : List Ad3) (w : World) : Prop where
  bel : Below w0.heap.size w0 w
  base : w0.heap.size ≤ b
  blk : w.heap[b]? = some (.cells #[c0, c1, p, v, wv, c5, c6, tv] 37 (0, 0))
  wrd : w.ownsRow w0.heap.size 9 1 wv ws.length (ws.map sV)
  tld : w.ownsRow w0.heap.size 27 3 tv T.length (aC T)
namespace RY
variable {w0 w w' : World} {b : Nat} {c0 c1 p v wv c5 c6 tv : Value} {ws : List (List UInt8)} {T : List Ad3}
theorem lt (h : RY w0 b c0 c1 p v wv c5 c6 tv ws T w) : b < w.heap.size := (Array.getElem?_eq_some_iff.1 h.blk).1
theorem cell (h : RY w0 b c0 c1 p v wv c5 c6 tv ws T w) (k : Nat) : w.cell? ⟨b, k, none⟩ = #[c0, c1, p, v, wv, c5, c6, tv][k]? := by rw [Lib.cell_of_heap h.blk]
theorem free (h : RY w0 b c0 c1 p v wv c5 c6 tv ws T w) (o : Nat) : w.frozen? ⟨b, o, none⟩ = false := Lib.frozen_of_heap h.blk o
theorem shape (h : RY w0 b c0 c1 p v wv c5 c6 tv ws T w) : w.shape? b = some (37, 8) := by simp [World.shape?, h.blk]
theorem room (h : RY w0 b c0 c1 p v wv c5 c6 tv ws T w) : w0.heap.size ≤ w.heap.size := h.bel.size
theorem below (h : RY w0 b c0 c1 p v wv c5 c6 tv ws T w) (hb : Below w.heap.size w w') : RY w0 b c0 c1 p v wv c5 c6 tv ws T w' :=
  ⟨h.bel.trans (hb.mono h.bel.size), h.base, (hb.block b h.lt).trans h.blk, row_below h.wrd hb, row_below h.tld hb⟩
/-- A row of another kind turned. -/
theorem grown (h : RY w0 b c0 c1 p v wv c5 c6 tv ws T w) {row : Option Nat} (hg : w.grownBy w' row) (hr : ∀ k, row = some k → w0.heap.size ≤ k ∧ k ≠ b ∧ wv.ownBlock ≠ some k ∧ tv.ownBlock ≠ some k) : RY w0 b c0 c1 p v wv c5 c6 tv ws T w' :=
  ⟨h.bel.grown hg h.bel.size (fun k hk => (hr k hk).1), h.base, (hg.block b h.lt (fun e => (hr b e.symm).2.1 rfl)).trans h.blk,
    row_keep h.wrd (fun g hv hl => hg.block g hl (fun e => (hr g e.symm).2.2.1 hv)), row_keep h.tld (fun g hv hl => hg.block g hl (fun e => (hr g e.symm).2.2.2 hv))⟩
theorem wne (h : RY w0 b c0 c1 p v wv c5 c6 tv ws T w) : wv.ownBlock ≠ some b := row_ne h.wrd h.blk (by decide)
theorem tne (h : RY w0 b c0 c1 p v wv c5 c6 tv ws T w) : tv.ownBlock ≠ some b := row_ne h.tld h.blk (by decide)
theorem store (h : RY w0 b c0 c1 p v wv c5 c6 tv ws T w) (k : Nat) (x : Value) : Below w0.heap.size w0 (w.setCell ⟨b, k, none⟩ x) ∧ (w.setCell ⟨b, k, none⟩ x).heap[b]? = some (.cells (#[c0, c1, p, v, wv, c5, c6, tv].setIfInBounds k x) 37 (0, 0)) ∧
    (w.setCell ⟨b, k, none⟩ x).ownsRow w0.heap.size 9 1 wv ws.length (ws.map sV) ∧ (w.setCell ⟨b, k, none⟩ x).ownsRow w0.heap.size 27 3 tv T.length (aC T) := by
  have hk : ∀ g, g ≠ b → (w.setCell ⟨b, k, none⟩ x).heap[g]? = w.heap[g]? := fun g hg => Below.heap_setCell _ _ _ _ hg
  refine ⟨h.bel.setCell (p := ⟨b, k, none⟩) h.base x, ?_, row_keep h.wrd (fun g hg _ => hk g (fun e => h.wne (by rw [hg, e]))), row_keep h.tld (fun g hg _ => hk g (fun e => h.tne (by rw [hg, e])))⟩
  have := h.blk
  simp [World.setCell, Array.getElem?_modify, this]
theorem set0 (h : RY w0 b c0 c1 p v wv c5 c6 tv ws T w) (x : Value) : RY w0 b x c1 p v wv c5 c6 tv ws T (w.setCell ⟨b, 0, none⟩ x) := by
  obtain ⟨h1, h2, h3, h4⟩ := h.store 0 x
  exact ⟨h1, h.base, h2, h3, h4⟩
theorem set1 (h : RY w0 b c0 c1 p v wv c5 c6 tv ws T w) (x : Value) : RY w0 b c0 x p v wv c5 c6 tv ws T (w.setCell ⟨b, 1, none⟩ x) := by
  obtain ⟨h1, h2, h3, h4⟩ := h.store 1 x
  exact ⟨h1, h.base, h2, h3, h4⟩
theorem set2 (h : RY w0 b c0 c1 p v wv c5 c6 tv ws T w) (x : Value) : RY w0 b c0 c1 x v wv c5 c6 tv ws T (w.setCell ⟨b, 2, none⟩ x) := by
  obtain ⟨h1, h2, h3, h4⟩ := h.store 2 x
  exact ⟨h1, h.base, h2, h3, h4⟩
theorem set3 (h : RY w0 b c0 c1 p v wv c5 c6 tv ws T w) (x : Value) : RY w0 b c0 c1 p x wv c5 c6 tv ws T (w.setCell ⟨b, 3, none⟩ x) := by
  obtain ⟨h1, h2, h3, h4⟩ := h.store 3 x
  exact ⟨h1, h.base, h2, h3, h4⟩
theorem set5 (h : RY w0 b c0 c1 p v wv c5 c6 tv ws T w) (x : Value) : RY w0 b c0 c1 p v wv x c6 tv ws T (w.setCell ⟨b, 5, none⟩ x) := by
  obtain ⟨h1, h2, h3, h4⟩ := h.store 5 x
  exact ⟨h1, h.base, h2, h3, h4⟩
theorem set6 (h : RY w0 b c0 c1 p v wv c5 c6 tv ws T w) (x : Value) : RY w0 b c0 c1 p v wv c5 x tv ws T (w.setCell ⟨b, 6, none⟩ x) := by
  obtain ⟨h1, h2, h3, h4⟩ := h.store 6 x
  exact ⟨h1, h.base, h2, h3, h4⟩
/-- No words any more. -/
theorem clear4 (h : RY w0 b c0 c1 p v wv c5 c6 tv ws T w) : RY w0 b c0 c1 p v (.slice none 0 0) c5 c6 tv [] T (w.setCell ⟨b, 4, none⟩ (.slice none 0 0)) := by
  obtain ⟨h1, h2, _, h4⟩ := h.store 4 (.slice none 0 0)
  exact ⟨h1, h.base, h2, World.ownsRow_nil _ _ _ _, h4⟩
/-- The words grown, and put into their cell. -/
theorem put4 {ws' : List (List UInt8)} {wv' : Value} (h : RY w0 b c0 c1 p v wv c5 c6 tv ws T w) (hg : w.grownBy w' wv.ownBlock) (hn : w'.ownsRow w0.heap.size 9 1 wv' ws'.length (ws'.map sV)) : RY w0 b c0 c1 p v wv' c5 c6 tv ws' T (w'.setCell ⟨b, 4, none⟩ wv') := by
  have hb : w'.heap[b]? = some (.cells #[c0, c1, p, v, wv, c5, c6, tv] 37 (0, 0)) := (hg.block b h.lt (fun e => h.wne e.symm)).trans h.blk
  have hk : ∀ g, g ≠ b → (w'.setCell ⟨b, 4, none⟩ wv').heap[g]? = w'.heap[g]? := fun g hg => Below.heap_setCell _ _ _ _ hg
  refine ⟨(h.bel.grown hg h.bel.size (fun k hk => (row_block h.wrd hk).1)).setCell (p := ⟨b, 4, none⟩) h.base _, h.base, ?_, row_keep hn (fun g e _ => hk g (fun e' => row_ne hn hb (by decide) (by rw [e, e']))), row_keep (row_keep h.tld (fun g e hl => hg.block g hl (fun e' => row_row h.wrd h.tld (by decide) g e e'.symm))) (fun g e _ => hk g (fun e' => h.tne (by rw [e, e'])))⟩
  simp [World.setCell, Array.getElem?_modify, hb]
/-- What is told grown, and put into its cell. -/
theorem put7 {T' : List Ad3} {tv' : Value} (h : RY w0 b c0 c1 p v wv c5 c6 tv ws T w) (hg : w.grownBy w' tv.ownBlock) (hn : w'.ownsRow w0.heap.size 27 3 tv' T'.length (aC T')) : RY w0 b c0 c1 p v wv c5 c6 tv' ws T' (w'.setCell ⟨b, 7, none⟩ tv') := by
  have hb : w'.heap[b]? = some (.cells #[c0, c1, p, v, wv, c5, c6, tv] 37 (0, 0)) := (hg.block b h.lt (fun e => h.tne e.symm)).trans h.blk
  have hk : ∀ g, g ≠ b → (w'.setCell ⟨b, 7, none⟩ tv').heap[g]? = w'.heap[g]? := fun g hg => Below.heap_setCell _ _ _ _ hg
  refine ⟨(h.bel.grown hg h.bel.size (fun k hk => (row_block h.tld hk).1)).setCell (p := ⟨b, 7, none⟩) h.base _, h.base, ?_, row_keep (row_keep h.wrd (fun g e hl => hg.block g hl (fun e' => row_row h.tld h.wrd (by decide) g e e'.symm))) (fun g e _ => hk g (fun e' => h.wne (by rw [e, e']))), row_keep hn (fun g e _ => hk g (fun e' => row_ne hn hb (by decide) (by rw [e, e'])))⟩
  simp [World.setCell, Array.getElem?_modify, hb]
end RY
/-- .. and the text that has begun. -/
structure RX (w0 : World) (b : Nat) (c0 c1 p v wv c5 c6 tv : Value) (l : List UInt8) (ws : List (List UInt8)) (T : List Ad3) (w : World) : Prop where
  y : RY w0 b c0 c1 p v wv c5 c6 tv ws T w
  txt : w.ownsRow w0.heap.size 5 1 v l.length (Lib.byteCells l)
  emp : l = [] → v = .slice none 0 0
  ptr : p = .pointer none ∨ p = .pointer (some ⟨b, 2, none⟩)
namespace RX
variable {w0 w w' : World} {b : Nat} {c0 c1 p v wv c5 c6 tv : Value} {l : List UInt8} {ws : List (List UInt8)} {T : List Ad3}
theorem ownB (h : RX w0 b c0 c1 p v wv c5 c6 tv l ws T w) : OwnB w0.heap.size v l w := ⟨h.txt, h.y.bel.size⟩
theorem below (h : RX w0 b c0 c1 p v wv c5 c6 tv l ws T w) (hb : Below w.heap.size w w') : RX w0 b c0 c1 p v wv c5 c6 tv l ws T w' := ⟨h.y.below hb, row_below h.txt hb, h.emp, h.ptr⟩
theorem vne (h : RX w0 b c0 c1 p v wv c5 c6 tv l ws T w) : v.ownBlock ≠ some b := row_ne h.txt h.y.blk (by decide)
theorem keep (h : RX w0 b c0 c1 p v wv c5 c6 tv l ws T w) (k : Nat) (x : Value) : (w.setCell ⟨b, k, none⟩ x).ownsRow w0.heap.size 5 1 v l.length (Lib.byteCells l) :=
  row_keep h.txt (fun g hg _ => Below.heap_setCell _ _ _ _ (fun e => h.vne (by rw [hg]; exact congrArg some e)))
theorem set0 (h : RX w0 b c0 c1 p v wv c5 c6 tv l ws T w) (x : Value) : RX w0 b x c1 p v wv c5 c6 tv l ws T (w.setCell ⟨b, 0, none⟩ x) := ⟨h.y.set0 x, h.keep 0 x, h.emp, h.ptr⟩
theorem set1 (h : RX w0 b c0 c1 p v wv c5 c6 tv l ws T w) (x : Value) : RX w0 b c0 x p v wv c5 c6 tv l ws T (w.setCell ⟨b, 1, none⟩ x) := ⟨h.y.set1 x, h.keep 1 x, h.emp, h.ptr⟩
theorem self2 (h : RX w0 b c0 c1 p v wv c5 c6 tv l ws T w) : RX w0 b c0 c1 (.pointer (some ⟨b, 2, none⟩)) v wv c5 c6 tv l ws T (w.setCell ⟨b, 2, none⟩ (.pointer (some ⟨b, 2, none⟩))) := ⟨h.y.set2 _, h.keep 2 _, h.emp, Or.inr rfl⟩
theorem set5 (h : RX w0 b c0 c1 p v wv c5 c6 tv l ws T w) (x : Value) : RX w0 b c0 c1 p v wv x c6 tv l ws T (w.setCell ⟨b, 5, none⟩ x) := ⟨h.y.set5 x, h.keep 5 x, h.emp, h.ptr⟩
theorem set6 (h : RX w0 b c0 c1 p v wv c5 c6 tv l ws T w) (x : Value) : RX w0 b c0 c1 p v wv c5 x tv l ws T (w.setCell ⟨b, 6, none⟩ x) := ⟨h.y.set6 x, h.keep 6 x, h.emp, h.ptr⟩
theorem clear4 (h : RX w0 b c0 c1 p v wv c5 c6 tv l ws T w) : RX w0 b c0 c1 p v (.slice none 0 0) c5 c6 tv l [] T (w.setCell ⟨b, 4, none⟩ (.slice none 0 0)) := ⟨h.y.clear4, h.keep 4 _, h.emp, h.ptr⟩
/-- The row of text's block is none of the others. -/
theorem apart (h : RX w0 b c0 c1 p v wv c5 c6 tv l ws T w) : ∀ k, v.ownBlock = some k → w0.heap.size ≤ k ∧ k ≠ b ∧ wv.ownBlock ≠ some k ∧ tv.ownBlock ≠ some k := fun k hk =>
  ⟨(row_block h.txt hk).1, fun e => h.vne (by rw [hk, e]), row_row h.y.wrd h.txt (by decide) k hk, row_row h.y.tld h.txt (by decide) k hk⟩
/-- The text grown, and put into its cell. -/
theorem put3 {l' : List UInt8} {v' : Value} (h : RX w0 b c0 c1 p v wv c5 c6 tv l ws T w) (ho : OwnB w0.heap.size v' l' w') (g : Gb w w' v v') (hl : l' ≠ []) : RX w0 b c0 c1 p v' wv c5 c6 tv l' ws T (w'.setCell ⟨b, 3, none⟩ v') := by
  have hg : w.grownBy w' v.ownBlock := ⟨g.os, g.tape, g.output, g.size, fun k hk hn => g.block k hk (fun e => hn e.symm)⟩
  have hy := h.y.grown hg h.apart
  have hne : v'.ownBlock ≠ some b := row_ne ho.own hy.blk (by decide)
  exact ⟨hy.set3 v', row_keep ho.own (fun x hx _ => Below.heap_setCell _ _ _ _ (fun e => hne (by rw [hx]; exact congrArg some e))), fun e => absurd e hl, h.ptr⟩
/-- What is told grown, and put into its cell. -/
theorem put7 {T' : List Ad3} {tv' : Value} (h : RX w0 b c0 c1 p v wv c5 c6 tv l ws T w) (hg : w.grownBy w' tv.ownBlock) (hn : w'.ownsRow w0.heap.size 27 3 tv' T'.length (aC T')) : RX w0 b c0 c1 p v wv c5 c6 tv' l ws T' (w'.setCell ⟨b, 7, none⟩ tv') := by
  refine ⟨h.y.put7 hg hn, row_keep (row_keep h.txt (fun g e hl => hg.block g hl (fun e' => row_row h.y.tld h.txt (by decide) g e e'.symm))) (fun g e _ => Below.heap_setCell _ _ _ _ (fun e' => h.vne (by rw [e]; exact congrArg some e'))), h.emp, h.ptr⟩
end RX
/-- A new reader's text, behind Reset. -/
theorem RY.reset {w0 w : World} {b : Nat} {c0 c1 p v wv c5 c6 tv : Value} {ws : List (List UInt8)} {T : List Ad3} (h : RY w0 b c0 c1 p v wv c5 c6 tv ws T w) :
    RX w0 b c0 c1 (.pointer none) (.slice none 0 0) wv c5 c6 tv [] ws T ((w.setCell ⟨b, 2, none⟩ (.pointer none)).setCell ⟨b, 3, none⟩ (.slice none 0 0)) :=
  ⟨(h.set2 _).set3 _, World.ownsRow_nil _ _ _ _, fun _ => rfl, Or.inl rfl⟩
/-- The reader at block b has gathered s. -/
def RM (w0 : World) (b : Nat) (s : St) (w : World) : Prop := ∃ p v wv tv, RX w0 b (.int .i64 s.st) (.int .i64 s.rem) p v wv (.string ⟨s.angle.toArray⟩) (.bool s.angled) tv s.txt s.words s.told w
theorem RM.bel {w0 w : World} {b : Nat} {s : St} (h : RM w0 b s w) : Below w0.heap.size w0 w := by obtain ⟨_, _, _, _, h⟩ := h; exact h.y.bel
end Go.Proofs.YtigamkdomdglhaaDoor.Ad
