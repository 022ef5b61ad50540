/-
  A variable of three cells (a sign that was come by) in a block of its own: its cells, what stores leave of it; how far a search by the last signs has come. Conditions: none.
-/
import Derived.Test.YtnnbbjdidbggmaaDoorKit
import Derived.Test.YtnnbbjdidbggmaaDoorTrWay
import Derived.Test.YtnnbbjdidbggmaaDoorShelf
import Derived.Lib.IndexBytes
import Derived.Lib.IndexLaws
import Derived.WalkSmall
import Derived.Shelf.Strings.SlTrimAscii
namespace Go.Proofs.YtnnbbjdidbggmaaDoor.Tr
open Go Go.RowKit Go.Joins Kit

/-- A variable of type wild lies in block G. -/
structure W3 (G : Nat) (c0 c1 c2 : Value) (w : World) : Prop where
  blk : w.heap[G]? = some (.cells #[c0, c1, c2] 37 (0, 0))
namespace W3
variable {G : Nat} {c0 c1 c2 : Value} {w w' : World}
theorem lt (h : W3 G c0 c1 c2 w) : G < w.heap.size := (Array.getElem?_eq_some_iff.1 h.blk).1
theorem p0 (h : W3 G c0 c1 c2 w) : w.cell? ⟨G, 0, none⟩ = some c0 := by rw [Lib.cell_of_heap h.blk]; rfl
theorem p1 (h : W3 G c0 c1 c2 w) : w.cell? ⟨G, 1, none⟩ = some c1 := by rw [Lib.cell_of_heap h.blk]; rfl
theorem p2 (h : W3 G c0 c1 c2 w) : w.cell? ⟨G, 2, none⟩ = some c2 := by rw [Lib.cell_of_heap h.blk]; rfl
theorem free (h : W3 G c0 c1 c2 w) (o : Nat) : w.frozen? ⟨G, o, none⟩ = false := Lib.frozen_of_heap h.blk o
theorem made (w : World) (c0 c1 c2 : Value) : W3 w.heap.size c0 c1 c2 (w.alloc (.cells #[c0, c1, c2] 37)) := ⟨Kit.fresh_block w _ _⟩
theorem madeAt {n : Nat} (h : w.heap.size = n) (c0 c1 c2 : Value) : W3 n c0 c1 c2 (w.alloc (.cells #[c0, c1, c2] 37)) := by
  subst h
  exact made w _ _ _
theorem same (h : W3 G c0 c1 c2 w) (k : w'.heap[G]? = w.heap[G]?) : W3 G c0 c1 c2 w' := ⟨k.trans h.blk⟩
theorem below (h : W3 G c0 c1 c2 w) (k : Below w.heap.size w w') : W3 G c0 c1 c2 w' := h.same (k.block G h.lt)
theorem drew (h : W3 G c0 c1 c2 w) : W3 G c0 c1 c2 w.drew := ⟨h.blk⟩
theorem set2 (h : W3 G c0 c1 c2 w) (d : Value) : W3 G c0 c1 d (w.setCell ⟨G, 2, none⟩ d) := ⟨by simp [World.setCell, Array.getElem?_modify, h.blk]⟩
theorem setAll (h : W3 G c0 c1 c2 w) (d0 d1 d2 : Value) : W3 G d0 d1 d2 (((w.setCell ⟨G, 0, none⟩ d0).setCell ⟨G, 1, none⟩ d1).setCell ⟨G, 2, none⟩ d2) := ⟨by
  simp [World.setCell, Array.getElem?_modify, h.blk]⟩
theorem other (h : W3 G c0 c1 c2 w) {k o : Nat} (hk : k ≠ G) (v : Value) : W3 G c0 c1 c2 (w.setCell ⟨k, o, none⟩ v) := h.same (Below.heap_setCell _ _ _ _ (fun e => hk (by have e' : G = k := e; exact e'.symm)))
theorem otherAll (h : W3 G c0 c1 c2 w) {k : Nat} (hk : k ≠ G) (d0 d1 d2 : Value) : W3 G c0 c1 c2 (((w.setCell ⟨k, 0, none⟩ d0).setCell ⟨k, 1, none⟩ d1).setCell ⟨k, 2, none⟩ d2) := ((h.other hk _).other hk _).other hk _
end W3
theorem below_all {B G : Nat} {w w' : World} (h : Below B w w') (hg : B ≤ G) (d0 d1 d2 : Value) : Below B w (((w'.setCell ⟨G, 0, none⟩ d0).setCell ⟨G, 1, none⟩ d1).setCell ⟨G, 2, none⟩ d2) :=
  ((h.setCell (p := ⟨G, 0, none⟩) hg _).setCell (p := ⟨G, 1, none⟩) hg _).setCell (p := ⟨G, 2, none⟩) hg _

/-! ### How far it has come -/
theorem lex_lt {M a a' b b' : Nat} (h : a' < a) (hb : b' ≤ M) : a' * (M + 1) + b' < a * (M + 1) + b := by
  have h1 : (a' + 1) * (M + 1) ≤ a * (M + 1) := Nat.mul_le_mul_right _ h
  rw [Nat.add_mul, Nat.one_mul] at h1
  omega
theorem lex_same {M a b b' : Nat} (h : b' < b) : a * (M + 1) + b' < a * (M + 1) + b := by omega
def left5 (M a b c d e : Nat) : Nat := ((((M - a) * (M + 1) + (M - b)) * (M + 1) + (M - c)) * (M + 1) + (M - d)) * (M + 1) + (M - e)
theorem left5_e {M a b c d e e' : Nat} (h : e < e') (he : e' ≤ M) : left5 M a b c d e' < left5 M a b c d e := lex_same (by omega)
theorem left5_d {M a b c d d' e e' : Nat} (h : d < d') (hd : d' ≤ M) : left5 M a b c d' e' < left5 M a b c d e := lex_lt (lex_same (by omega)) (Nat.sub_le _ _)
theorem left5_c {M a b c c' d d' e e' : Nat} (h : c < c') (hc : c' ≤ M) : left5 M a b c' d' e' < left5 M a b c d e := lex_lt (lex_lt (lex_same (by omega)) (Nat.sub_le _ _)) (Nat.sub_le _ _)
theorem left5_b {M a b b' c c' d d' e e' : Nat} (h : b < b') (hb : b' ≤ M) : left5 M a b' c' d' e' < left5 M a b c d e := lex_lt (lex_lt (lex_lt (lex_same (by omega)) (Nat.sub_le _ _)) (Nat.sub_le _ _)) (Nat.sub_le _ _)
theorem left5_a {M a a' b b' c c' d d' e e' : Nat} (h : a < a') (ha : a' ≤ M) : left5 M a' b' c' d' e' < left5 M a b c d e := lex_lt (lex_lt (lex_lt (lex_lt (by omega) (Nat.sub_le _ _)) (Nat.sub_le _ _)) (Nat.sub_le _ _)) (Nat.sub_le _ _)
def cellN (w : World) (g o : Nat) : Nat := ((w.cell? ⟨g, o, none⟩).map (fun v => (intOf v).toNat)).getD 0
theorem cellN_of {w : World} {g o n : Nat} (h : w.cell? ⟨g, o, none⟩ = some (.int .i64 (n : Int))) : cellN w g o = n := by
  unfold cellN
  rw [h]
  simp [intOf]
def wayLeft (M B : Nat) (p : Value) (w : World) : Nat := left5 M (cellN w B 1) (cellN w B 2) (cellN w (B + 1) 1) (cellN w (B + 1) 2) (intOf p).toNat
theorem wayLeft_of {M B sb se pb pe p : Nat} {st pt : Bool} {w : World} (h : W3 B (.bool st) (.int .i64 (sb : Int)) (.int .i64 (se : Int)) w) (k : W3 (B + 1) (.bool pt) (.int .i64 (pb : Int)) (.int .i64 (pe : Int)) w) :
    wayLeft M B (.int .i64 (p : Int)) w = left5 M sb se pb pe p := by
  unfold wayLeft
  rw [cellN_of h.p1, cellN_of h.p2, cellN_of k.p1, cellN_of k.p2]
  simp [intOf]

/-! ### The library's -/
theorem idx_cases (x : UInt8) : ∀ (l : List UInt8), (Lib.indexByte l x = -1 ∧ ∀ c ∈ l, c ≠ x) ∨ ∃ a r, l = a ++ x :: r ∧ (∀ c ∈ a, c ≠ x) ∧ Lib.indexByte l x = (a.length : Int)
  | [] => Or.inl ⟨rfl, by simp⟩
  | b :: l => by
    by_cases hb : b = x
    · subst hb
      exact Or.inr ⟨[], l, rfl, by simp, by rw [Lib.indexByte]; simp⟩
    · rcases idx_cases x l with ⟨h1, h2⟩ | ⟨a, r, h1, h2, h3⟩
      · refine Or.inl ⟨by rw [Lib.indexByte, h1]; simp [hb], ?_⟩
        intro c hc
        rcases List.mem_cons.1 hc with rfl | hc
        · exact hb
        · exact h2 c hc
      · refine Or.inr ⟨b :: a, r, by rw [h1]; rfl, ?_, ?_⟩
        · intro c hc
          rcases List.mem_cons.1 hc with rfl | hc
          · exact hb
          · exact h2 c hc
        · rw [Lib.indexByte, h3, if_neg (by simpa using hb), if_neg (by simp <;> omega)]
          simp
theorem prefix_to {X : ByteArray} {c : UInt8} {b : Bool} (h : Lib.hasPrefix X.data.toList [c] = b) (w : World) : Calls Tryd.prog 14 #[.string X, .string ⟨#[c]⟩] w fun e w' => e = .returned (.bool b) ∧ w = w' := by
  have := Tryd.strings_HasPrefix X ⟨#[c]⟩ w
  rw [show (ByteArray.mk #[c]).data.toList = [c] from rfl, h] at this
  refine this.mono ?_
  rintro e w' ⟨rfl, rfl⟩
  exact ⟨rfl, rfl⟩
theorem pre_nil (c : UInt8) : Lib.hasPrefix [] [c] = false := rfl
theorem pre_cons (c d : UInt8) (r : List UInt8) : Lib.hasPrefix (d :: r) [c] = (c == d) := by simp [Lib.hasPrefix, List.isPrefixOf]
theorem trimEq {l cs : List UInt8} : Lib.trimS l cs = [] ↔ ∀ c ∈ l, c ∈ cs := by
  unfold Lib.trimS Lib.trimLeftS Lib.trimRightS
  constructor
  · intro h c hc
    by_cases hm : c ∈ cs
    · exact hm
    · exfalso
      have h1 : ∀ (l : List UInt8), c ∈ l → c ∈ l.dropWhile (cs.contains ·) := by
        intro l
        induction l with
        | nil => intro h; cases h
        | cons d r ih =>
          intro hd
          by_cases hdc : cs.contains d = true
          · rw [List.dropWhile_cons_of_pos hdc]
            rcases List.mem_cons.1 hd with rfl | hd
            · exact absurd (List.contains_iff_mem.1 hdc) hm
            · exact ih hd
          · rw [List.dropWhile_cons_of_neg hdc]
            exact hd
      have h2 := h1 _ (List.mem_reverse.2 (h1 _ (List.mem_reverse.2 hc)))
      rw [h] at h2
      cases h2
  · intro h
    have h1 : ∀ l : List UInt8, (∀ c ∈ l, c ∈ cs) → l.dropWhile (cs.contains ·) = [] := by
      intro l
      induction l with
      | nil => intro _; rfl
      | cons d r ih =>
        intro hd
        rw [List.dropWhile_cons_of_pos (List.contains_iff_mem.2 (hd d (by simp)))]
        exact ih (fun c hc => hd c (by simp [hc]))
    rw [h1 l.reverse (fun c hc => h c (List.mem_reverse.1 hc))]
    rfl
/-- What is told of a text's end: nothing but signs? -/
theorem trim_signs {X : ByteArray} {l : List UInt8} {b : Bool} (hs : X.size ≤ 1099511627776) (hl : X.data.toList = l) (hb : b = true ↔ ∀ c ∈ l, c = 42 ∨ c = 37) (w : World) :
    Calls Tryd.prog 16 #[.string X, .string ⟨#[42, 37]⟩] w fun e w' => (∃ Y : ByteArray, e = .returned (.string Y) ∧ (Y.toList == []) = b) ∧ Below w.heap.size w w' := by
  refine (Any.strings_Trim_laid Tryd.lays160 (by kernel_rfl) X ⟨#[42, 37]⟩ w (by omega) (by decide) (ascii_of_all (by decide))).mono ?_
  rintro e w' ⟨rfl, hb'⟩
  refine ⟨⟨_, rfl, ?_⟩, hb'⟩
  have h1 : (b = true) ↔ Lib.trimS X.data.toList [42, 37] = [] := by
    rw [hb, trimEq, hl]
    simp
  rw [Lib.toList_data]
  show (Lib.trimS X.data.toList [42, 37] == []) = b
  cases b
  · rw [beq_eq_false_iff_ne]
    intro e
    have := h1.2 e
    cases this
  · rw [h1.1 rfl]
    rfl
end Go.Proofs.YtnnbbjdidbggmaaDoor.Tr
