/-
  A log in memory, and its functions New, Floor, Add: what they answer, and what stays as it was. Conditions: at most 1000000 entries are kept.
-/
import Derived.Test.YtojjlbhodiphdaaLgMem
import Derived.Test.YtojjlbhodiphdaaRows
import Derived.WalkSpells
import Derived.Lib.Hide
import Derived.Lib.SmallJoins
import Derived.Deep.LoopGhost
import Derived.Deep.RegionHeld3
import Derived.Deep.AppendLies
import Derived.BigQuiet
import Derived.IntWalk
import Derived.Deep.RegionLaw
import Derived.WalkSmall
namespace Go.Proofs.Ytojjlbhodiphdaa.Lg
open Go Go.RowKit Go.Joins

/-! ### Entries in memory -/
def iV (x : Int) : Value := .int .i64 x
def eC (e : En) : List Value := [.int .i64 e.mod, .int .i64 e.kind, .int .i64 e.id, .int .i64 e.how]
def esC : List En → List Value
  | [] => []
  | e :: r => eC e ++ esC r
theorem esC_append : ∀ a b : List En, esC (a ++ b) = esC a ++ esC b
  | [], _ => rfl
  | e :: r, b => by rw [List.cons_append, esC, esC, esC_append r b, List.append_assoc]
theorem esC_length : ∀ a : List En, (esC a).length = a.length * 4
  | [] => rfl
  | e :: r => by rw [esC, List.length_append, esC_length r, List.length_cons]; show 4 + _ = _; omega
theorem esC_at : ∀ (a : List En) (k : Nat) (h : k < a.length), (esC a)[k * 4]? = some (.int .i64 a[k].mod) ∧ (esC a)[k * 4 + 1]? = some (.int .i64 a[k].kind) ∧ (esC a)[k * 4 + 2]? = some (.int .i64 a[k].id) ∧ (esC a)[k * 4 + 3]? = some (.int .i64 a[k].how)
  | [], k, h => by simp at h
  | e :: r, 0, _ => ⟨rfl, rfl, rfl, rfl⟩
  | e :: r, k + 1, h => by
    have := esC_at r k (by simpa using h)
    have e1 : ∀ j, (esC (e :: r))[(k + 1) * 4 + j]? = (esC r)[k * 4 + j]? := fun j => by
      rw [esC, List.getElem?_append_right (by show 4 ≤ _; omega)]
      congr 1
      show (k + 1) * 4 + j - 4 = _
      omega
    have e0 := e1 0
    rw [Nat.add_zero, Nat.add_zero] at e0
    rw [e0, e1, e1, e1]
    simpa using this
/-- n elements of so many cells each that are read. -/
def SAt (w : World) (v : Value) (size n : Nat) (xs : List Value) : Prop := (n = 0 ∧ ∃ a cap, v = .slice a 0 cap) ∨ ∃ g o cap, v = .slice (some ⟨g, o, none⟩) n cap ∧ n ≤ cap ∧ cap ≤ maxLen ∧ ∀ j, j < n * size → w.cell? ⟨g, o + j, none⟩ = xs[j]?
theorem SAt.form {w : World} {v : Value} {size n : Nat} {xs : List Value} (h : SAt w v size n xs) : ∃ a cap, v = .slice a n cap := by
  rcases h with ⟨rfl, a, cap, rfl⟩ | ⟨g, o, cap, rfl, _⟩
  · exact ⟨_, _, rfl⟩
  · exact ⟨_, _, rfl⟩
theorem SAt.keep {w w' : World} {v : Value} {size n : Nat} {xs : List Value} (h : SAt w v size n xs) (hl : xs.length = n * size) (hk : ∀ g, v.ownBlock = some g → g < w.heap.size → w'.heap[g]? = w.heap[g]?) : SAt w' v size n xs := by
  rcases h with h | ⟨g, o, cap, rfl, h1, h2, h3⟩
  · exact Or.inl h
  · refine Or.inr ⟨g, o, cap, rfl, h1, h2, fun j hj => ?_⟩
    have hc := h3 j hj
    rw [List.getElem?_eq_getElem (by omega)] at hc
    have hb : g < w.heap.size := World.block_lt_of_cell? w ⟨g, o + j, none⟩ hc
    rw [← h3 j hj]
    exact World.cell?_of_block (a := ⟨g, o + j, none⟩) (hk g rfl hb)
theorem SAt.below {w w' : World} {v : Value} {size n : Nat} {xs : List Value} (h : SAt w v size n xs) (hl : xs.length = n * size) (hb : Below w.heap.size w w') : SAt w' v size n xs := h.keep hl (fun g _ hg => hb.block g hg)
theorem QAt.sat {B : Nat} {e : TypeId} {size n : Nat} {v : Value} {xs : List Value} {w : World} (h : QAt B e size v n xs w) : SAt w v size n xs := by
  rcases Nat.eq_zero_or_pos n with h0 | h0
  · obtain ⟨a, cap, rfl⟩ := h.form
    exact Or.inl ⟨h0, a, cap, by rw [h0]⟩
  · obtain ⟨g, o, cap, rfl, h1, h2, h3, _⟩ := h.at h0
    exact Or.inr ⟨g, o, cap, rfl, h1, h2, h3⟩
/-- An entry of a slice that is read. -/
theorem sat_en {w : World} {v : Value} {es : List En} (h : SAt w v 4 es.length (esC es)) (k : Nat) (hk : k < es.length) : ∃ g o cap, v = .slice (some ⟨g, o, none⟩) es.length cap ∧ w.cell? ⟨g, o + k * 4, none⟩ = some (.int .i64 es[k].mod) ∧
    w.cell? ⟨g, o + k * 4 + 1, none⟩ = some (.int .i64 es[k].kind) ∧ w.cell? ⟨g, o + k * 4 + 2, none⟩ = some (.int .i64 es[k].id) ∧ w.cell? ⟨g, o + k * 4 + 3, none⟩ = some (.int .i64 es[k].how) := by
  rcases h with ⟨h0, _⟩ | ⟨g, o, cap, rfl, _, _, h3⟩
  · omega
  · obtain ⟨q0, q1, q2, q3⟩ := esC_at es k hk
    refine ⟨g, o, cap, rfl, ?_, ?_, ?_, ?_⟩
    · rw [h3 (k * 4) (by omega), q0]
    · rw [Nat.add_assoc, h3 (k * 4 + 1) (by omega), q1]
    · rw [Nat.add_assoc, h3 (k * 4 + 2) (by omega), q2]
    · rw [Nat.add_assoc, h3 (k * 4 + 3) (by omega), q3]

theorem infoE : (Try.prog.info? 54).map (fun i => (i.zero, i.size, i.bytes)) = some (some (.agg #[.int .i64 0, .int .i64 0, .int .i64 0, .int .i64 0]), 4, 32) := by kernel_rfl
/-! ### The log -/
def LogAt (B lb : Nat) (v : Value) (most fl : Int) (k : List En) (w : World) : Prop :=
  w.heap[lb]? = some (.cells #[.int .i64 most, .int .i64 fl, v] 64 (0, 0)) ∧ B ≤ lb ∧ QAt B 54 4 v k.length (esC k) w
/-- What a log's call leaves: all blocks but the log's own. -/
structure Turn (lb : Nat) (v : Value) (w : World) (v' : Value) (w' : World) : Prop where
  os : w'.os = w.os
  tape : w'.tape = w.tape
  output : w'.output = w.output
  size : w.heap.size ≤ w'.heap.size
  block : ∀ i, i < w.heap.size → i ≠ lb → v.ownBlock ≠ some i → w'.heap[i]? = w.heap[i]?
  own : v'.ownBlock = v.ownBlock ∨ ∃ g, v'.ownBlock = some g ∧ w.heap.size ≤ g
theorem Turn.refl (lb : Nat) (v : Value) (w : World) : Turn lb v w v w := ⟨rfl, rfl, rfl, Nat.le_refl _, fun _ _ _ _ => rfl, Or.inl rfl⟩
theorem Turn.trans {lb : Nat} {v v1 v2 : Value} {w w1 w2 : World} (h : Turn lb v w v1 w1) (k : Turn lb v1 w1 v2 w2) : Turn lb v w v2 w2 := by
  refine ⟨k.os.trans h.os, k.tape.trans h.tape, k.output.trans h.output, Nat.le_trans h.size k.size, fun i hi h1 h2 => ?_, ?_⟩
  · refine (k.block i (Nat.lt_of_lt_of_le hi h.size) h1 (fun e => ?_)).trans (h.block i hi h1 h2)
    rcases h.own with h3 | ⟨g, h3, h4⟩
    · exact h2 (h3 ▸ e)
    · rw [h3] at e
      injection e with e
      omega
  · rcases k.own with h3 | ⟨g, h3, h4⟩
    · rw [h3]
      exact h.own
    · exact Or.inr ⟨g, h3, Nat.le_trans h.size h4⟩
theorem Turn.below_ {lb : Nat} {v v1 : Value} {w w1 w2 : World} (h : Turn lb v w v1 w1) (hb : Below w1.heap.size w1 w2) : Turn lb v w v1 w2 :=
  h.trans ⟨hb.os, hb.tape, hb.output, hb.size, fun i hi _ _ => hb.block i hi, Or.inl rfl⟩
/-- .. all that lay ahead of the log. -/
theorem Turn.below {B lb : Nat} {v v' : Value} {w w' : World} {most fl : Int} {k : List En} (h : Turn lb v w v' w') (hL : LogAt B lb v most fl k w) : Below B w w' := by
  refine ⟨h.os, h.tape, h.output, h.size, fun i hi => ?_⟩
  have hlb : lb < w.heap.size := (Array.getElem?_eq_some_iff.1 hL.1).1
  exact h.block i (by have := hL.2.1; omega) (by have := hL.2.1; omega) (fun e => by have := (hL.2.2.block e).1; omega)
theorem LogAt.keep {B lb : Nat} {v : Value} {most fl : Int} {k : List En} {w w' : World} (h : LogAt B lb v most fl k w) (hk : ∀ i, i < w.heap.size → i = lb ∨ v.ownBlock = some i → w'.heap[i]? = w.heap[i]?) : LogAt B lb v most fl k w' := by
  have hlb : lb < w.heap.size := (Array.getElem?_eq_some_iff.1 h.1).1
  exact ⟨(hk lb hlb (Or.inl rfl)).trans h.1, h.2.1, h.2.2.keep (fun g hg hl => hk g hl (Or.inr hg))⟩
theorem LogAt.below {B lb : Nat} {v : Value} {most fl : Int} {k : List En} {w w' : World} (h : LogAt B lb v most fl k w) (hb : Below w.heap.size w w') : LogAt B lb v most fl k w' := h.keep (fun i hi _ => hb.block i hi)
theorem LogAt.lt {B lb : Nat} {v : Value} {most fl : Int} {k : List En} {w : World} (h : LogAt B lb v most fl k w) : lb < w.heap.size := (Array.getElem?_eq_some_iff.1 h.1).1
theorem LogAt.cells {B lb : Nat} {v : Value} {most fl : Int} {k : List En} {w : World} (h : LogAt B lb v most fl k w) :
    w.cell? ⟨lb, 0, none⟩ = some (.int .i64 most) ∧ w.cell? ⟨lb, 1, none⟩ = some (.int .i64 fl) ∧ w.cell? ⟨lb, 2, none⟩ = some v ∧ (∀ j, w.frozen? ⟨lb, j, none⟩ = false) := by
  refine ⟨?_, ?_, ?_, fun j => frozen_of_row w lb j _ _ h.1⟩
  · rw [cell_of_row w lb 0 _ _ _ h.1]; rfl
  · rw [cell_of_row w lb 1 _ _ _ h.1]; rfl
  · rw [cell_of_row w lb 2 _ _ _ h.1]; rfl
theorem LogAt.ne {B lb : Nat} {v : Value} {most fl : Int} {k : List En} {w : World} (h : LogAt B lb v most fl k w) : v.ownBlock ≠ some lb := h.2.2.ne h.1 (fun cs e => by injection e with e1 e2; exact absurd e2 (by decide))

/-- Another row is kept. -/
theorem LogAt.put2 {B lb : Nat} {v v' : Value} {most fl : Int} {k k' : List En} {w w2 : World} (h : LogAt B lb v most fl k w) (hT : Turn lb v w v' w2) (hlb : w2.heap[lb]? = w.heap[lb]?) (hq : QAt B 54 4 v' k'.length (esC k') w2) :
    LogAt B lb v' most fl k' (w2.setCell ⟨lb, 2, none⟩ v') ∧ Turn lb v w v' (w2.setCell ⟨lb, 2, none⟩ v') := by
  have h2 := hlb.trans h.1
  refine ⟨⟨heap_setCell_same w2 lb 2 _ _ v' h2, h.2.1, hq.keep (fun g hg hl => Below.heap_setCell w2 _ v' g (fun e => ?_))⟩, hT.os, hT.tape, hT.output, Nat.le_trans hT.size (by simp [World.setCell]), fun i hi h3 h4 => (Below.heap_setCell w2 _ v' i h3).trans (hT.block i hi h3 h4), hT.own⟩
  have := hq.ne h2 (fun cs e => by injection e with e1 e2; exact absurd e2 (by decide))
  exact this (by rw [hg]; exact congrArg some e)
/-- Another floor. -/
theorem LogAt.put1 {B lb : Nat} {v : Value} {most fl : Int} {k : List En} {w : World} (h : LogAt B lb v most fl k w) (f : Int) : LogAt B lb v most f k (w.setCell ⟨lb, 1, none⟩ (.int .i64 f)) ∧ Turn lb v w v (w.setCell ⟨lb, 1, none⟩ (.int .i64 f)) := by
  refine ⟨⟨heap_setCell_same w lb 1 _ _ _ h.1, h.2.1, h.2.2.keep (fun g hg hl => Below.heap_setCell w _ _ g (fun e => ?_))⟩, rfl, rfl, rfl, by simp [World.setCell], fun i hi h3 h4 => Below.heap_setCell w _ _ i h3, Or.inl rfl⟩
  exact h.ne (by rw [hg]; exact congrArg some e)

/-- Behind the append of an entry, and the store of the longer row. -/
theorem add_put {B lb g1 q1 cap1 N uc : Nat} {ua : Option Addr} {most sf : Int} {sk : List En} {x : En} {wr W1 w2 : World} {O : Obj} (HL : LogAt B lb (.slice ua N uc) most sf sk wr) (hN : sk.length = N) (hB1 : Below wr.heap.size wr W1)
    (hq2 : QAt B 54 4 (.slice (some ⟨g1, q1, none⟩) (N + 1) cap1) (N + 1) (esC sk ++ [.int .i64 x.mod, .int .i64 x.kind, .int .i64 x.id, .int .i64 x.how]) w2)
    (hg2 : (W1.drew.alloc O).grownBy w2 (Value.slice ua N uc).ownBlock) (hat : (Value.slice ua N uc).ownBlock = some g1 ∨ (W1.drew.alloc O).heap.size ≤ g1) :
    LogAt B lb (.slice (some ⟨g1, q1, none⟩) (N + 1) cap1) most sf (sk ++ [x]) (w2.setCell ⟨lb, 2, none⟩ (.slice (some ⟨g1, q1, none⟩) (N + 1) cap1)) ∧
      Turn lb (.slice ua N uc) wr (.slice (some ⟨g1, q1, none⟩) (N + 1) cap1) (w2.setCell ⟨lb, 2, none⟩ (.slice (some ⟨g1, q1, none⟩) (N + 1) cap1)) := by
  have hB2 : Below wr.heap.size wr (W1.drew.alloc O) := hB1.trans ((((Below.refl _ W1).drew).alloc (Nat.le_refl _) O).mono hB1.size)
  have hsame : ∀ i, i < wr.heap.size → (Value.slice ua N uc).ownBlock ≠ some i → w2.heap[i]? = wr.heap[i]? := fun i hi hn =>
    (hg2.block i (Nat.lt_of_lt_of_le hi hB2.size) (Ne.symm hn)).trans (hB2.block i hi)
  refine HL.put2 ⟨hg2.os.trans hB2.os, hg2.tape.trans hB2.tape, hg2.output.trans hB2.output, Nat.le_trans hB2.size hg2.size, fun i hi _ hn => hsame i hi hn, ?_⟩ (hsame lb HL.lt HL.ne) ?_
  · rcases hat with h | h
    · exact Or.inl h.symm
    · exact Or.inr ⟨g1, rfl, Nat.le_trans hB2.size h⟩
  · rw [List.length_append, hN, esC_append]
    exact hq2

/-- Behind the cut of the front. -/
theorem cut_put {B lb g o m cap : Nat} {most f : Int} {y : En} {t : List En} {w : World} (h : LogAt B lb (.slice (some ⟨g, o, none⟩) (m + 1) cap) most f (y :: t) w) (hl : (y :: t).length = m + 1) :
    LogAt B lb (.slice (some ⟨g, o + 4, none⟩) m (cap - 1)) most y.mod t ((w.setCell ⟨lb, 1, none⟩ (.int .i64 y.mod)).setCell ⟨lb, 2, none⟩ (.slice (some ⟨g, o + 4, none⟩) m (cap - 1))) ∧
      Turn lb (.slice (some ⟨g, o, none⟩) (m + 1) cap) w (.slice (some ⟨g, o + 4, none⟩) m (cap - 1)) ((w.setCell ⟨lb, 1, none⟩ (.int .i64 y.mod)).setCell ⟨lb, 2, none⟩ (.slice (some ⟨g, o + 4, none⟩) m (cap - 1))) := by
  obtain ⟨h1, t1⟩ := h.put1 y.mod
  have hq := h1.2.2
  rw [hl] at hq
  have ht := hq.tail
  have hm : t.length = m := by simpa using hl
  have := h1.put2 (v' := .slice (some ⟨g, o + 4, none⟩) m (cap - 1)) (k' := t) ⟨rfl, rfl, rfl, Nat.le_refl _, fun _ _ _ _ => rfl, Or.inl rfl⟩ rfl (by rw [hm]; exact ht)
  exact ⟨this.1, t1.trans this.2⟩

set_option maxHeartbeats 1000000 in
theorem new_bad (most : Int) (w : World) (h : most < 1) : Calls Try.prog 9 #[.int .i64 most] w fun e w' => e = .returned (.tuple #[.pointer none, .int .i64 1]) ∧ w' = w := by
  go_enter Try.func9, Try.ntmps9
  go_wp2
  go_ret2
  exact ⟨rfl, rfl⟩
set_option maxHeartbeats 1000000 in
theorem new_any (most : Int) (w : World) (h : 1 ≤ most) : Calls Try.prog 9 #[.int .i64 most] w fun e w' => e = .returned (.tuple #[.pointer (some ⟨w.heap.size, 0, none⟩), .int .i64 0]) ∧
    LogAt w.heap.size w.heap.size (.slice none 0 0) most 0 [] w' ∧ Below w.heap.size w w' := by
  have h' : ¬ most < 1 := by omega
  go_enter Try.func9, Try.ntmps9
  go_wp2
  go_ret2
  refine ⟨rfl, ⟨?_, Nat.le_refl _, QAt.nil _ _ _ _⟩, (Below.refl _ w).alloc (Nat.le_refl _) _⟩
  exact heap_alloc_new w _
set_option maxHeartbeats 1000000 in
theorem floor_any (B lb : Nat) (v : Value) (most fl : Int) (k : List En) (w : World) (hL : LogAt B lb v most fl k w) :
    Calls Try.prog 15 #[.pointer (some ⟨lb, 0, none⟩)] w fun e w' => e = .returned (.int .i64 fl) ∧ w' = w := by
  obtain ⟨_, c1, _, _⟩ := hL.cells
  go_enter Try.func15, Try.ntmps15
  go_wp2
  go_ret
  exact ⟨rfl, rfl⟩
set_option maxHeartbeats 1000000 in
theorem num_any (n : Int) (w : World) : Calls Try.prog 10 #[.int .i64 n] w fun e w' => e = .returned (.int .i64 n) ∧ w' = w := by
  go_enter Try.func10, Try.ntmps10
  go_wp2
  go_ret
  exact ⟨rfl, rfl⟩
end Go.Proofs.Ytojjlbhodiphdaa.Lg
