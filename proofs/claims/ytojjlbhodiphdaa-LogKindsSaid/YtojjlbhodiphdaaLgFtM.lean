/-
  How fates lie in memory: a list of the call's own, a map from ids to places, how many have passed; newFates, told, passed. Conditions: at most 2000000 of them.
-/
import Derived.Test.YtojjlbhodiphdaaLgFtP
import Derived.Test.YtojjlbhodiphdaaLgLog
import Derived.Maps.OwnSet
import Derived.Maps.Views
namespace Go.Proofs.Ytojjlbhodiphdaa.Lg
open Go Go.RowKit Go.Joins

def fC (f : Ft) : List Value := [.int .i64 f.id, .int .i64 f.first, .int .i64 f.last]
def fsC : List Ft → List Value
  | [] => []
  | f :: r => fC f ++ fsC r
theorem fsC_append : ∀ a b : List Ft, fsC (a ++ b) = fsC a ++ fsC b
  | [], _ => rfl
  | f :: r, b => by rw [List.cons_append, fsC, fsC, fsC_append r b, List.append_assoc]
theorem fsC_length : ∀ a : List Ft, (fsC a).length = a.length * 3
  | [] => rfl
  | f :: r => by rw [fsC, List.length_append, fsC_length r, List.length_cons]; show 3 + _ = _; omega
theorem fsC_at : ∀ (a : List Ft) (k : Nat) (h : k < a.length), (fsC a)[k * 3]? = some (.int .i64 a[k].id) ∧ (fsC a)[k * 3 + 1]? = some (.int .i64 a[k].first) ∧ (fsC a)[k * 3 + 2]? = some (.int .i64 a[k].last)
  | [], k, h => by simp at h
  | f :: r, 0, _ => ⟨rfl, rfl, rfl⟩
  | f :: r, k + 1, h => by
    have := fsC_at r k (by simpa using h)
    have e1 : ∀ j, (fsC (f :: r))[(k + 1) * 3 + j]? = (fsC r)[k * 3 + j]? := fun j => by
      rw [fsC, List.getElem?_append_right (by show 3 ≤ _; omega)]
      congr 1
      show (k + 1) * 3 + j - 3 = _
      omega
    have e0 := e1 0
    rw [Nat.add_zero, Nat.add_zero] at e0
    rw [e0, e1, e1]
    simpa using this
/-- Another last fate: one cell. -/
theorem fsC_set : ∀ (a : List Ft) (k : Nat) (h : k < a.length) (u : Int), fsC (a.set k ⟨a[k].id, a[k].first, u⟩) = (fsC a).set (k * 3 + 2) (.int .i64 u)
  | [], k, h, _ => by simp at h
  | f :: r, 0, _, u => rfl
  | f :: r, k + 1, h, u => by
    have := fsC_set r k (by simpa using h) u
    rw [List.set_cons_succ, fsC, fsC]
    simp only [List.getElem_cons_succ]
    rw [this, List.set_append_right _ _ (by show 3 ≤ _; omega)]
    congr 2
    show _ = (k + 1) * 3 + 2 - 3
    omega

theorem wf_small {n : Int} (h0 : -9223372036854775808 ≤ n) (h1 : n ≤ 9223372036854775807) : (Lit.int .i64 n).wf = true := by
  show (decide (IntKind.min .i64 ≤ n) && decide (n ≤ IntKind.max .i64)) = true
  rw [show IntKind.min .i64 = -9223372036854775808 by decide, show IntKind.max .i64 = 9223372036854775807 by decide]
  simp
  omega
/-- The place that a look-up answers. -/
def plN : Option Nat → Int
  | some p => (p : Int)
  | none => 0

/-! ### The map -/
theorem keyedI : Go.Maps.Keyed Try.prog 3 := Go.Maps.int_keyed Try.underlying3
theorem zeroI (w : World) : (zeroValue 3).run Try.prog w = .ok (.int .i64 0) w := by kernel_rfl
def kI (i : Int) : Lit := .int .i64 i
def MapIs (fs : List Ft) (D : DataW Unit) : Prop := Maps.IsMap D ∧ ∀ i, Maps.has D (kI i) = (placeF fs i).isSome ∧ ∀ p, placeF fs i = some p → ∀ z, D.atKey (kI i) z = .lit (.int .i64 (p : Int))
theorem MapIs.nil : MapIs [] (.map []) := ⟨⟨[], rfl⟩, fun i => ⟨rfl, fun p h => by cases h⟩⟩
theorem MapIs.put {fs : List Ft} {D : DataW Unit} (h : MapIs fs D) {i : Int} (hw : (Lit.int .i64 i).wf = true) (hn : placeF fs i = none) (a b : Int) : MapIs (fs ++ [⟨i, a, b⟩]) (D.put (kI i) (.lit (.int .i64 (fs.length : Int)))) := by
  have hk : WideAt.IsKeyLit (kI i) := keyedI.key (Go.Maps.keyOf_int_mk Try.underlying3 hw)
  have hmap : Maps.IsMap (D.put (kI i) (.lit (.int .i64 (fs.length : Int)))) := by
    obtain ⟨es, rfl⟩ := h.1
    exact ⟨_, rfl⟩
  refine ⟨hmap, fun j => ?_⟩
  rw [placeF_snoc]
  by_cases hj : j = i
  · subst hj
    rw [hn]
    simp only [if_true]
    exact ⟨Maps.has_put_same h.1 hk _, fun p hp z => by
      injection hp with hp
      rw [Maps.atKey_put_same h.1 hk, hp]⟩
  · have hne : kI j ≠ kI i := fun e => hj (by unfold kI at e; injection e)
    rw [Maps.has_put_other hne]
    obtain ⟨h1, h2⟩ := h.2 j
    have hne2 : ¬ i = j := fun e => hj e.symm
    cases hp : placeF fs j with
    | some p => exact ⟨by rw [h1, hp], fun q hq z => by injection hq with hq; rw [Maps.atKey_put_other hne, h2 p hp, hq]⟩
    | none => exact ⟨by rw [h1, hp]; simp [hne2], fun q hq => by simp [hne2] at hq⟩
theorem MapIs.same {fs gs : List Ft} {D : DataW Unit} (h : MapIs fs D) (he : ∀ i, placeF gs i = placeF fs i) : MapIs gs D := ⟨h.1, fun i => by rw [he]; exact h.2 i⟩

/-! ### Fates in memory -/
structure FatesAt (B F : Nat) (lv : Value) (M : Nat) (fs : List Ft) (c : Int) (w : World) : Prop where
  blk : w.heap[F]? = some (.cells #[lv, .map (some M), .int .i64 c] 78 (0, 0))
  baseF : B ≤ F
  row : QAt B 80 3 lv fs.length (fsC fs) w
  baseM : B ≤ M
  map : ∃ D : DataW Unit, w.ownsMap Try.prog 3 (plainElem Try.prog 3) M fs.length D ∧ MapIs fs D
/-- What their calls leave: all blocks but theirs. -/
structure FTurn (F M : Nat) (v : Value) (w : World) (v' : Value) (w' : World) : Prop where
  os : w'.os = w.os
  tape : w'.tape = w.tape
  output : w'.output = w.output
  size : w.heap.size ≤ w'.heap.size
  block : ∀ i, i < w.heap.size → i ≠ F → i ≠ M → v.ownBlock ≠ some i → w'.heap[i]? = w.heap[i]?
  own : v'.ownBlock = v.ownBlock ∨ ∃ g, v'.ownBlock = some g ∧ w.heap.size ≤ g
namespace FTurn
variable {F M : Nat} {v v1 v2 : Value} {w w1 w2 : World}
theorem refl (F M : Nat) (v : Value) (w : World) : FTurn F M v w v w := ⟨rfl, rfl, rfl, Nat.le_refl _, fun _ _ _ _ _ => rfl, Or.inl rfl⟩
theorem trans (h : FTurn F M v w v1 w1) (k : FTurn F M v1 w1 v2 w2) : FTurn F M v w v2 w2 := by
  refine ⟨k.os.trans h.os, k.tape.trans h.tape, k.output.trans h.output, Nat.le_trans h.size k.size, fun i hi h1 h2 h3 => ?_, ?_⟩
  · refine (k.block i (Nat.lt_of_lt_of_le hi h.size) h1 h2 (fun e => ?_)).trans (h.block i hi h1 h2 h3)
    rcases h.own with h4 | ⟨g, h4, h5⟩
    · exact h3 (h4 ▸ e)
    · rw [h4] at e
      injection e with e
      omega
  · rcases k.own with h4 | ⟨g, h4, h5⟩
    · rw [h4]
      exact h.own
    · exact Or.inr ⟨g, h4, Nat.le_trans h.size h5⟩
theorem of_below (hb : Below w.heap.size w w1) : FTurn F M v w v w1 := ⟨hb.os, hb.tape, hb.output, hb.size, fun i hi _ _ _ => hb.block i hi, Or.inl rfl⟩
theorem of_grown {row : Option Nat} (hg : w.grownBy w1 row) (hr : ∀ r, row = some r → r = F ∨ r = M ∨ v.ownBlock = some r) (ho : v1.ownBlock = v.ownBlock ∨ ∃ g, v1.ownBlock = some g ∧ w.heap.size ≤ g) : FTurn F M v w v1 w1 :=
  ⟨hg.os, hg.tape, hg.output, hg.size, fun i hi h1 h2 h3 => hg.block i hi (fun e => by
    rcases hr i e.symm with h | h | h
    · exact h1 h
    · exact h2 h
    · exact h3 h), ho⟩
theorem below {B : Nat} {fs : List Ft} {d : Int} (h : FTurn F M v w v1 w1) (hF : FatesAt B F v M fs d w) : Below B w w1 := by
  have hlt : F < w.heap.size := (Array.getElem?_eq_some_iff.1 hF.blk).1
  refine ⟨h.os, h.tape, h.output, h.size, fun i hi => h.block i (by have := hF.baseF; omega) (by have := hF.baseF; omega) (by have := hF.baseM; omega) (fun e => ?_)⟩
  have := (hF.row.block e).1
  omega
/-- A block of entries is none of theirs. -/
theorem entry {B : Nat} {fs : List Ft} {d : Int} (h : FTurn F M v w v1 w1) (hF : FatesAt B F v M fs d w) {i : Nat} {c : Array Value} (hi : w.heap[i]? = some (.cells c 54 (0, 0))) : w1.heap[i]? = some (.cells c 54 (0, 0)) := by
  refine (h.block i (Array.getElem?_eq_some_iff.1 hi).1 (fun e => ?_) (fun e => ?_) (fun e => ?_)).trans hi
  · subst e
    rw [hF.blk] at hi
    injection hi with hi
    injection hi with _ hi
    exact absurd hi (by decide)
  · subst e
    obtain ⟨D, ⟨es, clock, hb, _⟩, _⟩ := hF.map
    rw [hb] at hi
    cases hi
  · obtain ⟨_, cur, hh⟩ := hF.row.block e
    rw [hh] at hi
    injection hi with hi
    injection hi with _ hi
    exact absurd hi (by decide)
/-- Nor is one that holds a single number, or a pointer. -/
theorem box {B : Nat} {fs : List Ft} {d : Int} (h : FTurn F M v w v1 w1) (hF : FatesAt B F v M fs d w) {i : Nat} {c : Array Value} {t : TypeId} (h1 : t ≠ 78) (h2 : t ≠ 80) (hi : w.heap[i]? = some (.cells c t (0, 0))) : w1.heap[i]? = some (.cells c t (0, 0)) := by
  refine (h.block i (Array.getElem?_eq_some_iff.1 hi).1 (fun e => ?_) (fun e => ?_) (fun e => ?_)).trans hi
  · subst e
    rw [hF.blk] at hi
    injection hi with hi
    injection hi with _ hi
    exact h1 hi.symm
  · subst e
    obtain ⟨D, ⟨es, clock, hb, _⟩, _⟩ := hF.map
    rw [hb] at hi
    cases hi
  · obtain ⟨_, cur, hh⟩ := hF.row.block e
    rw [hh] at hi
    injection hi with hi
    injection hi with _ hi
    exact h2 hi.symm
end FTurn
theorem FatesAt.lt {B F : Nat} {lv : Value} {M : Nat} {fs : List Ft} {c : Int} {w : World} (h : FatesAt B F lv M fs c w) : F < w.heap.size := (Array.getElem?_eq_some_iff.1 h.blk).1
theorem FatesAt.ltM {B F : Nat} {lv : Value} {M : Nat} {fs : List Ft} {c : Int} {w : World} (h : FatesAt B F lv M fs c w) : M < w.heap.size := by
  obtain ⟨D, ho, _⟩ := h.map
  exact ho.lt
theorem FatesAt.neM {B F : Nat} {lv : Value} {M : Nat} {fs : List Ft} {c : Int} {w : World} (h : FatesAt B F lv M fs c w) : F ≠ M := fun e => by
  obtain ⟨D, ⟨es, clock, hb, _⟩, _⟩ := h.map
  rw [← e, h.blk] at hb
  cases hb
theorem FatesAt.neR {B F : Nat} {lv : Value} {M : Nat} {fs : List Ft} {c : Int} {w : World} (h : FatesAt B F lv M fs c w) : lv.ownBlock ≠ some F ∧ lv.ownBlock ≠ some M := by
  refine ⟨h.row.ne h.blk (fun cs e => by injection e with e1 e2; exact absurd e2 (by decide)), ?_⟩
  obtain ⟨D, ⟨es, clock, hb, _⟩, _⟩ := h.map
  exact h.row.ne hb (fun cs e => by cases e)
theorem FatesAt.keep {B F : Nat} {lv : Value} {M : Nat} {fs : List Ft} {c : Int} {w w' : World} (h : FatesAt B F lv M fs c w) (hk : ∀ i, i < w.heap.size → i = F ∨ i = M ∨ lv.ownBlock = some i → w'.heap[i]? = w.heap[i]?) : FatesAt B F lv M fs c w' := by
  obtain ⟨D, ⟨es, clock, hb, hf, hs, hD⟩, hm⟩ := h.map
  exact ⟨(hk F h.lt (Or.inl rfl)).trans h.blk, h.baseF, h.row.keep (fun g hg hl => hk g hl (Or.inr (Or.inr hg))), h.baseM, D, ⟨es, clock, (hk M (Array.getElem?_eq_some_iff.1 hb).1 (Or.inr (Or.inl rfl))).trans hb, hf, hs, hD⟩, hm⟩
theorem FatesAt.below {B F : Nat} {lv : Value} {M : Nat} {fs : List Ft} {c : Int} {w w' : World} (h : FatesAt B F lv M fs c w) (hb : Below w.heap.size w w') : FatesAt B F lv M fs c w' := h.keep (fun i hi _ => hb.block i hi)
theorem FatesAt.cells {B F : Nat} {lv : Value} {M : Nat} {fs : List Ft} {c : Int} {w : World} (h : FatesAt B F lv M fs c w) :
    w.cell? ⟨F, 0, none⟩ = some lv ∧ w.cell? ⟨F, 1, none⟩ = some (.map (some M)) ∧ w.cell? ⟨F, 2, none⟩ = some (.int .i64 c) ∧ ∀ j, w.frozen? ⟨F, j, none⟩ = false := by
  refine ⟨?_, ?_, ?_, fun j => frozen_of_row w F j _ _ h.blk⟩
  · rw [cell_of_row w F 0 _ _ _ h.blk]; rfl
  · rw [cell_of_row w F 1 _ _ _ h.blk]; rfl
  · rw [cell_of_row w F 2 _ _ _ h.blk]; rfl
/-- A store of the number of those that have passed. -/
theorem FatesAt.put2 {B F : Nat} {lv : Value} {M : Nat} {fs : List Ft} {c : Int} {w : World} (h : FatesAt B F lv M fs c w) (d : Int) : FatesAt B F lv M fs d (w.setCell ⟨F, 2, none⟩ (.int .i64 d)) ∧ FTurn F M lv w lv (w.setCell ⟨F, 2, none⟩ (.int .i64 d)) := by
  have hk : ∀ i, i ≠ F → (w.setCell ⟨F, 2, none⟩ (.int .i64 d)).heap[i]? = w.heap[i]? := fun i hi => Below.heap_setCell w _ _ i hi
  obtain ⟨D, ⟨es, clock, hb, hf, hs, hD⟩, hm⟩ := h.map
  refine ⟨⟨heap_setCell_same w F 2 _ _ _ h.blk, h.baseF, h.row.keep (fun g hg _ => hk g (fun e => h.neR.1 (e ▸ hg))), h.baseM, D, ⟨es, clock, (hk M (Ne.symm h.neM)).trans hb, hf, hs, hD⟩, hm⟩, rfl, rfl, rfl, by simp [World.setCell], fun i _ h1 _ _ => hk i h1, Or.inl rfl⟩
/-- A store of a last fate. -/
theorem FatesAt.putLast {B F g o cap n : Nat} {M : Nat} {fs : List Ft} {c : Int} {w : World} (h : FatesAt B F (.slice (some ⟨g, o, none⟩) n cap) M fs c w) (hn : fs.length = n) (p : Nat) (hp : p < fs.length) (u : Int) :
    FatesAt B F (.slice (some ⟨g, o, none⟩) n cap) M (fs.set p ⟨fs[p].id, fs[p].first, u⟩) c (w.setCell ⟨g, o + p * 3 + 2, none⟩ (.int .i64 u)) ∧ FTurn F M (.slice (some ⟨g, o, none⟩) n cap) w (.slice (some ⟨g, o, none⟩) n cap) (w.setCell ⟨g, o + p * 3 + 2, none⟩ (.int .i64 u)) := by
  have hk : ∀ i, i ≠ g → (w.setCell ⟨g, o + p * 3 + 2, none⟩ (.int .i64 u)).heap[i]? = w.heap[i]? := fun i hi => Below.heap_setCell w _ _ i hi
  have h1 : F ≠ g := fun e => h.neR.1 (by rw [e]; rfl)
  have h2 : M ≠ g := fun e => h.neR.2 (by rw [e]; rfl)
  obtain ⟨D, ⟨es, clock, hb, hf, hs, hD⟩, hm⟩ := h.map
  have hrow := h.row
  rw [hn] at hrow
  have hset := hrow.set rfl (p * 3 + 2) (by omega) (.int .i64 u)
  rw [← Nat.add_assoc, ← fsC_set fs p hp u] at hset
  refine ⟨⟨(hk F h1).trans h.blk, h.baseF, by rw [List.length_set, hn]; exact hset, h.baseM, D, ⟨es, clock, (hk M h2).trans hb, hf, by rw [List.length_set]; exact hs, hD⟩, hm.same (fun i => placeF_set (f := ⟨fs[p].id, fs[p].first, u⟩) hp rfl i)⟩, rfl, rfl, rfl, by simp [World.setCell], fun i _ _ _ h3 => hk i (fun e => h3 (by rw [e]; rfl)), Or.inl rfl⟩
/-- A fate of the list. -/
theorem FatesAt.fate {B F : Nat} {lv : Value} {M : Nat} {fs : List Ft} {c : Int} {w : World} (h : FatesAt B F lv M fs c w) (p : Nat) (hp : p < fs.length) : ∃ g o cap, lv = .slice (some ⟨g, o, none⟩) fs.length cap ∧
    w.cell? ⟨g, o + p * 3, none⟩ = some (.int .i64 fs[p].id) ∧ w.cell? ⟨g, o + p * 3 + 1, none⟩ = some (.int .i64 fs[p].first) ∧ w.cell? ⟨g, o + p * 3 + 2, none⟩ = some (.int .i64 fs[p].last) ∧ (∀ j, w.frozen? ⟨g, o + j, none⟩ = false) := by
  obtain ⟨g, o, cap, hv, _, _, hc, hf⟩ := h.row.at (by omega)
  obtain ⟨q0, q1, q2⟩ := fsC_at fs p hp
  refine ⟨g, o, cap, hv, ?_, ?_, ?_, hf⟩
  · rw [hc (p * 3) (by omega), q0]
  · rw [Nat.add_assoc, hc (p * 3 + 1) (by omega), q1]
  · rw [Nat.add_assoc, hc (p * 3 + 2) (by omega), q2]
/-- Behind the new id in the map, and the new fate in the list. -/
theorem FatesAt.grow {B F : Nat} {lv lv' : Value} {M : Nat} {fs : List Ft} {c : Int} {w w1 w2 : World} {D : DataW Unit} {i a b : Int} (h : FatesAt B F lv M fs c w) (hD : MapIs fs D) (hw : (Lit.int .i64 i).wf = true) (hn : placeF fs i = none)
    (hm : w1.ownsMap Try.prog 3 (plainElem Try.prog 3) M (fs.length + 1) (D.put (kI i) (.lit (.int .i64 (fs.length : Int))))) (hg1 : w.grownBy w1 (some M))
    (hq : QAt B 80 3 lv' (fs.length + 1) (fsC fs ++ [.int .i64 i, .int .i64 a, .int .i64 b]) w2) (hg2 : w1.grownBy w2 lv.ownBlock) (ho : lv'.ownBlock = lv.ownBlock ∨ ∃ g, lv'.ownBlock = some g ∧ w1.heap.size ≤ g) :
    FatesAt B F lv' M (fs ++ [⟨i, a, b⟩]) c (w2.setCell ⟨F, 0, none⟩ lv') ∧ FTurn F M lv w lv' (w2.setCell ⟨F, 0, none⟩ lv') := by
  have hk : ∀ i, i ≠ F → (w2.setCell ⟨F, 0, none⟩ lv').heap[i]? = w2.heap[i]? := fun i hi => Below.heap_setCell w2 _ _ i hi
  have hF1 : w1.heap[F]? = w.heap[F]? := hg1.block F h.lt (fun e => h.neM (Option.some.inj e))
  have hF2 : w2.heap[F]? = some (.cells #[lv, .map (some M), .int .i64 c] 78 (0, 0)) := ((hg2.block F (Nat.lt_of_lt_of_le h.lt hg1.size) (fun e => h.neR.1 e.symm)).trans hF1).trans h.blk
  have hM2 : w2.heap[M]? = w1.heap[M]? := hg2.block M (Nat.lt_of_lt_of_le h.ltM hg1.size) (fun e => h.neR.2 e.symm)
  have hown : lv'.ownBlock = lv.ownBlock ∨ ∃ g, lv'.ownBlock = some g ∧ w.heap.size ≤ g := ho.imp id (fun ⟨g, h1, h2⟩ => ⟨g, h1, Nat.le_trans hg1.size h2⟩)
  have hqF : lv'.ownBlock ≠ some F := hq.ne hF2 (fun cs e => by injection e with e1 e2; exact absurd e2 (by decide))
  obtain ⟨es, clock, hb, hf, hs, hD'⟩ := hm
  refine ⟨⟨heap_setCell_same w2 F 0 _ _ _ hF2, h.baseF, ?_, h.baseM, _, ⟨es, clock, ?_, hf, by rw [List.length_append]; exact hs, hD'⟩, hD.put hw hn a b⟩, hg2.os.trans hg1.os, hg2.tape.trans hg1.tape, hg2.output.trans hg1.output, Nat.le_trans hg1.size (Nat.le_trans hg2.size (by simp [World.setCell])), fun j hj h1 h2 h3 => ?_, hown⟩
  · rw [List.length_append, fsC_append]
    exact hq.keep (fun g hg _ => hk g (fun e => hqF (e ▸ hg)))
  · exact ((hk M (Ne.symm h.neM)).trans hM2).trans hb
  · exact ((hk j h1).trans (hg2.block j (Nat.lt_of_lt_of_le hj hg1.size) (fun e => h3 e.symm))).trans (hg1.block j hj (fun e => h2 (Option.some.inj e)))
/-- What a look-up answers. -/
theorem FatesAt.look {B F : Nat} {lv : Value} {M : Nat} {fs : List Ft} {c : Int} {w : World} (h : FatesAt B F lv M fs c w) {i : Int} (hw : (Lit.int .i64 i).wf = true) :
    (Instr.lookup 76 (.map (some M)) (.int .i64 i) true).run Try.prog w = .ok (.tuple #[.int .i64 (plN (placeF fs i)), .bool (placeF fs i).isSome]) w := by
  obtain ⟨D, ho, hm⟩ := h.map
  have hat : ∀ c, D.atKey (kI i) (.lit (.int .i64 0)) = .lit (.int .i64 c) → c = (plN (placeF fs i)) := fun c hc => by
    cases hp : placeF fs i with
    | some p =>
      rw [(hm.2 i).2 p hp] at hc
      injection hc with hc
      injection hc with _ hc
      exact hc.symm
    | none =>
      have hn : Maps.has D (kI i) = false := by rw [(hm.2 i).1, hp]; rfl
      rw [Maps.atKey_of_not_has hn] at hc
      injection hc with hc
      injection hc with _ hc
      exact hc.symm
  obtain ⟨v, ps, hrun, hv⟩ := ho.look_ok keyedI Try.underlying76 (zeroI w) (plainElem_int Try.underlying3 (by decide)) (Go.Maps.keyOf_int_mk Try.underlying3 hw)
  obtain ⟨c, rfl, hc, _⟩ := plainElem_int_inv Try.underlying3 hv
  rw [hrun, show Maps.has D (Lit.int .i64 i) = _ from (hm.2 i).1, hat c (congrArg Prod.fst hc)]

set_option maxHeartbeats 1000000 in
theorem newFates_any (w : World) : Calls Try.prog 27 #[] w fun e w' => e = .returned (.pointer (some ⟨w.heap.size + 1, 0, none⟩)) ∧ FatesAt w.heap.size (w.heap.size + 1) (.slice none 0 0) w.heap.size [] 0 w' ∧ Below w.heap.size w w' ∧ w'.heap.size = w.heap.size + 1 + 1 := by
  have hm := World.ownsMap_made w Try.prog 3 (plainElem (H := Unit) Try.prog 3)
  have hmm := @run_makeMap Try.prog
  go_enter Try.func27, Try.ntmps27
  go_wp2
  go_ret
  refine ⟨by simp, ⟨?_, by omega, QAt.nil _ _ _ _, Nat.le_refl _, .map [], hm.alloc _, MapIs.nil⟩, ((Below.refl _ w).alloc (Nat.le_refl _) _).alloc (by simp) _, by simp⟩
  have := heap_alloc_new (w.alloc (.map #[] 0)) (.cells #[.slice none 0 0, .map (some w.heap.size), .int .i64 0] 78)
  rw [World.size_alloc] at this
  exact this
set_option maxHeartbeats 1000000 in
theorem told_any (B F : Nat) (lv : Value) (M : Nat) (fs : List Ft) (w : World) (h : FatesAt B F lv M fs (fs.countP passed : Int) w) (hs : fs.length ≤ 2000000) :
    Calls Try.prog 30 #[.pointer (some ⟨F, 0, none⟩)] w fun e w' => e = .returned (.int .i64 (toldL fs)) ∧ ∃ q, w' = w.drewN q := by
  obtain ⟨c0, _, c2, _⟩ := h.cells
  obtain ⟨la, lc, rfl⟩ := h.row.form
  have hc := count_le fs
  unfold toldL
  generalize hn : fs.countP passed = n at c2 hc ⊢
  have g1 : (n : Int) ≤ (fs.length : Int) := by omega
  have g2 : (fs.length : Int) ≤ 2000000 := by omega
  clear h hn
  go_enter Try.func30, Try.ntmps30
  go_wp2_with fail
  go_quiet (fail)
  go_wp2_with fail
  go_ret
  exact ⟨rfl, _, rfl⟩
set_option maxHeartbeats 1000000 in
theorem passed_any (f : Ft) (w : World) : Calls Try.prog 31 #[.agg #[.int .i64 f.id, .int .i64 f.first, .int .i64 f.last]] w fun e w' => e = .returned (.bool (passed f)) ∧ Below w.heap.size w w' := by
  have HP : Hid (passed f = (decide (f.first = 1) && decide (f.last = 3))) := Lib.hid rfl
  by_cases h1 : f.first = 1
  · go_enter Try.func31, Try.ntmps31
    go_wp2
    go_ret
    refine ⟨?_, (Below.refl _ w).alloc (Nat.le_refl _) _⟩
    rw [HP.out]
    by_cases h2 : f.last = 3 <;> simp [h1, h2]
  · go_enter Try.func31, Try.ntmps31
    go_wp2
    go_ret
    refine ⟨?_, (Below.refl _ w).alloc (Nat.le_refl _) _⟩
    rw [HP.out]
    by_cases h2 : f.last = 3 <;> simp [h1, h2]
end Go.Proofs.Ytojjlbhodiphdaa.Lg
