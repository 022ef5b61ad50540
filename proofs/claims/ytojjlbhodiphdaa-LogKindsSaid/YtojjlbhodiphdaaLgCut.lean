/-
  log.steps gives an iterator over the entries of a kind above a clock up to another, all of one clock at once: each time a new slice. Conditions: clocks do not fall; at most 1000000 entries are kept.
-/
import Derived.Test.YtojjlbhodiphdaaLgFind
import Derived.Test.YtojjlbhodiphdaaLgRange
import Derived.Shelf.RegionOpen
import Derived.OwnWalkIn
import Derived.TacticsInMore
import Derived.LoopNIn
import Derived.LoopIn
namespace Go.Proofs.Ytojjlbhodiphdaa.Lg
open Go Go.RowKit Go.Joins Go.Shelf

/-- A step as the loop's body is handed it: the entries, the slice that holds them. -/
abbrev Gr := List En × Value
def encG (x : Gr) : Array Value := #[x.2]
def AtG (B : Nat) (x : Gr) (W : World) : Prop := QAt B 54 4 x.2 x.1.length (esC x.1) W
/-- The four boxes that the iterator reads. -/
structure Boxes (lb : Nat) (kind a b : Int) (A1 A2 A3 A4 : Nat) (W : World) : Prop where
  log : Boxed W A1 25 (.pointer (some ⟨lb, 0, none⟩))
  lo : Boxed W A2 3 (.int .i64 a)
  hi : Boxed W A3 3 (.int .i64 b)
  kd : Boxed W A4 3 (.int .i64 kind)
theorem Boxes.grown {lb : Nat} {kind a b : Int} {A1 A2 A3 A4 : Nat} {W W' : World} (h : Boxes lb kind a b A1 A2 A3 A4 W) (hg : W.grownBy W' none) : Boxes lb kind a b A1 A2 A3 A4 W' :=
  ⟨h.log.kept hg (by simp), h.lo.kept hg (by simp), h.hi.kept hg (by simp), h.kd.kept hg (by simp)⟩
/-- What a round that goes on keeps: what lay ahead, the iterator's boxes, what the iterator has made since. -/
structure KpG (n0 n1 : Nat) (R : World → Prop) (W W' : World) : Prop where
  below : Below n0 W W'
  boxes : R W → R W'
  cells : ∀ i c, n1 ≤ i → W.heap[i]? = some (.cells c 54 (0, 0)) → W'.heap[i]? = some (.cells c 54 (0, 0))
theorem KpG.t {n0 n1 : Nat} {R : World → Prop} {A B C : World} (h : KpG n0 n1 R A B) (k : KpG n0 n1 R B C) : KpG n0 n1 R A C :=
  ⟨h.below.trans k.below, fun x => k.boxes (h.boxes x), fun i c hi hc => k.cells i c hi (h.cells i c hi hc)⟩
theorem Boxes.put {lb : Nat} {kind a b : Int} {A1 A2 A3 A4 : Nat} {W : World} (hb : Boxes lb kind a b A1 A2 A3 A4 W) {l : Nat} {o : Obj} (o' : Obj) (h : W.heap[l]? = some o) (hc : o.isCells = false) : Boxes lb kind a b A1 A2 A3 A4 (W.putObj l o') := by
  have hne : ∀ {A : Nat} {t : TypeId} {v : Value}, Boxed W A t v → some A ≠ some l := fun hA e => by
    cases e
    rw [show W.heap[l]? = _ from hA] at h
    cases h
    cases hc
  exact ⟨hb.log.kept (grownBy_putObj' W l o') (hne hb.log), hb.lo.kept (grownBy_putObj' W l o') (hne hb.lo), hb.hi.kept (grownBy_putObj' W l o') (hne hb.hi), hb.kd.kept (grownBy_putObj' W l o') (hne hb.kd)⟩
theorem kpG_put {n0 n1 lb : Nat} {kind a b : Int} {A1 A2 A3 A4 : Nat} {w W : World} (hn : n0 ≤ w.heap.size) (l : Nat) (o o' : Obj) (hl : w.heap.size ≤ l) (h : W.heap[l]? = some o) (hc : o.isCells = false) (hw : o.isWalk = false) :
    KpG n0 n1 (Boxes lb kind a b A1 A2 A3 A4) W (W.putObj l o') := by
  refine ⟨belowK_b hn W l o o' hl h hc hw, fun hb => hb.put o' h hc, fun i c _ hi => ?_⟩
  refine ((grownBy_putObj' W l o').block i (Array.getElem?_eq_some_iff.1 hi).1 (fun e => ?_)).trans hi
  cases e
  rw [h] at hi
  cases hi
  cases hc
theorem AtG.put {B : Nat} {x : Gr} {W : World} (h : AtG B x W) {l : Nat} {o : Obj} (o' : Obj) (hl : W.heap[l]? = some o) (hc : o.isCells = false) : AtG B x (W.putObj l o') := by
  unfold AtG at h ⊢
  refine h.kept (grownBy_putObj' W l o') (fun r e hv => ?_)
  cases e
  obtain ⟨_, cur, hh⟩ := h.block hv
  rw [hl] at hh
  cases hh
  cases hc

set_option maxHeartbeats 1000000 in
theorem steps_any (lb : Nat) (kind a b : Int) (w : World) :
    Calls Try.prog 28 #[.pointer (some ⟨lb, 0, none⟩), .int .i64 kind, .int .i64 a, .int .i64 b] w fun e w' =>
      e = .returned (.func (.func 32) #[] #[.pointer (some ⟨w.heap.size, 0, none⟩), .pointer (some ⟨w.heap.size + 1 + 1, 0, none⟩), .pointer (some ⟨w.heap.size + 1 + 1 + 1, 0, none⟩), .pointer (some ⟨w.heap.size + 1, 0, none⟩)]) ∧
      w' = (((w.alloc (.cells #[.pointer (some ⟨lb, 0, none⟩)] 25)).alloc (.cells #[.int .i64 kind] 3)).alloc (.cells #[.int .i64 a] 3)).alloc (.cells #[.int .i64 b] 3) := by
  go_enter Try.func28, Try.ntmps28
  go_wp2
  go_ret
  exact ⟨by simp, rfl⟩

/-- The entries that are gone through, as a slice. -/
theorem slice_cut (B : Nat) (va : Option Addr) (vc : Nat) (k : List En) (p q : Nat) (w : World) (hpq : p ≤ q) (hq : q ≤ k.length) (h : QAt B 54 4 (.slice va k.length vc) k.length (esC k) w) :
    ∃ sa sc, (∀ w' : World, (Instr.slice 31 (.slice va k.length vc) (some (.int .i64 (p : Int))) (some (.int .i64 (q : Int))) none).run Try.prog w' = .ok (.slice sa (q - p) sc) w') ∧
      (∀ g, (Value.slice sa (q - p) sc).ownBlock = some g → (Value.slice va k.length vc).ownBlock = some g) ∧ SAt w (.slice sa (q - p) sc) 4 (q - p) (esC ((k.take q).drop p)) := by
  have run : ∀ w' : World, (p : Int) ≤ (q : Int) → (q : Int) ≤ (vc : Int) → (Instr.slice 31 (.slice va k.length vc) (some (.int .i64 (p : Int))) (some (.int .i64 (q : Int))) none).run Try.prog w' = .ok (sliced va p q vc 4) w' := fun w' h1 h2 => by
    rw [run_slice_lh w' 31 va k.length vc Try.underlying31 .i64 .i64 (p : Int) (q : Int) (by omega) h1 h2]
    rw [show (sizeOf (Try.prog.elem 31)).run Try.prog w' = .ok 4 w' from Try.sizeOf54 (w := w')]
    rfl
  rcases h.2 with ⟨hv, h0⟩ | ⟨g, o, cap, cur, hv, hb, hh, hs, hc, hm, hx⟩
  · injection hv with e1 e2 e3
    subst e1 e3
    obtain rfl : q = 0 := by omega
    obtain rfl : p = 0 := by omega
    exact ⟨none, 0, fun w' => run w' (Int.le_refl _) (by omega), fun g hg => hg, Or.inl ⟨rfl, none, 0, rfl⟩⟩
  · injection hv with e1 e2 e3
    subst e1 e3
    by_cases hcp : vc = p
    · subst hcp
      obtain rfl : q = vc := by omega
      refine ⟨some ⟨g, o, none⟩, q - q, fun w' => ?_, fun g hg => hg, Or.inl ⟨by omega, some ⟨g, o, none⟩, q - q, by rw [Nat.sub_self]⟩⟩
      rw [run w' (Int.le_refl _) (by omega)]
      unfold sliced
      rw [if_pos rfl]
    · refine ⟨some ⟨g, o + p * 4, none⟩, vc - p, fun w' => ?_, fun g hg => hg, Or.inr ⟨g, o + p * 4, vc - p, rfl, by omega, by omega, fun j hj => ?_⟩⟩
      · rw [run w' (by omega) (by omega)]
        unfold sliced
        rw [if_neg hcp, Option.map_some, Addr.add_lit]
      · rw [cell_of_row w g _ cur _ (0, 0) hh, Nat.add_assoc, hx (p * 4 + j) (by omega)]
        have e : esC k = esC (k.take p) ++ (esC ((k.take q).drop p) ++ esC (k.drop q)) := by
          rw [← esC_append, ← esC_append]
          congr 1
          rw [← List.append_assoc, show k.take p = (k.take q).take p by rw [List.take_take, Nat.min_eq_left hpq], List.take_append_drop, List.take_append_drop]
        rw [e, List.getElem?_append_right (by rw [esC_length, List.length_take]; omega), esC_length, List.length_take, Nat.min_eq_left (by omega), Nat.add_sub_cancel_left, List.getElem?_append_left (by rw [esC_length, List.length_drop, List.length_take]; omega)]

end Go.Proofs.Ytojjlbhodiphdaa.Lg
