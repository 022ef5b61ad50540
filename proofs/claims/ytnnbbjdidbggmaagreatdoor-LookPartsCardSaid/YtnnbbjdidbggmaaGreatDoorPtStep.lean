/-
  What stands still while parts are counted: all blocks but the counter's, as they were; a region that draws its order within a round of a range over a function, walked outside of one. No law and no function of the project in this text. Conditions: none.
-/
import Derived.Test.YtnnbbjdidbggmaaGreatDoorPtMem
import Derived.RangeFuncCalls
import Derived.RangeFuncBound
import Derived.OrdersIn
import Derived.Deep.RegionHeld
namespace Go.Proofs.YtnnbbjdidbggmaaGreatDoor.Pt
open Go Go.RowKit Go.Joins Kit F0

/-- All blocks that were there, but R, are as they were. -/
structure Step (R : Nat) (w w' : World) : Prop where
  os : w'.os = w.os
  tape : w'.tape = w.tape
  output : w'.output = w.output
  size : w.heap.size ≤ w'.heap.size
  block : ∀ k, k < w.heap.size → k ≠ R → w'.heap[k]? = w.heap[k]?
namespace Step
variable {R : Nat} {w w' w'' : World}
theorem refl (R : Nat) (w : World) : Step R w w := ⟨rfl, rfl, rfl, Nat.le_refl _, fun _ _ _ => rfl⟩
theorem trans (h : Step R w w') (k : Step R w' w'') : Step R w w'' :=
  ⟨k.os.trans h.os, k.tape.trans h.tape, k.output.trans h.output, Nat.le_trans h.size k.size, fun i hi hn => (k.block i (Nat.lt_of_lt_of_le hi h.size) hn).trans (h.block i hi hn)⟩
theorem of_below (h : Below w.heap.size w w') : Step R w w' := ⟨h.os, h.tape, h.output, h.size, fun k hk _ => h.block k hk⟩
theorem drew (h : Step R w w') : Step R w w'.drew := ⟨h.os, h.tape, h.output, h.size, h.block⟩
theorem alloc (h : Step R w w') (o : Obj) : Step R w (w'.alloc o) := h.trans (of_below ((Below.refl _ w').alloc (Nat.le_refl _) o))
theorem set (h : Step R w w') (o : Nat) (v : Value) : Step R w (w'.setCell ⟨R, o, none⟩ v) :=
  h.trans ⟨rfl, rfl, rfl, by simp [World.setCell], fun _ _ hn => Below.heap_setCell _ _ _ _ hn⟩
/-- A store into a block that was not there. -/
theorem setNew (h : Step R w w') {g : Nat} (hg : w.heap.size ≤ g) (o : Nat) (v : Value) : Step R w (w'.setCell ⟨g, o, none⟩ v) :=
  ⟨h.os, h.tape, h.output, Nat.le_trans h.size (by simp [World.setCell]), fun k hk hn => (Below.heap_setCell w' _ v k (by show k ≠ g; omega)).trans (h.block k hk hn)⟩
/-- What turns a row of the call's own. -/
theorem grown {row : Option Nat} (h : Step R w w') (hg : w'.grownBy w'' row) (hr : ∀ r, row = some r → w.heap.size ≤ r) : Step R w w'' :=
  ⟨hg.os.trans h.os, hg.tape.trans h.tape, hg.output.trans h.output, Nat.le_trans h.size hg.size, fun k hk hn => (hg.block k (Nat.lt_of_lt_of_le hk h.size) (fun e => by have := hr k e.symm; omega)).trans (h.block k hk hn)⟩
/-- The counter's block is new: nothing that was there has turned. -/
theorem below {a : World} {B : Nat} (h : Step R w w') (h0 : Below B a w) (hR : B ≤ R) (hB : B ≤ w.heap.size) : Below B a w' :=
  ⟨h.os.trans h0.os, h.tape.trans h0.tape, h.output.trans h0.output, Nat.le_trans h0.size h.size, fun k hk => (h.block k (Nat.lt_of_lt_of_le hk hB) (by omega)).trans (h0.block k hk)⟩
theorem box (h : Step R w w') {A : Nat} {t : TypeId} {v : Value} (hA : Boxed w A t v) (hn : A ≠ R) : Boxed w' A t v := by
  unfold Boxed at hA ⊢
  rw [h.block A (Array.getElem?_eq_some_iff.1 hA).1 hn]
  exact hA
theorem put8 (h : Step R w w') {g : Nat} (hg : w.heap.size ≤ g) (q : Nat) (c0 c1 c2 c3 c4 c5 c6 c7 : Value) : Step R w (Pt.put8 w' g q c0 c1 c2 c3 c4 c5 c6 c7) :=
  ((((((((h.setNew hg _ _).setNew hg _ _).setNew hg _ _).setNew hg _ _).setNew hg _ _).setNew hg _ _).setNew hg _ _).setNew hg _ _)
end Step

/-! ### A region within a round -/
def noDefer (o : Oper) : Bool := match o.op with
  | .defer _ => false
  | _ => true
theorem oper_round {P : Program} {o : Oper} {a : Act} {w : World} {n l : Nat} {K : Act → World → Prop} {Q : Exit → Act → World → Prop} (hd : noDefer o = true) (h : o.wp P a w K Q) : o.wpIn (Fence.wide.inRound l) n P a w K Q := by
  unfold Oper.wpIn
  refine ⟨fun _ _ => trivial, ?_⟩
  rw [Oper.semAt_eq _ _ _ (fun c hc => by unfold noDefer at hd; rw [hc] at hd; cases hd)]
  unfold Oper.wp at h
  generalize (execOp a.eval o).run P w = r at *
  cases r with
  | ok x w' =>
    cases x with
    | value v => exact h
    | skip => exact h
    | defer d => exact h
    | enter f args => exact ⟨fun hx => Bool.noConfusion (show false = true from hx), CallsIn.inRound l (callsIn_wide.2 h)⟩
    | row r args => exact ⟨fun hx => Bool.noConfusion (show false = true from hx), fun c cs _ => let ⟨v, w2, hr, hs⟩ := h c cs; ⟨v, w2, hr, stepsIn_wide.2 hs⟩⟩
    | _ => exact h.elim
  | halt x w' =>
    cases x with
    | panic v => exact h
    | _ => exact h.elim
theorem ops_round {P : Program} {ops : Array Oper} {n l : Nat} {Q : Exit → Act → World → Prop} (hd : ops.all noDefer = true) (hQ : ¬ LetsOut Q) : ∀ (is : List Nat) (a : Act) (w : World), wpOps P ops Q is a w → wpOpsIn (Fence.wide.inRound l) n P ops Q is a w
  | [], _, _, h => h
  | i :: rest, a, w, h => by
    rw [wpOps_cons] at h
    rw [wpOpsIn_cons]
    unfold wpOp at h
    unfold wpOpIn
    cases ho : ops[i]? with
    | none => rw [ho] at h; exact ops_round hd hQ rest a w h
    | some o =>
      rw [ho] at h
      simp only at h ⊢
      have hdo : noDefer o = true := by
        obtain ⟨hl, he⟩ := Array.getElem?_eq_some_iff.1 ho
        rw [← he]
        exact Array.all_eq_true.1 hd i hl
      split
      · rename_i hw
        rw [if_pos hw] at h
        rcases h with h | ⟨_, h⟩
        · exact oper_round hdo (Oper.wp_mono (fun a w hk => ops_round hd hQ rest a w hk) h)
        · exact absurd h hQ
      · rename_i hw
        rw [if_neg hw] at h
        exact ⟨fun _ _ => trivial, ops_round hd hQ rest _ w h⟩
/-- A region that draws its order, within a round. -/
theorem region_round {P : Program} {id : Nat} {ops : Array Oper} {n l : Nat} {Q : Exit → Act → World → Prop} {a : Act} {w : World} (hm : P.follows .mixedOrders = true) (hd : ops.all noDefer = true) (hQ : ¬ LetsOut Q)
    (h : wpAny P .any ops Q ops.size (Array.replicate ops.size false) a w.drew) : (Code.region id ops true).wpIn (Fence.wide.inRound l) n P Q a w :=
  wpIn_region_draw fun t => by
    simp only [Region.schedule, hm, Bool.true_or, if_true]
    exact ops_round hd hQ _ _ _ (wpAny_sound ops.size t _ a _ h)
/-- .. where loads are taken first under a condition on the world. -/
theorem region_round_held {P : Program} {id : Nat} {ops : Array Oper} {n l : Nat} {Q : Exit → Act → World → Prop} {a : Act} {w : World} {S : World → Prop} (hm : P.follows .mixedOrders = true) (hd : ops.all noDefer = true) (hQ : ¬ LetsOut Q)
    (hS : S w.drew) (h : S w.drew → wpAnyH P .any ops Q S ops.size (Array.replicate ops.size false) a w.drew) : (Code.region id ops true).wpIn (Fence.wide.inRound l) n P Q a w :=
  region_round hm hd hQ (wpAny_of_held _ _ _ _ (h hS))
/-- The same, the drawn world under a name of its own. -/
theorem region_round_named {P : Program} {id : Nat} {ops : Array Oper} {n l : Nat} {Q : Exit → Act → World → Prop} {a : Act} {w : World} {S : World → Prop} (hm : P.follows .mixedOrders = true) (hd : ops.all noDefer = true) (hQ : ¬ LetsOut Q)
    (hS : S w.drew) (h : ∀ wd, w.drew = wd → S wd → wpAnyH P .any ops Q S ops.size (Array.replicate ops.size false) a wd) : (Code.region id ops true).wpIn (Fence.wide.inRound l) n P Q a w :=
  region_round_held hm hd hQ hS (fun hS => h _ rfl hS)
end Go.Proofs.YtnnbbjdidbggmaaGreatDoor.Pt
