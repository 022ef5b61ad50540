/-
  log.reach tells how far clocks are taken, as far as the lists hold so many ids. Conditions: clocks do not fall; ids are numbers of their type; at most 1000000 entries are kept.
-/
import Derived.Test.YtojjlbhodiphdaaLgStep
import Derived.Test.YtojjlbhodiphdaaLgFtA
namespace Go.Proofs.Ytojjlbhodiphdaa.Lg
open Go Go.RowKit Go.Joins Go.Shelf

attribute [local go_sem] Oper.semAt_some

/-! ### A region within a round -/
theorem oper_round {P : Program} {o : Oper} {a : Act} {w : World} {n l : Nat} {K : Act → World → Prop} {Q : Exit → Act → World → Prop} (hd : noDefer o = true) (h : o.wp P a w K Q) : o.wpIn (Fence.wide.inRound l) n P a w K Q := by
  unfold Oper.wpIn
  refine ⟨fun _ _ => trivial, ?_⟩
  rw [Oper.semAt_eq _ _ _ (fun c hc => by unfold noDefer at hd; rw [hc] at hd; cases hd)]
  unfold Oper.wp at h
  generalize (execOp a.eval o).run P w = r at *
  cases r with
  | ok x w' =>
    cases x with
    | value v => exact h
    | skip => exact h
    | defer d => exact h
    | enter f args => exact ⟨fun hx => Bool.noConfusion (show false = true from hx), CallsIn.inRound l (callsIn_wide.2 h)⟩
    | row r args => exact ⟨fun hx => Bool.noConfusion (show false = true from hx), fun c cs _ => let ⟨v, w2, hr, hs⟩ := h c cs; ⟨v, w2, hr, stepsIn_wide.2 hs⟩⟩
    | _ => exact h.elim
  | halt x w' =>
    cases x with
    | panic v => exact h
    | _ => exact h.elim
theorem ops_round {P : Program} {ops : Array Oper} {n l : Nat} {Q : Exit → Act → World → Prop} (hd : ops.all noDefer = true) (hQ : ¬ LetsOut Q) : ∀ (is : List Nat) (a : Act) (w : World), wpOps P ops Q is a w → wpOpsIn (Fence.wide.inRound l) n P ops Q is a w
  | [], _, _, h => h
  | i :: rest, a, w, h => by
    rw [wpOps_cons] at h
    rw [wpOpsIn_cons]
    unfold wpOp at h
    unfold wpOpIn
    cases ho : ops[i]? with
    | none => rw [ho] at h; exact ops_round hd hQ rest a w h
    | some o =>
      rw [ho] at h
      simp only at h ⊢
      have hdo : noDefer o = true := by
        obtain ⟨hl, he⟩ := Array.getElem?_eq_some_iff.1 ho
        rw [← he]
        exact Array.all_eq_true.1 hd i hl
      split
      · rename_i hw
        rw [if_pos hw] at h
        rcases h with h | ⟨_, h⟩
        · exact oper_round hdo (Oper.wp_mono (fun a w hk => ops_round hd hQ rest a w hk) h)
        · exact absurd h hQ
      · rename_i hw
        rw [if_neg hw] at h
        exact ⟨fun _ _ => trivial, ops_round hd hQ rest _ w h⟩
theorem region_round_quiet {P : Program} {id : Nat} {ops : Array Oper} {n l : Nat} {Q : Exit → Act → World → Prop} {a : Act} {w : World} {C : World → Prop} (hm : P.follows .mixedOrders = true) (hd : ops.all noDefer = true) (hQ : ¬ LetsOut Q)
    (hB : Region.lexB .any ops = true) (hC : C w.drew) (h : wpQuiet P ops C (fun a' => ∀ w', C w' → Q .normal a' w') ops.toList a) : (Code.region id ops true).wpIn (Fence.wide.inRound l) n P Q a w := by
  simp only [Region.lexB, Bool.and_eq_true] at hB
  refine wpIn_region_draw fun t => ?_
  simp only [Region.schedule, hm, Bool.true_or, if_true]
  refine ops_round hd hQ _ _ _ (wpAny_sound ops.size t _ a _ (wpAny_of_quiet (Q := fun a' => ∀ w', C w' → Q .normal a' w') (fun _ w' hw' h => h w' hw') _ _ _ _ hC ?_))
  have := wpAnyQ_lex (C := C) (md := .any) hB.1 ops.toList 0 (Array.replicate ops.size false) a (by simp) (by simpa using hB.2) h
  simpa using this

/-! ### What the fates' calls keep of a range's own -/
theorem FTurn.from {F M : Nat} {v v1 : Value} {w w1 : World} {B B' : Nat} {fs : List Ft} {d : Int} (h : FTurn F M v w v1 w1) (hF : FatesAt B F v M fs d w) (h1 : F < B') (h2 : M < B') : KeepsFrom B' w w1 :=
  ⟨h.size, fun k o hk ho hc => by
    refine (h.block k (Array.getElem?_eq_some_iff.1 ho).1 (by omega) (by omega) (fun e => ?_)).trans ho
    obtain ⟨_, cur, hh⟩ := hF.row.block e
    rw [ho] at hh
    injection hh with hh
    subst hh
    cases hc⟩
theorem FTurn.boxed {F M : Nat} {v v1 : Value} {w w1 : World} {B : Nat} {fs : List Ft} {d : Int} (h : FTurn F M v w v1 w1) (hF : FatesAt B F v M fs d w) {i : Nat} {t : TypeId} {u : Value} (h1 : t ≠ 78) (h2 : t ≠ 80) (hb : Boxed w i t u) : Boxed w1 i t u := h.box hF h1 h2 hb
theorem FTurn.kpG {F M n0 n1 lb : Nat} {kind a b : Int} {A1 A2 A3 A4 : Nat} {v v1 : Value} {w w1 : World} {B : Nat} {fs : List Ft} {d : Int} (h : FTurn F M v w v1 w1) (hF : FatesAt B F v M fs d w) (hB : n0 ≤ B) : KpG n0 n1 (Boxes lb kind a b A1 A2 A3 A4) w w1 := by
  have hb := h.below hF
  exact ⟨⟨hb.os, hb.tape, hb.output, hb.size, fun k hk => hb.block k (by omega)⟩, fun hx => ⟨h.boxed hF (by decide) (by decide) hx.log, h.boxed hF (by decide) (by decide) hx.lo, h.boxed hF (by decide) (by decide) hx.hi, h.boxed hF (by decide) (by decide) hx.kd⟩, fun i c _ hi => h.entry hF hi⟩
/-- A store into a box. -/
theorem kpG_set {n0 n1 lb : Nat} {kind a b : Int} {A1 A2 A3 A4 : Nat} {w : World} {i : Nat} (u : Value) (h0 : n0 ≤ i) (h1 : i < n1) (ha : i ≠ A1 ∧ i ≠ A2 ∧ i ≠ A3 ∧ i ≠ A4) : KpG n0 n1 (Boxes lb kind a b A1 A2 A3 A4) w (w.setCell ⟨i, 0, none⟩ u) := by
  have hg := grownBy_setCell' w i u
  refine ⟨(Below.refl n0 w).setCell (p := ⟨i, 0, none⟩) h0 u, fun hx => ⟨hx.log.kept hg ?_, hx.lo.kept hg ?_, hx.hi.kept hg ?_, hx.kd.kept hg ?_⟩, fun j c hj hi => (hg.block j (Array.getElem?_eq_some_iff.1 hi).1 (fun e => by have := Option.some.inj e; omega)).trans hi⟩
  · exact fun e => ha.1 (Option.some.inj e).symm
  · exact fun e => ha.2.1 (Option.some.inj e).symm
  · exact fun e => ha.2.2.1 (Option.some.inj e).symm
  · exact fun e => ha.2.2.2 (Option.some.inj e).symm
theorem FatesAt.turns {B F : Nat} {lv : Value} {M : Nat} {fs : List Ft} {c : Int} {w w' : World} {B' : Nat} {row : Option Nat} (h : FatesAt B F lv M fs c w) (h1 : F < B') (h2 : M < B') (hg : w.grownBy w' row) (hr : Turns B' w row) : FatesAt B F lv M fs c w' :=
  h.keep (fun i hi hx => hg.block i hi (fun e => by
    obtain ⟨h3, o, ho, hc⟩ := hr i e.symm
    rcases hx with rfl | rfl | hx
    · omega
    · omega
    · obtain ⟨_, cur, hh⟩ := h.row.block hx
      rw [ho] at hh
      injection hh with hh
      subst hh
      cases hc))
theorem boxed_turns {w w' : World} {B' A : Nat} {t : TypeId} {u : Value} {row : Option Nat} (h : Boxed w A t u) (hA : A < B') (hg : w.grownBy w' row) (hr : Turns B' w row) : Boxed w' A t u := h.kept hg (fun e => by have := (hr A e.symm).1; omega)
theorem below_turns {n0 : Nat} {w0 w w' : World} {B' : Nat} {row : Option Nat} (h : Below n0 w0 w) (hn : n0 ≤ w0.heap.size) (hB : n0 ≤ B') (hg : w.grownBy w' row) (hr : Turns B' w row) : Below n0 w0 w' :=
  h.grown hg (Nat.le_trans hn h.size) (fun j ej => by have := (hr j ej).1; omega)
/-- What reach keeps while it goes through the steps. -/
structure RS (N0 : Nat) (w : World) (most last res : Int) (L : List En) (W : World) : Prop where
  fates : ∃ lv, FatesAt (N0 + 3) (N0 + 4) lv (N0 + 3) (fatesL L) ((fatesL L).countP passed : Int) W
  bm : Boxed W N0 3 (.int .i64 most)
  br : Boxed W (N0 + 1) 3 (.int .i64 res)
  bl : Boxed W (N0 + 2) 3 (.int .i64 last)
  bt : Boxed W (N0 + 5) 70 (.pointer (some ⟨N0 + 4, 0, none⟩))
  bel : Below N0 w W
  size : N0 + 10 ≤ W.heap.size
theorem RS.turns {N0 : Nat} {w : World} {most last res : Int} {L : List En} {W W' : World} {row : Option Nat} (h : RS N0 w most last res L W) (hN : N0 ≤ w.heap.size) (hg : W.grownBy W' row) (hr : Turns (N0 + 10) W row) : RS N0 w most last res L W' := by
  obtain ⟨lv, hf⟩ := h.fates
  exact ⟨⟨lv, hf.turns (by omega) (by omega) hg hr⟩, boxed_turns h.bm (by omega) hg hr, boxed_turns h.br (by omega) hg hr, boxed_turns h.bl (by omega) hg hr, boxed_turns h.bt (by omega) hg hr, below_turns h.bel hN (by omega) hg hr, Nat.le_trans h.size hg.size⟩
theorem RS.setLast {N0 : Nat} {w : World} {most last res : Int} {L : List En} {W : World} (h : RS N0 w most last res L W) (x : Int) : RS N0 w most x res L (W.setCell ⟨N0 + 2, 0, none⟩ (.int .i64 x)) := by
  obtain ⟨lv, hf⟩ := h.fates
  have hg := grownBy_setCell' W (N0 + 2) (.int .i64 x)
  have ho : ∀ {A : Nat} {t : TypeId} {u : Value}, Boxed W A t u → A ≠ N0 + 2 → Boxed (W.setCell ⟨N0 + 2, 0, none⟩ (.int .i64 x)) A t u := fun hb hne => hb.kept hg (fun e => hne (Option.some.inj e))
  refine ⟨⟨lv, hf.keep (fun i hi hx => hg.block i hi (fun e => ?_))⟩, ho h.bm (by omega), ho h.br (by omega), h.bl.set _, ho h.bt (by omega), h.bel.setCell (p := ⟨N0 + 2, 0, none⟩) (by show N0 ≤ N0 + 2; omega) _, Nat.le_trans h.size (by simp [World.setCell])⟩
  have he : i = N0 + 2 := Option.some.inj e
  rcases hx with rfl | rfl | hx
  · omega
  · omega
  · obtain ⟨h1, _⟩ := hf.row.block hx
    omega
theorem RS.add {N0 : Nat} {w : World} {most last res : Int} {L L' : List En} {W W' : World} {lv lv' : Value} (h : RS N0 w most last res L W) (hF : FatesAt (N0 + 3) (N0 + 4) lv (N0 + 3) (fatesL L) ((fatesL L).countP passed : Int) W) (hT : FTurn (N0 + 4) (N0 + 3) lv W lv' W')
    (hF' : FatesAt (N0 + 3) (N0 + 4) lv' (N0 + 3) (fatesL L') ((fatesL L').countP passed : Int) W') : RS N0 w most last res L' W' := by
  have hb := hT.below hF
  exact ⟨⟨lv', hF'⟩, hT.boxed hF (by decide) (by decide) h.bm, hT.boxed hF (by decide) (by decide) h.br, hT.boxed hF (by decide) (by decide) h.bl, hT.boxed hF (by decide) (by decide) h.bt,
    h.bel.trans ⟨hb.os, hb.tape, hb.output, hb.size, fun k hk => hb.block k (by omega)⟩, Nat.le_trans h.size hT.size⟩
theorem RS.drew {N0 : Nat} {w : World} {most last res : Int} {L : List En} {W : World} (h : RS N0 w most last res L W) (n : Nat) : RS N0 w most last res L (W.drewN n) := by
  obtain ⟨lv, hf⟩ := h.fates
  exact ⟨⟨lv, hf.below (below_drewN (Below.refl _ _) _)⟩, h.bm, h.br, h.bl, h.bt, below_drewN h.bel n, h.size⟩
/-- A step more of what is to be gone through. -/
theorem pre_facts {k : List En} {kind a b : Int} {gs : List (List En)} {g : List En} (h : gs ++ [g] <+: grpL (selL k kind a b)) (hwf : ∀ e ∈ k, (Lit.int .i64 e.id).wf = true) (hk : k.length ≤ 1000000) :
    g ≠ [] ∧ (∀ e ∈ g, (Lit.int .i64 e.id).wf = true) ∧ g.length ≤ 1000000 ∧ (fatesL gs.flatten).length ≤ 1000000 ∧ (fatesL (gs ++ [g]).flatten).length ≤ 1000000 := by
  obtain ⟨t, ht⟩ := h
  have h1 := grpL_flat (selL k kind a b)
  rw [← ht, List.flatten_append, List.flatten_append] at h1
  have hl : (selL k kind a b).length ≤ 1000000 := Nat.le_trans (List.length_filter_le _ _) hk
  have h2 := congrArg List.length h1
  simp only [List.length_append, List.flatten_cons, List.flatten_nil, List.append_nil] at h2
  refine ⟨grpL_ne (selL k kind a b) g (by rw [← ht]; simp), fun e he => hwf e ?_, by omega, Nat.le_trans (fatesL_len _) (by omega), Nat.le_trans (fatesL_len _) (by rw [List.flatten_append, List.length_append, List.flatten_cons, List.flatten_nil, List.append_nil]; omega)⟩
  have : e ∈ selL k kind a b := by
    rw [← h1]
    simp [he]
  exact (List.mem_filter.1 this).1
theorem keeps_set {B i : Nat} {W1 W2 : World} (h : KeepsFrom B W1 W2) (hi : i < B) (q : Nat) (u : Value) : KeepsFrom B W1 ((W2.drewN q).setCell ⟨i, 0, none⟩ u) :=
  h.trans (KeepsFrom.of_grownBy (W := W2) (row := some i) ⟨rfl, rfl, rfl, by simp [World.setCell], fun k _ hk => Below.heap_setCell (W2.drewN q) _ _ k (fun e => hk (by rw [e]))⟩ (fun j e => by cases e; exact hi))
theorem KpG.of_draw {n0 n1 lb : Nat} {kind a b : Int} {A1 A2 A3 A4 : Nat} (w : World) (q : Nat) : KpG n0 n1 (Boxes lb kind a b A1 A2 A3 A4) w (w.drewN q) := ⟨below_drewN (Below.refl _ _) q, fun h => ⟨h.log, h.lo, h.hi, h.kd⟩, fun _ _ _ h => h⟩
end Go.Proofs.Ytojjlbhodiphdaa.Lg
