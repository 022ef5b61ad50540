/-
  log.reach: the walk. Conditions: clocks do not fall; ids are numbers of their type; at most 1000000 entries are kept.
-/
import Derived.Test.YtojjlbhodiphdaaLgReach
import Derived.Laws.EntriesVeiled
namespace Go.Proofs.Ytojjlbhodiphdaa.Lg
open Go Go.RowKit Go.Joins Go.Shelf

attribute [local go_sem] Oper.semAt_some

set_option maxHeartbeats 1000000 in
set_option maxRecDepth 100000 in
theorem reach_all (lb : Nat) (kind a clock most : Int) (w : World) (h : most < 1) :
    Calls Try.prog 23 #[.pointer (some ⟨lb, 0, none⟩), .int .i64 kind, .int .i64 a, .int .i64 clock, .int .i64 most] w fun e w' => e = .returned (.int .i64 clock) ∧ Below w.heap.size w w' := by
  have hb : Below w.heap.size w ((w.alloc (.cells #[.int .i64 most] 3)).alloc (.cells #[.int .i64 0] 3)) := ((Below.refl _ w).alloc (Nat.le_refl _) _).alloc (by simp) _
  have hbx := Boxed.new (w.alloc (.cells #[.int .i64 most] 3)) 3 (.int .i64 0)
  rw [World.size_alloc] at hbx
  have c2 : ((w.alloc (.cells #[.int .i64 most] 3)).alloc (.cells #[.int .i64 0] 3)).cell? ⟨w.heap.size, 0, none⟩ = some (.int .i64 most) := ((Boxed.new w 3 (.int .i64 most)).alloc _).cell
  have c3 := hbx.cell
  have c4 := hbx.frozen
  have HB := Lib.hid hb
  have HX := Lib.hid (hbx.set (.int .i64 clock)).cell
  clear hb hbx
  refine (callsIn_wide (n := 3)).1 ?_
  refine callsIn_of_wp_marks Try.func23 rfl trivial ?_ rfl
  simp only [Try.ntmps23, List.size_toArray, List.length_cons, List.length_nil, Nat.reduceAdd, Nat.reduceSub, Array.replicate_succ, Array.replicate_zero, List.push_toArray, List.append_toArray, List.nil_append, List.cons_append]
  gi_wp2_with fail
  refine ⟨.int .i64 clock, ?_, rfl, ((Below.refl _ w).alloc (Nat.le_refl _) _).alloc (by simp) _⟩
  have hbx2 := Boxed.new (w.alloc (.cells #[.int .i64 most] 3)) 3 (.int .i64 clock)
  rw [World.size_alloc] at hbx2
  have d1 := hbx2.cell
  simp [results, Try.f23, go_sem, d1]
set_option maxHeartbeats 4000000 in
set_option maxRecDepth 100000 in
theorem reach_some (B lb : Nat) (v : Value) (most_ fl kind a clock most : Int) (k : List En) (w : World) (hL : LogAt B lb v most_ fl k w) (hr : Rise k) (hk : k.length ≤ 1000000) (hwf : ∀ e ∈ k, (Lit.int .i64 e.id).wf = true) (hac : a ≤ clock) (hmost : 1 ≤ most) :
    Calls Try.prog 23 #[.pointer (some ⟨lb, 0, none⟩), .int .i64 kind, .int .i64 a, .int .i64 clock, .int .i64 most] w fun e w' => e = .returned (.int .i64 (reachG most clock a [] (grpL (selL k kind a clock)))) ∧ Below w.heap.size w w' := by
  have g1 : ¬ most < 1 := by omega
  obtain ⟨W3, hW3⟩ : ∃ W3, ((w.alloc (.cells #[.int .i64 most] 3)).alloc (.cells #[.int .i64 0] 3)).alloc (.cells #[.int .i64 a] 3) = W3 := ⟨_, rfl⟩
  have hs3 : W3.heap.size = w.heap.size + 3 := by rw [← hW3]; simp
  have hb3 : Below w.heap.size w W3 := by rw [← hW3]; exact (((Below.refl _ w).alloc (Nat.le_refl _) _).alloc (by simp) _).alloc (by simp; omega) _
  have x0 : Boxed W3 w.heap.size 3 (.int .i64 most) := by rw [← hW3]; exact ((Boxed.new w _ _).alloc _).alloc _
  have x1 : Boxed W3 (w.heap.size + 1) 3 (.int .i64 0) := by
    have h := Boxed.new (w.alloc (.cells #[.int .i64 most] 3)) 3 (.int .i64 0)
    rw [World.size_alloc] at h
    rw [← hW3]
    exact h.alloc _
  have x2 : Boxed W3 (w.heap.size + 2) 3 (.int .i64 a) := by
    have h := Boxed.new ((w.alloc (.cells #[.int .i64 most] 3)).alloc (.cells #[.int .i64 0] 3)) 3 (.int .i64 a)
    rw [World.size_alloc, World.size_alloc] at h
    rw [← hW3]
    exact h
  have c2 : ((w.alloc (.cells #[.int .i64 most] 3)).alloc (.cells #[.int .i64 0] 3)).cell? ⟨w.heap.size, 0, none⟩ = some (.int .i64 most) := ((Boxed.new w 3 (.int .i64 most)).alloc _).cell
  have HB3 := Lib.hid (And.intro hb3 (And.intro x0 (And.intro x1 x2)))
  have HS3 := Lib.hid hs3
  have HL := Lib.hid hL
  have HNF := Lib.hid (newFates_any W3)
  clear hb3 x0 x1 x2 hs3
  refine (callsIn_wide (n := 3)).1 ?_
  refine callsIn_of_wp_marks Try.func23 rfl trivial ?_ rfl
  simp only [Try.ntmps23, List.size_toArray, List.length_cons, List.length_nil, Nat.reduceAdd, Nat.reduceSub, Array.replicate_succ, Array.replicate_zero, List.push_toArray, List.append_toArray, List.nil_append, List.cons_append]
  gi_wp2_with fail
  refine ⟨trivial, ?_⟩
  refine (callsIn_wide.2 HNF.out).mono ?_
  rintro e W4 ⟨rfl, hF4, hb4, hs4⟩
  obtain ⟨N0, hN0⟩ : ∃ N0, w.heap.size = N0 := ⟨_, rfl⟩
  rw [hN0] at HS3 HB3
  rw [HS3.out] at hF4 hs4 hb4 ⊢
  rw [hN0]
  have h4 : W4.heap.size = N0 + 5 := by omega
  obtain ⟨W5, hW5⟩ : ∃ W5, W4.alloc (.cells #[.pointer (some ⟨N0 + 3 + 1, 0, none⟩)] 70) = W5 := ⟨_, rfl⟩
  have h5 : W5.heap.size = N0 + 6 := by rw [← hW5, World.size_alloc, h4]
  obtain ⟨W6, hW6⟩ : ∃ W6, (((W5.alloc (.cells #[.pointer (some ⟨lb, 0, none⟩)] 25)).alloc (.cells #[.int .i64 kind] 3)).alloc (.cells #[.int .i64 a] 3)).alloc (.cells #[.int .i64 clock] 3) = W6 := ⟨_, rfl⟩
  have h6 : W6.heap.size = N0 + 10 := by rw [← hW6]; simp [h5]
  have HST := Lib.hid (steps_any lb kind a clock W5)
  rw [hW6, h5] at HST
  have hb56 : Below W4.heap.size W4 W6 := by
    rw [← hW6, ← hW5]
    exact (((((Below.refl _ W4).alloc (Nat.le_refl _) _).alloc (by simp) _).alloc (by simp; omega) _).alloc (by simp; omega) _).alloc (by simp; omega) _
  have hbox : ∀ {A : Nat} {t : TypeId} {u : Value}, Boxed W3 A t u → Boxed W6 A t u := fun hb => (hb.kept (grown_below (by rw [HS3.out]; exact hb4)) (by simp)).kept (grown_below hb56) (by simp)
  have y5 : Boxed W6 (N0 + 5) 70 (.pointer (some ⟨N0 + 3 + 1, 0, none⟩)) := by
    have h := Boxed.new W4 70 (.pointer (some ⟨N0 + 3 + 1, 0, none⟩))
    rw [h4, hW5] at h
    rw [← hW6]
    exact (((h.alloc _).alloc _).alloc _).alloc _
  have hBX : Boxes lb kind a clock (N0 + 6) (N0 + 6 + 1 + 1) (N0 + 6 + 1 + 1 + 1) (N0 + 6 + 1) W6 := by
    have k1 := Boxed.new W5 25 (.pointer (some ⟨lb, 0, none⟩))
    have k2 := Boxed.new (W5.alloc (.cells #[.pointer (some ⟨lb, 0, none⟩)] 25)) 3 (.int .i64 kind)
    have k3 := Boxed.new ((W5.alloc (.cells #[.pointer (some ⟨lb, 0, none⟩)] 25)).alloc (.cells #[.int .i64 kind] 3)) 3 (.int .i64 a)
    have k4 := Boxed.new (((W5.alloc (.cells #[.pointer (some ⟨lb, 0, none⟩)] 25)).alloc (.cells #[.int .i64 kind] 3)).alloc (.cells #[.int .i64 a] 3)) 3 (.int .i64 clock)
    simp only [World.size_alloc, h5] at k1 k2 k3 k4
    rw [← hW6]
    exact ⟨((k1.alloc _).alloc _).alloc _, k3.alloc _, k4, (k2.alloc _).alloc _⟩
  obtain ⟨hb3, x0, x1, x2⟩ := HB3.out
  have hbel : Below N0 w W6 := hb3.trans ((hb4.mono (by omega)).trans (hb56.mono (by omega)))
  have hRS : RS N0 w most a 0 [] W6 := ⟨⟨_, hF4.below hb56⟩, hbox x0, hbox x1, hbox x2, y5, hbel, by omega⟩
  have HRS := Lib.hid hRS
  have HBX := Lib.hid hBX
  have HBL := Lib.hid hbel
  have H6 := Lib.hid h6
  have HN := Lib.hid hN0
  clear hb3 x0 x1 x2 hbel hRS hBX y5 hbox hb56 hF4 hb4 hs4 hW3 c2 HB3
  gi_wp2_with fail
  refine ⟨trivial, ?_⟩
  refine (callsIn_wide.2 HST.out).mono ?_
  rintro e W ⟨rfl, rfl⟩
  gi_wp2_with fail
  subst hN0
  have hsz : w.heap.size ≤ W.heap.size := by rw [h6]; omega
  have HLG := HL.out
  refine range_rows (n := 3) (by omega) (gf := 32) (lb := #[.pointer (some ⟨w.heap.size + 6, 0, none⟩), .pointer (some ⟨w.heap.size + 6 + 1 + 1, 0, none⟩), .pointer (some ⟨w.heap.size + 6 + 1 + 1 + 1, 0, none⟩), .pointer (some ⟨w.heap.size + 6 + 1, 0, none⟩)]) rfl (enters_of Try.func32 (by kernel_rfl) rfl)
    (encs := encG) (At := fun pre x W1 => AtG w.heap.size x W1 ∧ (pre ++ [x]).map (·.1) <+: grpL (selL k kind a clock)) (Kp := KpG w.heap.size (w.heap.size + 10) (Boxes lb kind a clock (w.heap.size + 6) (w.heap.size + 6 + 1 + 1) (w.heap.size + 6 + 1 + 1 + 1) (w.heap.size + 6 + 1)))
    (S := fun ys => ys.map (·.1) = grpL (selL k kind a clock)) (Sp := fun pre => pre.map (·.1) <+: grpL (selL k kind a clock)) (N := 1000001)
    (fun l J Jx W1 hW1 hJ _ hY h0 => steps1_in 2 (by omega) l (w.heap.size + 10) B lb _ _ _ _ v most_ fl kind a clock k w HLG hr hk hac J Jx hJ (fun pre x W2 hj hat hp hlt => hY pre x W2 hj ⟨hat, hp⟩ hlt) W1 (HBL.out.trans (hW1.mono hsz)) (by have := hW1.size; omega) (HBX.out.grown (grown_below hW1)) h0)
    (fun pre x W1 l o o' _ h hc hat => ⟨hat.1.put o' h hc, hat.2⟩) (fun h k => h.t k) (fun W1 l o o' hl h hc hw => kpG_put (w := W) hsz l o o' hl h hc hw) (fun _ => rfl)
    (fun pre W1 => ∃ last, RS w.heap.size w most last 0 (pre.map (·.1)).flatten W1 ∧ ∀ rest, reachG most clock a [] (pre.map (·.1) ++ rest) = reachG most clock last (pre.map (·.1)).flatten rest)
    (fun c pre W1 => c = .ret ∧ ∃ r, (∀ rest, reachG most clock a [] (pre.map (·.1) ++ rest) = r) ∧ Boxed W1 (w.heap.size + 1) 3 (.int .i64 r) ∧ Below w.heap.size w W1)
    (fun pre W1 W2 row h hg hr' => by
      obtain ⟨last, h1, h2⟩ := h
      rw [h6] at hr'
      exact ⟨last, h1.turns (Nat.le_refl _) hg hr', h2⟩)
    (fun c pre W1 W2 row h hg hr' => by
      obtain ⟨hc, r, h1, h2, h3⟩ := h
      rw [h6] at hr'
      exact ⟨hc, r, h1, boxed_turns h2 (by omega) hg hr', below_turns h3 (Nat.le_refl _) (by omega) hg hr'⟩)
    ⟨a, HRS.out, fun rest => rfl⟩
    (fun x => { tmps := #[.pointer (some ⟨lb, 0, none⟩), .int .i64 kind, .int .i64 a, .int .i64 clock, .int .i64 most, undef, undef, undef, undef, .pointer (some ⟨w.heap.size, 0, none⟩), .pointer (some ⟨w.heap.size + 1, 0, none⟩), .pointer (some ⟨w.heap.size + 1 + 1, 0, none⟩), .pointer (some ⟨w.heap.size + 5, 0, none⟩), x.2, .int .i64 most, .bool false, undef, .int .i64 a,
      .pointer (some ⟨w.heap.size + 3 + 1, 0, none⟩), .pointer (some ⟨lb, 0, none⟩), .int .i64 kind, .int .i64 a, .int .i64 clock, .func (.func 32) #[] #[.pointer (some ⟨w.heap.size + 6, 0, none⟩), .pointer (some ⟨w.heap.size + 6 + 1 + 1, 0, none⟩), .pointer (some ⟨w.heap.size + 6 + 1 + 1 + 1, 0, none⟩), .pointer (some ⟨w.heap.size + 6 + 1, 0, none⟩)],
      x.2, undef, undef, undef, undef, undef, undef, undef, undef, undef, undef, undef, undef, undef], defers := [] }) ?assign ?body ?done ?stop
  case assign =>
    intro l x W1 K hK
    dsimp only [encG]
    gi_wp2
    exact hK
  case body =>
    rintro l pre ⟨gx, sv⟩ W1 ⟨last, hRS1, hrest⟩ ⟨hat, hpf⟩ hlt
    rw [List.map_append] at hpf
    obtain ⟨hne, hgw, hgl, hfl, hfl2⟩ := pre_facts hpf hwf hk
    have HFL2 := Lib.hid hfl2
    obtain ⟨lv, hF⟩ := hRS1.fates
    obtain ⟨c, t, rfl⟩ := List.exists_cons_of_ne_nil hne
    have hat' : QAt w.heap.size 54 4 sv (c :: t).length (esC (c :: t)) W1 := hat
    obtain ⟨gq, oq, cq, rfl, _, _, hcc, _⟩ := hat'.at (Nat.succ_pos _)
    have cm : W1.cell? ⟨gq, oq, none⟩ = some (.int .i64 c.mod) := hcc 0 (by rw [List.length_cons]; omega)
    have HADD := Lib.hid (fadd_any (w.heap.size + 3) (w.heap.size + 4) lv (w.heap.size + 3) _ (c :: t) _ W1 hF (by have := hRS1.size; omega) hat'.sat (fun g hg => (hat'.block hg).2) hgw hgl hfl)
    have hkb : ∃ cur, W1.heap[gq]? = some (.cells cur 54 (0, 0)) := (hat'.block rfl).2
    have ct := hRS1.bt.cell
    have HRS1 := Lib.hid hRS1
    have HF := Lib.hid hF
    have HRE := Lib.hid hrest
    obtain ⟨gs, hgs⟩ : ∃ gs, pre.map (·.1) = gs := ⟨_, rfl⟩
    have HGS := Lib.hid hgs
    have HMP : Hid (∀ u, (pre ++ [((c :: t, u) : Gr)]).map (·.1) = gs ++ [c :: t]) := Lib.hid (fun u => by rw [List.map_append, hgs]; rfl)
    have HFL : Hid (((c :: t).foldl addF (fatesL gs.flatten)) = fatesL (gs ++ [c :: t]).flatten) := Lib.hid (by unfold fatesL; simp)
    rw [hgs] at HADD HRS1 HF HRE
    rw [HFL.out] at HADD
    clear hpf hne hgw hfl hfl2 hgl hat hat' hcc hRS1 hrest hF hgs
    gi_wp2_with fail
    refine ⟨trivial, ?_⟩
    refine (CallsIn.inRound l (callsIn_wide.2 HADD.out)).mono ?_
    rintro e W2 ⟨rfl, lv', hF2, hT2⟩
    have hRS2 := HRS1.out.add HF.out hT2 hF2
    have cm2 : W2.cell? ⟨gq, oq, none⟩ = some (.int .i64 c.mod) := by
      obtain ⟨cur, hcur⟩ := hkb
      have := hT2.entry HF.out hcur
      exact (World.cell?_of_block (a := ⟨gq, oq, none⟩) (this.trans hcur.symm)).trans cm
    have ct2 := hRS2.bt.cell
    have cb2 := hRS2.bm.cell
    have cl2 := hRS2.bl.cell
    have cr2 := hRS2.br.cell
    have fl2 := hRS2.bl.frozen
    have fr2 := hRS2.br.frozen
    have HTOLD := Lib.hid (fun m => told_any (w.heap.size + 3) (w.heap.size + 4) lv' (w.heap.size + 3) _ (W2.drewN m) (hF2.below (below_drewN (Below.refl _ _) m)) (by have := HFL2.out; rw [HGS.out] at this; exact Nat.le_trans this (by omega)))
    have HK2 : Hid (KeepsFrom W.heap.size W1 W2) := Lib.hid (hT2.from HF.out (by rw [h6]; omega) (by rw [h6]; omega))
    have HKP2 := Lib.hid (hT2.kpG HF.out (Nat.le_add_right w.heap.size 3) (lb := lb) (kind := kind) (a := a) (b := clock) (A1 := w.heap.size + 6) (A2 := w.heap.size + 6 + 1 + 1) (A3 := w.heap.size + 6 + 1 + 1 + 1) (A4 := w.heap.size + 6 + 1) (n1 := w.heap.size + 10))
    have HRS2 := Lib.hid hRS2
    clear hF2 hT2 hRS2 cm hkb ct
    gi_wp2_with fail
    refine region_round_quiet (C := fun w' => ∃ m, w' = W2.drewN m) (by kernel_rfl) (by kernel_rfl) ?_ (by kernel_rfl) ⟨1, rfl⟩ ?_
    · rintro ⟨_, _, h⟩
      exact h
    · obtain ⟨T, hTd⟩ : ∃ T, toldL (fatesL (gs ++ [c :: t]).flatten) = T := ⟨_, rfl⟩
      rw [hTd] at HTOLD
      have HTD := Lib.hid hTd
      clear hTd
      refine wpQuiet_step (fun K hK => ?_)
      rw [if_pos (by kernel_rfl)]
      refine ⟨.pointer (some ⟨w.heap.size + 4, 0, none⟩), fun w' hw' => ?_, ?_⟩
      · obtain ⟨m, rfl⟩ := hw'
        go_simp
      go_simp
      refine hK _ ?_
      clear hK K
      refine wpQuiet_step (fun K hK => ?_)
      rw [if_pos (by kernel_rfl)]
      refine ⟨.int .i64 T, fun w' hw' => ?_, ?_⟩
      · obtain ⟨m, rfl⟩ := hw'
        go_simp
        refine (HTOLD.out m).mono ?_
        rintro e w'' ⟨rfl, q, rfl⟩
        exact ⟨rfl, m + q, by rw [World.drewN_drewN]⟩
      go_simp
      refine hK _ ?_
      clear hK K
      refine wpQuiet_step (fun K hK => ?_)
      rw [if_pos (by kernel_rfl)]
      refine ⟨.int .i64 most, fun w' hw' => ?_, ?_⟩
      · obtain ⟨m, rfl⟩ := hw'
        go_simp
      go_simp
      refine hK _ ?_
      clear hK K
      refine wpQuiet_step (fun K hK => ?_)
      rw [if_pos (by kernel_rfl)]
      refine ⟨.bool (decide (most < T)), fun w' hw' => ?_, ?_⟩
      · clear hw'
        go_simp
      go_simp
      refine hK _ ?_
      clear hK K
      refine wpQuiet_nil ?_
      rintro _ ⟨nq, rfl⟩
      by_cases hgt : most < T
      · have HFIN : Hid (∀ rest, reachG most clock a [] (gs ++ [c :: t] ++ rest) = last) := Lib.hid (fun rest => by
          rw [List.append_assoc, HRE.out]
          show (if most < toldL (fatesL (gs.flatten ++ (c :: t))) then last else _) = last
          rw [if_pos]
          have := HTD.out
          rw [List.flatten_append, List.flatten_cons, List.flatten_nil, List.append_nil] at this
          rw [this]
          exact hgt)
        gi_wp2_with fail
        refine ⟨by first | exact keeps_set HK2.out (by rw [h6]; omega) nq _ | (rw [← h6]; exact keeps_set HK2.out (by rw [h6]; omega) nq _), rfl, last, by rw [HMP.out]; exact HFIN.out, (HRS2.out.drew nq).br.set _, (HRS2.out.drew nq).bel.setCell (p := ⟨w.heap.size + 1, 0, none⟩) (Nat.le_add_right _ _) _⟩
      · have HFIN : Hid (∀ rest, reachG most clock a [] (gs ++ [c :: t] ++ rest) = reachG most clock c.mod (gs ++ [c :: t]).flatten rest) := Lib.hid (fun rest => by
          rw [List.append_assoc, HRE.out]
          show (if most < toldL (fatesL (gs.flatten ++ (c :: t))) then last else reachG most clock c.mod (gs.flatten ++ (c :: t)) rest) = _
          have := HTD.out
          rw [List.flatten_append, List.flatten_cons, List.flatten_nil, List.append_nil] at this ⊢
          rw [if_neg (by rw [this]; exact hgt)])
        gi_wp2_with fail
        refine ⟨by first | exact keeps_set HK2.out (by rw [h6]; omega) nq _ | (rw [← h6]; exact keeps_set HK2.out (by rw [h6]; omega) nq _), HKP2.out.t ((KpG.of_draw _ nq).t (kpG_set _ (by omega) (by omega) (by omega))), c.mod, by rw [HMP.out]; exact (HRS2.out.drew nq).setLast c.mod, by rw [HMP.out]; exact HFIN.out⟩
  case done =>
    rintro D ys W1 hD hys ⟨last, hRS1, hrest⟩ hK
    have cr := hRS1.br.cell
    have fr := hRS1.br.frozen
    have HEQ : Hid (reachG most clock a [] (grpL (selL k kind a clock)) = clock) := Lib.hid (by
      have := hrest []
      rw [List.append_nil, hys] at this
      rw [this]
      rfl)
    have HRS1 := Lib.hid hRS1
    have hDne : D ≠ w.heap.size + 1 := by omega
    have HK : Hid ((W1.setCell ⟨w.heap.size + 1, 0, none⟩ (.int .i64 clock)).heap[D]? = some (.deferred (some []))) := Lib.hid ((Below.heap_setCell W1 _ _ D hDne).trans hK)
    clear hrest hRS1 hK
    gi_wp2_with fail
    refine ⟨by simp, .inl ⟨_, _, rfl, run_takeDeferred HK.out, ?_⟩⟩
    have hg := grownBy_putObj' (W1.setCell ⟨w.heap.size + 1, 0, none⟩ (.int .i64 clock)) D (.deferred none)
    have d1 := ((HRS1.out.br.set (.int .i64 clock)).kept hg (fun e => hDne (Option.some.inj e).symm)).cell
    refine ⟨.int .i64 clock, ?_, by rw [HEQ.out], (HRS1.out.bel.setCell (p := ⟨w.heap.size + 1, 0, none⟩) (Nat.le_add_right _ _) _).grown hg (Nat.le_trans (Nat.le_trans (Nat.le_add_right _ _) HRS1.out.size) (by simp [World.setCell])) (fun j e => by cases e; omega)⟩
    simp [results, Try.f23, go_sem, d1]
  case stop =>
    rintro D c pre W1 hD hpx ⟨rfl, r, hr2, hbx, hbel⟩ hK
    have HEQ : Hid (reachG most clock a [] (grpL (selL k kind a clock)) = r) := Lib.hid (by
      obtain ⟨t, ht⟩ := hpx
      rw [← ht]
      exact hr2 t)
    have hDne : D ≠ w.heap.size + 1 := by omega
    have HBB := Lib.hid (And.intro hbx hbel)
    have HK := Lib.hid hK
    clear hr2 hbx hbel hK
    gi_wp2_with fail
    refine ⟨by simp, .inl ⟨_, _, rfl, run_takeDeferred HK.out, ?_⟩⟩
    have hg := grownBy_putObj' W1 D (.deferred none)
    have d1 := (HBB.out.1.kept hg (fun e => hDne (Option.some.inj e).symm)).cell
    refine ⟨.int .i64 r, ?_, by rw [HEQ.out], HBB.out.2.grown hg HBB.out.2.size (fun j e => by cases e; omega)⟩
    simp [results, Try.f23, go_sem, d1]
theorem reach_any (B lb : Nat) (v : Value) (most_ fl kind a clock most : Int) (k : List En) (w : World) (hL : LogAt B lb v most_ fl k w) (hr : Rise k) (hk : k.length ≤ 1000000) (hwf : ∀ e ∈ k, (Lit.int .i64 e.id).wf = true) (hac : a ≤ clock) :
    Calls Try.prog 23 #[.pointer (some ⟨lb, 0, none⟩), .int .i64 kind, .int .i64 a, .int .i64 clock, .int .i64 most] w fun e w' => e = .returned (.int .i64 (reachL k kind a clock most)) ∧ Below w.heap.size w w' := by
  unfold reachL
  by_cases h : most < 1
  · rw [if_pos h]
    exact reach_all lb kind a clock most w h
  · rw [if_neg h]
    exact reach_some B lb v most_ fl kind a clock most k w hL hr hk hwf hac (by omega)
end Go.Proofs.Ytojjlbhodiphdaa.Lg
