/-
  log.Add puts entries behind the others, up to the first whose clock falls, and cuts the front off. Conditions: at most 1000000 entries are kept; the entries lie apart from the log's own.
-/
import Derived.Test.YtojjlbhodiphdaaLgLog
namespace Go.Proofs.Ytojjlbhodiphdaa.Lg
open Go Go.RowKit Go.Joins


set_option maxHeartbeats 4000000 in
set_option maxRecDepth 100000 in
theorem add_any (B lb : Nat) (v : Value) (most fl : Int) (k es : List En) (ev : Value) (w : World) (hL : LogAt B lb v most fl k w) (he : SAt w ev 4 es.length (esC es)) (hap : ∀ g, v.ownBlock = some g → ev.ownBlock ≠ some g) (hev : ev.ownBlock ≠ some lb)
    (h1 : 1 ≤ most) (hm : most ≤ 1000000) (hk : (k.length : Int) ≤ most) (hes : es.length ≤ 1000000) :
    Calls Try.prog 11 #[.pointer (some ⟨lb, 0, none⟩), ev] w fun e w' => e = .returned (.tuple #[]) ∧ ∃ v', LogAt B lb v' most (addL most (fl, k) es).1 (addL most (fl, k) es).2 w' ∧ Turn lb v w v' w' := by
  obtain ⟨ea, ec, rfl⟩ := he.form
  obtain ⟨i0, hi0, hz0, hz1, hz2⟩ := info_parts infoE
  go_enter Try.func11, Try.ntmps11
  go_wp2
  go_loopg [11] es.length (fun m iv wr => ∃ (i : Nat) (s : Int × List En) (u : Value), m = es.length - i ∧ iv = .int .i64 (i : Int) ∧ i ≤ es.length ∧ LogAt B lb u most s.1 s.2 wr ∧ Hid (Turn lb v w u wr) ∧ (s.2.length : Int) ≤ most ∧ Hid (addL most s (es.drop i) = addL most (fl, k) es))
  case atStart => exact ⟨0, (fl, k), v, rfl, rfl, Nat.zero_le _, hL, Lib.hid (Turn.refl lb v w), hk, Lib.hid rfl⟩
  case round =>
    obtain ⟨i, ⟨sf, sk⟩, u, rfl, rfl, hi, hLr, hT, hlen, hrest⟩ := hrel
    by_cases hlt : i < es.length
    · have g1 : (i : Int) < (es.length : Int) := by omega
      have g0 : (0 : Int) ≤ (i : Int) := by omega
      have her : SAt wr (.slice ea es.length ec) 4 es.length (esC es) := he.keep (esC_length es) (fun g hg hl => hT.out.block g hl (fun e => hev (e ▸ hg)) (fun e => hap g e hg))
      obtain ⟨g, o, cap, hv, q0, q1, q2, q3⟩ := sat_en her i hlt
      injection hv with hv1 hv2 hv3
      subst hv1
      obtain ⟨c0, c1, c2, cf⟩ := hLr.cells
      obtain ⟨x, hx⟩ : ∃ x, es[i] = x := ⟨_, rfl⟩
      rw [hx] at q0 q1 q2 q3
      have hb1 : Below wr.heap.size wr (wr.alloc (.cells #[.int .i64 x.mod, .int .i64 x.kind, .int .i64 x.id, .int .i64 x.how] 54)) := (Below.refl _ wr).alloc (Nat.le_refl _) _
      have d0 := (hb1.cell (p := ⟨lb, 0, none⟩) hLr.lt).trans c0
      have d2 := (hb1.cell (p := ⟨lb, 2, none⟩) hLr.lt).trans c2
      have HB := Lib.hid hb1
      clear hb1 c0 c1 c2
      have HX := Lib.hid hx
      have hq := hLr.2.2
      have HL := Lib.hid hLr
      clear hv3 her hx hLr
      rcases List.eq_nil_or_concat sk with rfl | ⟨sk', l, rfl⟩
      · obtain ⟨ua, uc, rfl⟩ := hq.form
        have hqN : QAt B 54 4 (.slice ua 0 uc) 0 (esC []) wr := hq
        have HNN : Hid (([] : List En).length = 0) := Lib.hid rfl
        clear hq
        dsimp only [List.length_nil] at d2
        go_wp2_with fail
        go_quiet (fail)
        go_wp2_with fail
        generalize hW1 : World.drewN (wr.alloc (.cells #[.int .i64 x.mod, .int .i64 x.kind, .int .i64 x.id, .int .i64 x.how] 54)) nq = W1
        have hB1 : Below wr.heap.size wr W1 := by rw [← hW1]; exact below_drewN HB.out _
        have hE : W1.heap[wr.heap.size]? = some (.cells #[.int .i64 x.mod, .int .i64 x.kind, .int .i64 x.id, .int .i64 x.how] 54 (0, 0)) := by rw [← hW1]; exact heap_alloc_new wr _
        have e0 : W1.cell? ⟨wr.heap.size, 0, none⟩ = some (.int .i64 x.mod) := by rw [cell_of_row _ _ _ _ _ _ hE]; rfl
        have e1 : W1.cell? ⟨wr.heap.size, 1, none⟩ = some (.int .i64 x.kind) := by rw [cell_of_row _ _ _ _ _ _ hE]; rfl
        have e2 : W1.cell? ⟨wr.heap.size, 2, none⟩ = some (.int .i64 x.id) := by rw [cell_of_row _ _ _ _ _ _ hE]; rfl
        have e3 : W1.cell? ⟨wr.heap.size, 3, none⟩ = some (.int .i64 x.how) := by rw [cell_of_row _ _ _ _ _ _ hE]; rfl
        have e4 : W1.cell? ⟨lb, 2, none⟩ = some (.slice ua (0) uc) := by rw [← hW1]; exact d2
        have f4 : W1.frozen? ⟨lb, 2, none⟩ = false := by rw [← hW1]; exact (World.frozen?_of_block (HB.out.block lb HL.out.lt)).trans (HL.out.cells.2.2.2 2)
        have hBW : B ≤ W1.heap.size := Nat.le_trans HL.out.2.1 (Nat.le_of_lt (Nat.lt_of_lt_of_le HL.out.lt hB1.size))
        have HFA : Hid (∀ O, (W1.drew.alloc O).frozen? ⟨lb, 2, none⟩ = false) := Lib.hid (fun O => (World.frozen?_of_block (a := ⟨lb, 2, none⟩) (((((Below.refl _ W1).drew).alloc (Nat.le_refl _) O).block lb (Nat.lt_of_lt_of_le HL.out.lt hB1.size)))).trans f4)
        have HFC : Hid (∀ O, (W1.drew.alloc O).cell? ⟨lb, 2, none⟩ = some (.slice ua (0) uc)) := Lib.hid (fun O => ((((Below.refl _ W1).drew).alloc (Nat.le_refl _) O).cell (p := ⟨lb, 2, none⟩) (Nat.lt_of_lt_of_le HL.out.lt hB1.size)).trans e4)
        have HQ1 := Lib.hid (hqN.below hB1)
        have HB1 := Lib.hid hB1
        have hrowL : (Value.slice ua (0) uc).ownBlock ≠ some lb := HL.out.ne
        have hlb1 : lb < W1.heap.size := Nat.lt_of_lt_of_le HL.out.lt hB1.size
        clear hW1 d0 d2 HB hB1 hE hqN f4
        go_wp2_with fail
        go_region_law
          ((refine step_append_q (B := B) (size := 4) (by rfl) _ _ _ (by rfl) i0 _ 32 Try.underlying31 hi0 hz0 hz1 hz2 rfl (by decide) (by rfl) (HQ1.out.drewAlloc _)
              ⟨W1.heap.size, 0, none⟩ 1 1 [.int .i64 x.mod, .int .i64 x.kind, .int .i64 x.id, .int .i64 x.how] (by rfl) (by decide) (by rfl) (World.news_of_block (cs := #[.int .i64 x.mod, .int .i64 x.kind, .int .i64 x.id, .int .i64 x.how]) (heap_alloc_new W1.drew _)) (by simp [Value.oneCell'])
              (by unfold maxLen; omega) (by omega) (by simp; omega) ?_; intro g1 q1 cap1 w2 hq2 hg2 hat2; have r4 := (hg2.cell_far ⟨lb, 2, none⟩ (by simp; omega) (Ne.symm hrowL)).trans (HFC.out _); have r5 := (hg2.frozen_far ⟨lb, 2, none⟩ (by simp; omega) (Ne.symm hrowL)).trans (HFA.out _)))
        all_goals
          have hp : LogAt B lb (.slice (some ⟨g1, q1, none⟩) (1) cap1) most sf ([] ++ [x]) (w2.setCell ⟨lb, 2, none⟩ (.slice (some ⟨g1, q1, none⟩) (1) cap1)) ∧
              Turn lb (.slice ua (0) uc) wr (.slice (some ⟨g1, q1, none⟩) (1) cap1) (w2.setCell ⟨lb, 2, none⟩ (.slice (some ⟨g1, q1, none⟩) (1) cap1)) := add_put HL.out HNN.out HB1.out hq2 hg2 hat2
          clear r4 r5 hq2 hg2 hat2 HFA HFC HQ1 hrowL hlb1 hBW e0 e1 e2 e3 e4
          generalize w2.setCell ⟨lb, 2, none⟩ (.slice (some ⟨g1, q1, none⟩) (1) cap1) = W3 at hp ⊢
          obtain ⟨hL3, hT3⟩ := hp
          obtain ⟨c0, c1, c2, cf3⟩ := hL3.cells
          have HL3 := Lib.hid hL3
          have HT3 := Lib.hid hT3
          clear hL3 hT3 HL
          have gc : ¬ most < 1 := by omega
          go_wp2_with fail
          go_quiet (fail)
          go_wp2_with fail
          go_roundg (es.length - (i + 1))
          case measure => omega
          case rel =>
            refine ⟨i + 1, (sf, [x]), _, rfl, by go_num, by omega, HL3.out.below (below_drewN (Below.refl _ _) _), Lib.hid ((hT.out.trans HT3.out).below_ (below_drewN (Below.refl _ _) _)), by simp; omega, Lib.hid ?_⟩
            rw [← hrest.out, List.drop_eq_getElem_cons hlt, HX.out, addL_cons]
            show _ = if falls ([] : List En) x = true then _ else addL most (putL most (sf, []) x) _
            rw [if_neg (by simp [falls])]
            unfold putL
            rw [if_neg (by simp; omega)]
            rfl
      · rw [List.concat_eq_append] at hq hlen hrest HL
        have hN : (sk' ++ [l]).length = sk'.length + 1 := by rw [List.length_append, List.length_singleton]
        obtain ⟨m, hm0⟩ : ∃ m, sk'.length = m := ⟨_, rfl⟩
        rw [hm0] at hN
        rw [hN] at hlen
        have HNN := Lib.hid hN
        have hq2 := hq.at (by rw [hN]; exact Nat.succ_pos _)
        obtain ⟨gk, ok, uc, hu, hcap, hmax, hcells, _⟩ := hq2
        subst hu
        have hlast : wr.cell? ⟨gk, ok + m * 4, none⟩ = some (.int .i64 l.mod) := by
          rw [hcells (m * 4) (by rw [hN]; omega)]
          have := (esC_at (sk' ++ [l]) m (by rw [hN]; omega)).1
          rw [this]
          congr 2
          have : (sk' ++ [l])[m]'(by rw [hN]; omega) = l := by
            rw [List.getElem_append_right (by omega)]
            simp [hm0]
          rw [this]
        have d3 := (HB.out.cell (p := ⟨gk, ok + m * 4, none⟩) (World.block_lt_of_cell? wr _ hlast)).trans hlast
        have hqN : QAt B 54 4 (.slice (some ⟨gk, ok, none⟩) (m + 1) uc) (m + 1) (esC (sk' ++ [l])) wr := by rw [← hN]; exact hq
        have HF : Hid (falls (sk' ++ [l]) x = decide (x.mod < l.mod)) := Lib.hid (by unfold falls; rw [List.getLast?_append]; rfl)
        have HR : Hid (addL most (sf, sk' ++ [l]) (List.drop i es) = if falls (sk' ++ [l]) x = true then (sf, sk' ++ [l]) else addL most (putL most (sf, sk' ++ [l]) x) (List.drop (i + 1) es)) := Lib.hid (by rw [List.drop_eq_getElem_cons hlt, HX.out, addL_cons])
        rw [hN] at d2 HL hT
        clear hq hcells hlast hcap hmax hN hm0
        by_cases hf : x.mod < l.mod
        · go_wp2_with fail
          go_quiet (fail)
          go_wp2_with fail
          refine bodyPost_ret (results_none rfl _ _ _) rfl ?_
          refine ⟨rfl, _, HL.out.below (below_drewN HB.out _) |> fun h => (by rw [← hrest.out, HR.out, if_pos (by rw [HF.out]; simp [hf])]; exact h), hT.out.below_ (below_drewN HB.out _)⟩
        · go_wp2_with fail
          go_quiet (fail)
          go_wp2_with fail
          generalize hW1 : World.drewN (wr.alloc (.cells #[.int .i64 x.mod, .int .i64 x.kind, .int .i64 x.id, .int .i64 x.how] 54)) nq = W1
          have hB1 : Below wr.heap.size wr W1 := by rw [← hW1]; exact below_drewN HB.out _
          have hE : W1.heap[wr.heap.size]? = some (.cells #[.int .i64 x.mod, .int .i64 x.kind, .int .i64 x.id, .int .i64 x.how] 54 (0, 0)) := by rw [← hW1]; exact heap_alloc_new wr _
          have e0 : W1.cell? ⟨wr.heap.size, 0, none⟩ = some (.int .i64 x.mod) := by rw [cell_of_row _ _ _ _ _ _ hE]; rfl
          have e1 : W1.cell? ⟨wr.heap.size, 1, none⟩ = some (.int .i64 x.kind) := by rw [cell_of_row _ _ _ _ _ _ hE]; rfl
          have e2 : W1.cell? ⟨wr.heap.size, 2, none⟩ = some (.int .i64 x.id) := by rw [cell_of_row _ _ _ _ _ _ hE]; rfl
          have e3 : W1.cell? ⟨wr.heap.size, 3, none⟩ = some (.int .i64 x.how) := by rw [cell_of_row _ _ _ _ _ _ hE]; rfl
          have e4 : W1.cell? ⟨lb, 2, none⟩ = some (.slice (some ⟨gk, ok, none⟩) (m + 1) uc) := by rw [← hW1]; exact d2
          have f4 : W1.frozen? ⟨lb, 2, none⟩ = false := by rw [← hW1]; exact (World.frozen?_of_block (HB.out.block lb HL.out.lt)).trans (HL.out.cells.2.2.2 2)
          have hBW : B ≤ W1.heap.size := Nat.le_trans HL.out.2.1 (Nat.le_of_lt (Nat.lt_of_lt_of_le HL.out.lt hB1.size))
          have HFA : Hid (∀ O, (W1.drew.alloc O).frozen? ⟨lb, 2, none⟩ = false) := Lib.hid (fun O => (World.frozen?_of_block (a := ⟨lb, 2, none⟩) (((((Below.refl _ W1).drew).alloc (Nat.le_refl _) O).block lb (Nat.lt_of_lt_of_le HL.out.lt hB1.size)))).trans f4)
          have HFC : Hid (∀ O, (W1.drew.alloc O).cell? ⟨lb, 2, none⟩ = some (.slice (some ⟨gk, ok, none⟩) (m + 1) uc)) := Lib.hid (fun O => ((((Below.refl _ W1).drew).alloc (Nat.le_refl _) O).cell (p := ⟨lb, 2, none⟩) (Nat.lt_of_lt_of_le HL.out.lt hB1.size)).trans e4)
          have HQ1 := Lib.hid (hqN.below hB1)
          have HB1 := Lib.hid hB1
          have hrowL : (Value.slice (some ⟨gk, ok, none⟩) (m + 1) uc).ownBlock ≠ some lb := HL.out.ne
          have hlb1 : lb < W1.heap.size := Nat.lt_of_lt_of_le HL.out.lt hB1.size
          clear hW1 d0 d2 HB hB1 hE hqN f4
          go_wp2_with fail
          go_region_law
            ((refine step_append_q (B := B) (size := 4) (by rfl) _ _ _ (by rfl) i0 _ 32 Try.underlying31 hi0 hz0 hz1 hz2 rfl (by decide) (by rfl) (HQ1.out.drewAlloc _)
                ⟨W1.heap.size, 0, none⟩ 1 1 [.int .i64 x.mod, .int .i64 x.kind, .int .i64 x.id, .int .i64 x.how] (by rfl) (by decide) (by rfl) (World.news_of_block (cs := #[.int .i64 x.mod, .int .i64 x.kind, .int .i64 x.id, .int .i64 x.how]) (heap_alloc_new W1.drew _)) (by simp [Value.oneCell'])
                (by unfold maxLen; omega) (by omega) (by simp; omega) ?_; intro g1 q1 cap1 w2 hq2 hg2 hat2; have r4 := (hg2.cell_far ⟨lb, 2, none⟩ (by simp; omega) (Ne.symm hrowL)).trans (HFC.out _); have r5 := (hg2.frozen_far ⟨lb, 2, none⟩ (by simp; omega) (Ne.symm hrowL)).trans (HFA.out _)))
          all_goals
            have hp : LogAt B lb (.slice (some ⟨g1, q1, none⟩) (m + 1 + 1) cap1) most sf ((sk' ++ [l]) ++ [x]) (w2.setCell ⟨lb, 2, none⟩ (.slice (some ⟨g1, q1, none⟩) (m + 1 + 1) cap1)) ∧
                Turn lb (.slice (some ⟨gk, ok, none⟩) (m + 1) uc) wr (.slice (some ⟨g1, q1, none⟩) (m + 1 + 1) cap1) (w2.setCell ⟨lb, 2, none⟩ (.slice (some ⟨g1, q1, none⟩) (m + 1 + 1) cap1)) := add_put HL.out HNN.out HB1.out hq2 hg2 hat2
            clear r4 r5 hq2 hg2 hat2 HFA HFC HQ1 hrowL hlb1 hBW e0 e1 e2 e3 e4
            generalize w2.setCell ⟨lb, 2, none⟩ (.slice (some ⟨g1, q1, none⟩) (m + 1 + 1) cap1) = W3 at hp ⊢
            obtain ⟨hL3, hT3⟩ := hp
            obtain ⟨c0, c1, c2, cf3⟩ := hL3.cells
            have HL3 := Lib.hid hL3
            have HT3 := Lib.hid hT3
            clear hL3 hT3 HL

            have hlen3 : (sk' ++ [l] ++ [x]).length = m + 1 + 1 := by rw [List.length_append, HNN.out, List.length_singleton]
            by_cases hcut : most < (m : Int) + 1 + 1
            · obtain ⟨y, t, hyt⟩ : ∃ y t, sk' ++ [l] ++ [x] = y :: t := by
                cases hc : sk' ++ [l] ++ [x] with
                | nil => rw [hc] at hlen3; simp at hlen3
                | cons y t => exact ⟨y, t, rfl⟩
              rw [hyt] at hlen3 HL3
              have hq3 := HL3.out.2.2
              rw [hlen3] at hq3
              have hcap1 : m + 1 + 1 ≤ cap1 := by
                obtain ⟨ga, oa, ca, hv, hc, _⟩ := hq3.at (Nat.succ_pos _)
                injection hv with hv1 hv2 hv3
                omega
              have ch : W3.cell? ⟨g1, q1, none⟩ = some (.int .i64 y.mod) := by
                obtain ⟨ga, oa, ca, hv, _, _, hc, _⟩ := hq3.at (Nat.succ_pos _)
                injection hv with hv1 hv2 hv3
                injection hv1 with hv1
                injection hv1 with hv1 hv4 hv5
                subst hv1 hv4
                exact hc 0 (by omega)
              have HFX : Hid (falls (sk' ++ [l]) x = false) := Lib.hid (by rw [HF.out]; simp; omega)
              have HYT := Lib.hid hyt
              clear hyt hq3
              go_wp2_with fail
              go_quiet (fail)
              go_wp2_with fail
              go_roundg (es.length - (i + 1))
              case measure => omega
              case rel =>
                have hcp := cut_put (HL3.out.below (below_drewN (Below.refl _ _) nq)) hlen3
                refine ⟨i + 1, (y.mod, t), _, rfl, by go_num, by omega, hcp.1, Lib.hid (((hT.out.trans HT3.out).below_ (below_drewN (Below.refl _ _) _)).trans hcp.2), by show (t.length : Int) ≤ most; rw [List.length_cons] at hlen3; omega, Lib.hid ?_⟩
                rw [← hrest.out, HR.out, if_neg (by rw [HFX.out]; exact Bool.false_ne_true)]
                unfold putL
                have h5 : sk' ++ [l] ++ [x] = y :: t := HYT.out
                show _ = addL most (if most < ((sk' ++ [l] ++ [x]).length : Int) then (((sk' ++ [l] ++ [x]).head?.map (·.mod)).getD 0, (sk' ++ [l] ++ [x]).tail) else (sf, sk' ++ [l] ++ [x])) _
                rw [h5, if_pos (by rw [hlen3]; omega)]
                rfl
            · go_wp2_with fail
              go_quiet (fail)
              go_wp2_with fail
              go_roundg (es.length - (i + 1))
              case measure => omega
              case rel =>
                refine ⟨i + 1, (sf, sk' ++ [l] ++ [x]), _, rfl, by go_num, by omega, HL3.out.below (below_drewN (Below.refl _ _) _), Lib.hid ((hT.out.trans HT3.out).below_ (below_drewN (Below.refl _ _) _)), by show ((sk' ++ [l] ++ [x]).length : Int) ≤ most; omega, Lib.hid ?_⟩
                rw [← hrest.out, HR.out, if_neg (by rw [HF.out]; simp; omega)]
                unfold putL
                rw [if_neg (by show ¬ most < ((sk' ++ [l] ++ [x]).length : Int); omega)]
    · have g1 : ¬ (i : Int) < (es.length : Int) := by omega
      go_wp2_with fail
      go_end0
      obtain rfl : i = es.length := by omega
      have h5 := hrest.out
      rw [List.drop_length] at h5
      rw [addL_nil] at h5
      exact ⟨rfl, u, by rw [← h5]; exact hLr, hT.out⟩
end Go.Proofs.Ytojjlbhodiphdaa.Lg
