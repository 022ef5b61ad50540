/-
  fates.add goes on by the entries of a step. Conditions: at most 2000000 of them; ids are numbers of their type.
-/
import Derived.Test.YtojjlbhodiphdaaLgFtM
import Derived.Test.YtojjlbhodiphdaaLgRange
import Derived.Deep.CutRange
namespace Go.Proofs.Ytojjlbhodiphdaa.Lg
open Go Go.RowKit Go.Joins

theorem infoFt : (Try.prog.info? 80).map (fun i => (i.zero, i.size, i.bytes)) = some (some (.agg #[.int .i64 0, .int .i64 0, .int .i64 0]), 3, 24) := by kernel_rfl
/-- 'm[k] = v' as a step of a region that draws. -/
theorem step_mapUpdate_own {H : Type} {P : Program} (w : World) {ops : Array Oper} {o : Oper} {a : Act} {K : Act → World → Prop} {Q : Exit → Act → World → Prop} {E : Prop}
    (hgd : o.guard = none) (m x v : Operand) (t : TypeId) (hop : o.op = Op.mapUpdate t m x v)
    (k e : TypeId) (Ky : Go.Maps.Keyed P k) (ht : P.underlying t = some (.map k e)) (R : Value → Option (DataW H × List MemPlace)) (b n : Nat) (D : DataW H)
    (hm : a.eval m = .map (some b)) (hown : w.ownsMap P k R b n D) (hn : n < maxLen) (key val : Value) (kl : Lit) (hx : a.eval x = key) (hv : a.eval v = val) (hkey : keyOf P k key = some kl)
    (d : DataW H) (ps : List MemPlace) (hval : R val = some (d, ps))
    (hK : ∀ w', w'.ownsMap P k R b (n + 1) (D.put kl d) → w.grownBy w' (some b) → K (a.put o.dst undef) w') :
    if Region.wanted o (yielded ops a.tmps) = true then Oper.wp P o a w K Q else E := by
  have hw : Region.wanted o (yielded ops a.tmps) = true := by simp [Region.wanted, hgd]
  rw [if_pos hw]
  obtain ⟨w', hrun, r1, r2⟩ := hown.update Ky ht hn hkey hval
  unfold Oper.wp
  simp [execOp, hop, hm, hx, hv, hrun, Result.andThen]
  exact hK w' r1 r2

set_option maxHeartbeats 4000000 in
set_option maxRecDepth 100000 in
theorem fadd_any (B F : Nat) (lv : Value) (M : Nat) (fs : List Ft) (es : List En) (ev : Value) (w : World) (hF : FatesAt B F lv M fs (fs.countP passed : Int) w) (hB : B ≤ w.heap.size) (he : SAt w ev 4 es.length (esC es)) (hek : ∀ g, ev.ownBlock = some g → ∃ cur, w.heap[g]? = some (.cells cur 54 (0, 0)))
    (hwf : ∀ e ∈ es, (Lit.int .i64 e.id).wf = true) (hes : es.length ≤ 1000000) (hfs : fs.length ≤ 1000000) :
    Calls Try.prog 29 #[.pointer (some ⟨F, 0, none⟩), ev] w fun e w' => e = .returned (.tuple #[]) ∧ ∃ lv', FatesAt B F lv' M (es.foldl addF fs) ((es.foldl addF fs).countP passed : Int) w' ∧ FTurn F M lv w lv' w' := by
  obtain ⟨ea, ec, rfl⟩ := he.form
  obtain ⟨i0, hi0, hz0, hz1, hz2⟩ := info_parts infoFt
  go_enter Try.func29, Try.ntmps29
  go_wp2
  go_loopg [10] es.length (fun m iv wr => ∃ (i : Nat) (gs : List Ft) (u : Value), m = es.length - i ∧ iv = .int .i64 (i : Int) ∧ i ≤ es.length ∧ FatesAt B F u M gs (gs.countP passed : Int) wr ∧ Hid (FTurn F M lv w u wr) ∧ gs.length ≤ fs.length + i ∧ Hid ((es.drop i).foldl addF gs = es.foldl addF fs))
  case atStart => exact ⟨0, fs, lv, rfl, rfl, Nat.zero_le _, hF, Lib.hid (FTurn.refl F M lv w), Nat.le_refl _, Lib.hid rfl⟩
  case round =>
    obtain ⟨i, gs, u, rfl, rfl, hi, hFr, hT, hlen, hrest⟩ := hrel
    by_cases hlt : i < es.length
    · have g1 : (i : Int) < (es.length : Int) := by omega
      have g0 : (0 : Int) ≤ (i : Int) := by omega
      have her : SAt wr (.slice ea es.length ec) 4 es.length (esC es) := he.keep (esC_length es) (fun g hg hl => by
        obtain ⟨cur, hc⟩ := hek g hg
        rw [hc]
        exact hT.out.entry hF hc)
      obtain ⟨g, o, cap, hv, q0, q1, q2, q3⟩ := sat_en her i hlt
      injection hv with hv1 hv2 hv3
      subst hv1
      obtain ⟨x, hx⟩ : ∃ x, es[i] = x := ⟨_, rfl⟩
      rw [hx] at q0 q1 q2 q3
      have hxw : (Lit.int .i64 x.id).wf = true := by rw [← hx]; exact hwf _ (List.getElem_mem hlt)
      have HXW := Lib.hid hxw
      have HD : Hid (es.drop i = x :: es.drop (i + 1)) := Lib.hid (by rw [List.drop_eq_getElem_cons hlt, hx])
      have hb1 : Below wr.heap.size wr (wr.alloc (.cells #[.int .i64 x.mod, .int .i64 x.kind, .int .i64 x.id, .int .i64 x.how] 54)) := (Below.refl _ wr).alloc (Nat.le_refl _) _
      have hF1 := hFr.below hb1
      obtain ⟨ua, uc, rfl⟩ := hFr.row.form
      obtain ⟨d0, d1, d2, df⟩ := hF1.cells
      have HF1 := Lib.hid hF1
      have HB1 := Lib.hid hb1
      have hlk : ∀ m, (Instr.lookup 76 (.map (some M)) (.int .i64 x.id) true).run Try.prog ((wr.alloc (.cells #[.int .i64 x.mod, .int .i64 x.kind, .int .i64 x.id, .int .i64 x.how] 54)).drewN m) = _ := fun m => (hF1.below (below_drewN (Below.refl _ _) m)).look hxw
      have hBW : B ≤ wr.heap.size := Nat.le_trans hB hT.out.size
      have HFR := Lib.hid hFr
      have HGS : Hid (gs.length ≤ 2000000) := Lib.hid (by omega)
      obtain ⟨bk, hbk⟩ : ∃ bk, (placeF gs x.id).isSome = bk := ⟨_, rfl⟩
      obtain ⟨pv, hpv⟩ : ∃ pv : Int, plN (placeF gs x.id) = pv := ⟨_, rfl⟩
      rw [hbk, hpv] at hlk
      have HBK := Lib.hid hbk
      have HPV := Lib.hid hpv
      clear hv3 hx her hF1 hb1 hv2 hFr hbk hpv hxw
      go_wp2_with fail
      go_quiet (fail)
      clear hlk
      generalize hW2 : World.drewN (wr.alloc (.cells #[.int .i64 x.mod, .int .i64 x.kind, .int .i64 x.id, .int .i64 x.how] 54)) nq = W2
      have hB2 : Below wr.heap.size wr W2 := by rw [← hW2]; exact below_drewN HB1.out _
      have hE2 : W2.heap[wr.heap.size]? = some (.cells #[.int .i64 x.mod, .int .i64 x.kind, .int .i64 x.id, .int .i64 x.how] 54 (0, 0)) := by rw [← hW2]; exact heap_alloc_new wr _
      have HB2 := Lib.hid hB2
      have HE2 := Lib.hid hE2
      clear hW2 d0 d1 d2 df HB1 HF1 hB2 hE2 q0 q1 q2 q3
      go_upto_if 25 with fail
      go_cut [6] from 11 to 91 (fun pv wx => ∃ u2, pv = .int .i64 (atF gs x : Int) ∧ Hid (FatesAt B F u2 M (preF gs x) (gs.countP passed : Int) wx ∧ FTurn F M (.slice ua gs.length uc) wr u2 wx ∧ wx.heap[wr.heap.size]? = some (.cells #[.int .i64 x.mod, .int .i64 x.kind, .int .i64 x.id, .int .i64 x.how] 54 (0, 0))))
      case first =>
        have hF2 := HFR.out.below HB2.out
        obtain ⟨d0, d1, d2, df⟩ := hF2.cells
        have hE2 := HE2.out
        have e2 : W2.cell? ⟨wr.heap.size, 2, none⟩ = some (.int .i64 x.id) := by rw [cell_of_row _ _ _ _ _ _ hE2]; rfl
        have e3 : W2.cell? ⟨wr.heap.size, 3, none⟩ = some (.int .i64 x.how) := by rw [cell_of_row _ _ _ _ _ _ hE2]; rfl
        cases hpl : placeF gs x.id with
        | none =>
          have hbkf : bk = false := by rw [← HBK.out, hpl]; rfl
          subst hbkf
          obtain ⟨D, hown, hDm⟩ := hF2.map
          have hHPL := Lib.hid hpl
          have hgl := HGS.out
          obtain ⟨w1, hup, hown1, hg1⟩ := World.ownsMap.update (w := W2.drew) (t := 76) (e := 3) (val := .int .i64 (gs.length : Int)) hown keyedI Try.underlying76 (by unfold maxLen; omega) (Go.Maps.keyOf_int_mk Try.underlying3 HXW.out) (plainElem_int Try.underlying3 (wf_small (by omega) (by omega)))
          have hg1' : W2.grownBy w1 (some M) := ⟨hg1.os, hg1.tape, hg1.output, hg1.size, hg1.block⟩
          have HOWN1 := Lib.hid hown1
          have HDM := Lib.hid hDm
          have HF2 := Lib.hid hF2
          have hFM : F ≠ M := hF2.neM
          have hEM : wr.heap.size ≠ M := Nat.ne_of_gt HFR.out.ltM
          have hFl : F < W2.heap.size := hF2.lt
          have hEl : wr.heap.size < W2.heap.size := (Array.getElem?_eq_some_iff.1 hE2).1
          have k0 : w1.cell? ⟨F, 0, none⟩ = some (.slice ua gs.length uc) := (hg1'.cell_far ⟨F, 0, none⟩ hFl (fun e => hFM (Option.some.inj e))).trans d0
          have k1 : w1.cell? ⟨F, 1, none⟩ = some (.map (some M)) := (hg1'.cell_far ⟨F, 1, none⟩ hFl (fun e => hFM (Option.some.inj e))).trans d1
          have k2 : w1.cell? ⟨wr.heap.size, 2, none⟩ = some (.int .i64 x.id) := (hg1'.cell_far ⟨wr.heap.size, 2, none⟩ hEl (fun e => hEM (Option.some.inj e))).trans e2
          have k3 : w1.cell? ⟨wr.heap.size, 3, none⟩ = some (.int .i64 x.how) := (hg1'.cell_far ⟨wr.heap.size, 3, none⟩ hEl (fun e => hEM (Option.some.inj e))).trans e3
          have kf : w1.frozen? ⟨F, 0, none⟩ = false := (hg1'.frozen_far ⟨F, 0, none⟩ hFl (fun e => hFM (Option.some.inj e))).trans (df 0)
          have HE1 : Hid (w1.heap[wr.heap.size]? = some (.cells #[.int .i64 x.mod, .int .i64 x.kind, .int .i64 x.id, .int .i64 x.how] 54 (0, 0))) := Lib.hid ((hg1'.block _ hEl (fun e => hEM (Option.some.inj e))).trans hE2)
          have HG1 := Lib.hid hg1'
          have hrow1 : QAt B 80 3 (.slice ua gs.length uc) gs.length (fsC gs) w1 := hF2.row.kept hg1' (fun r e => by cases e; exact hF2.neR.2)
          have hrF : (Value.slice ua gs.length uc).ownBlock ≠ some F := hF2.neR.1
          have hrE : (Value.slice ua gs.length uc).ownBlock ≠ some wr.heap.size := fun e => Nat.lt_irrefl _ (HFR.out.row.lt e)
          have hl1 : W2.heap.size ≤ w1.heap.size := hg1'.size
          have hBw : B ≤ w1.heap.size := by have := HB2.out.size; omega
          have HC1 : Hid (∀ O, (w1.drew.alloc O).cell? ⟨F, 0, none⟩ = some (.slice ua gs.length uc)) := Lib.hid (fun O => ((((Below.refl _ w1).drew).alloc (Nat.le_refl _) O).cell (p := ⟨F, 0, none⟩) (by show F < w1.heap.size; omega)).trans k0)
          have HCF : Hid (∀ O, (w1.drew.alloc O).frozen? ⟨F, 0, none⟩ = false) := Lib.hid (fun O => (World.frozen?_of_block (a := ⟨F, 0, none⟩) ((((Below.refl _ w1).drew).alloc (Nat.le_refl _) O).block F (by show F < w1.heap.size; omega))).trans kf)
          have HROW1 := Lib.hid hrow1
          have k5 : (w1.alloc (.cells #[.int .i64 x.id, .int .i64 x.how, .int .i64 0] 80)).cell? ⟨F, 0, none⟩ = some (.slice ua gs.length uc) := HC1.out (.cells #[.int .i64 x.id, .int .i64 x.how, .int .i64 0] 80)
          clear hF2 hown hDm hpl hown1 hE2 hrow1
          go_wp2_with fail
          go_region_held3 (fun w' => w'.cell? ⟨F, 1, none⟩ = some (.map (some M)) ∧ w'.cell? ⟨wr.heap.size, 2, none⟩ = some (.int .i64 x.id)) (go_keep) (fail)
          clear hup hg1 d0 d1 d2 df e2 e3
          go_wp2_with fail
          go_region_law
            ((refine step_append_q (B := B) (size := 3) (by rfl) _ _ _ (by rfl) i0 _ 24 Try.underlying75 hi0 hz0 hz1 hz2 rfl (by decide) (by rfl) (HROW1.out.drewAlloc _)
                ⟨w1.heap.size, 0, none⟩ 1 1 [.int .i64 x.id, .int .i64 x.how, .int .i64 0] (by rfl) (by decide) (by rfl) (World.news_of_block (cs := #[.int .i64 x.id, .int .i64 x.how, .int .i64 0]) (heap_alloc_new w1.drew _)) (by simp [Value.oneCell'])
                (by unfold maxLen; omega) (by omega) (by simp; omega) ?_; intro g5 q5 cap5 w2 hq2 hg2 hat2; have r4 := (hg2.cell_far ⟨F, 0, none⟩ (by simp; omega) (Ne.symm hrF)).trans (HC1.out _); have r5 := (hg2.frozen_far ⟨F, 0, none⟩ (by simp; omega) (Ne.symm hrF)).trans (HCF.out _)))
          all_goals
            go_wp2_with fail
            go_meet
            · have hg2' : w1.grownBy w2 (Value.slice ua gs.length uc).ownBlock := ⟨hg2.os, hg2.tape, hg2.output, Nat.le_trans (by simp) hg2.size, fun j hj hn => (hg2.block j (by simp; omega) hn).trans ((((Below.refl _ w1).drew).alloc (Nat.le_refl _) (.cells #[.int .i64 x.id, .int .i64 x.how, .int .i64 0] 80)).block j hj)⟩
              have hgr := HF2.out.grow HDM.out HXW.out hHPL.out (a := x.how) (b := 0) HOWN1.out HG1.out hq2 hg2' (hat2.elim (fun h => Or.inl h.symm) (fun h => Or.inr ⟨_, rfl, Nat.le_trans (by simp) h⟩))
              exact ⟨_, by rw [(preF_none hHPL.out).2], Lib.hid ⟨by rw [(preF_none hHPL.out).1]; exact hgr.1, (FTurn.of_below HB2.out).trans hgr.2, (Below.heap_setCell w2 _ _ _ (by show wr.heap.size ≠ F; have := HFR.out.lt; omega)).trans ((hg2'.block _ (by omega) (Ne.symm hrE)).trans HE1.out)⟩⟩
        | some p =>
          have hbkf : bk = true := by rw [← HBK.out, hpl]; rfl
          have hpvf : pv = (p : Int) := by rw [← HPV.out, hpl]; rfl
          subst hbkf hpvf
          have HPF := Lib.hid (preF_some hpl)
          have HF2 := Lib.hid hF2
          clear d0 d1 d2 df hE2 e2 e3 hpl hF2
          go_wp2_with fail
          go_meet
          exact ⟨_, by rw [HPF.out.2], Lib.hid ⟨by rw [HPF.out.1]; exact HF2.out, FTurn.of_below HB2.out, HE2.out⟩⟩
      case rest =>
        obtain ⟨u2, rfl, hX⟩ := hcut
        obtain ⟨hF3, hT3, hE3⟩ := hX.out
        obtain ⟨c, hc⟩ : ∃ c : Int, (gs.countP passed : Int) = c := ⟨_, rfl⟩
        have hc0 : 0 ≤ c := by omega
        have hc1 : c ≤ 2000000 := by have := count_le gs; have := HGS.out; omega
        rw [hc] at hF3
        have hpl1 := atF_lt gs x
        have hll := preF_len gs x
        obtain ⟨L, hL⟩ : ∃ L, (preF gs x).length = L := ⟨_, rfl⟩
        obtain ⟨g6, o6, c6, hu2, r0, r1, r2, rf⟩ := hF3.fate (atF gs x) hpl1
        subst hu2
        obtain ⟨f, hf⟩ : ∃ f, (preF gs x)[atF gs x] = f := ⟨_, rfl⟩
        obtain ⟨P, hP⟩ : ∃ P, atF gs x = P := ⟨_, rfl⟩
        rw [hf] at r0 r1 r2
        rw [hL] at hF3 hT3 hpl1 hll
        rw [hP] at hpl1 r0 r1 r2 ⊢
        obtain ⟨d0, d1, d2, df⟩ := hF3.cells
        have HP := Lib.hid hP
        have HLL := Lib.hid hL
        have HFE : Hid (addF gs x = (preF gs x).set (atF gs x) ⟨f.id, f.first, x.how⟩) := Lib.hid (by rw [addF_pre, hf])
        have HFG : Hid ((preF gs x)[atF gs x]'(atF_lt gs x) = f) := Lib.hid hf
        have HF3 := Lib.hid hF3
        have HT3 := Lib.hid hT3
        have HE3 := Lib.hid hE3
        have HC := Lib.hid hc
        have p0 : (0 : Int) ≤ (P : Int) := by omega
        have p1 : (P : Int) < (L : Int) := by omega
        clear hX hF3 hT3 hE3 hc hf hP hL hll
        go_wp2_with fail
        refine (passed_any f wc).mono ?_
        rintro e wA ⟨rfl, hbA⟩
        have hFA := HF3.out.below hbA
        have HFA := Lib.hid hFA
        have HTA := Lib.hid (HT3.out.trans (FTurn.of_below hbA))
        have HEA : Hid (wA.heap[wr.heap.size]? = some (.cells #[.int .i64 x.mod, .int .i64 x.kind, .int .i64 x.id, .int .i64 x.how] 54 (0, 0))) := Lib.hid ((hbA.block _ (Array.getElem?_eq_some_iff.1 HE3.out).1).trans HE3.out)
        have s2 := hFA.cells.2.2.1
        have sf := hFA.cells.2.2.2
        clear hbA hFA d0 d1 d2 df r0 r1 r2 rf HF3 HT3 HE3
        go_upto_if 59 with fail
        go_cut [] from 11 to 91 (fun wx => Hid (FatesAt B F (.slice (some ⟨g6, o6, none⟩) L c6) M (preF gs x) (c - (if passed f then 1 else 0)) wx ∧ FTurn F M (.slice ua gs.length uc) wr (.slice (some ⟨g6, o6, none⟩) L c6) wx ∧ wx.heap[wr.heap.size]? = some (.cells #[.int .i64 x.mod, .int .i64 x.kind, .int .i64 x.id, .int .i64 x.how] 54 (0, 0))))
        case first =>
          have hEF : wr.heap.size ≠ F := by have := HFR.out.lt; omega
          cases hpf : passed f with
          | true =>
            go_wp2_with fail
            go_meet
            have hp2 := HFA.out.put2 (c - 1)
            exact Lib.hid ⟨by rw [if_pos hpf]; exact hp2.1, HTA.out.trans hp2.2, (Below.heap_setCell wA _ _ _ hEF).trans HEA.out⟩
          | false =>
            go_wp2_with fail
            go_meet
            exact Lib.hid ⟨by rw [if_neg (by rw [hpf]; exact Bool.false_ne_true), Int.sub_zero]; exact HFA.out, HTA.out, HEA.out⟩
        case rest =>
          obtain ⟨hF5, hT5, hE5⟩ := hcut.out
          obtain ⟨c5, hc5⟩ : ∃ c5 : Int, c - (if passed f = true then 1 else 0) = c5 := ⟨_, rfl⟩
          rw [hc5] at hF5
          have hc5a : -1 ≤ c5 ∧ c5 ≤ 2000000 := by rw [← hc5]; split <;> omega
          obtain ⟨hc50, hc51⟩ := hc5a
          have HC5 := Lib.hid hc5
          obtain ⟨g7, o7, c7, hu7, r0, r1, r2, rf⟩ := hF5.fate (atF gs x) (atF_lt gs x)
          injection hu7 with a1 a2 a3
          injection a1 with a1
          injection a1 with a1 a4 a5
          subst a1 a4
          rw [HFG.out, HP.out] at r0 r1 r2
          have rf2 := rf (P * 3 + 2)
          rw [← Nat.add_assoc] at rf2
          obtain ⟨d0, d1, d2, df⟩ := hF5.cells
          have e3 : wc.cell? ⟨wr.heap.size, 3, none⟩ = some (.int .i64 x.how) := by rw [cell_of_row _ _ _ _ _ _ hE5]; rfl
          have hgF : g6 ≠ F := fun e => hF5.neR.1 (by rw [← e]; rfl)
          have hgE : g6 ≠ wr.heap.size := fun e => by
            obtain ⟨_, cur, hh⟩ := hF5.row.block (g := g6) rfl
            rw [e, hE5] at hh
            injection hh with hh
            injection hh with _ hh
            exact absurd hh (by decide)
          have HS6 : Hid (FatesAt B F (.slice (some ⟨g6, o6, none⟩) L c6) M (addF gs x) c5 (wc.drew.setCell ⟨g6, o6 + P * 3 + 2, none⟩ (.int .i64 x.how)) ∧ FTurn F M (.slice (some ⟨g6, o6, none⟩) L c6) wc (.slice (some ⟨g6, o6, none⟩) L c6) (wc.drew.setCell ⟨g6, o6 + P * 3 + 2, none⟩ (.int .i64 x.how))) := Lib.hid (by
            have h := (hF5.below ((Below.refl _ wc).drew)).putLast HLL.out (atF gs x) (atF_lt gs x) x.how
            rw [← addF_pre, HP.out] at h
            exact ⟨h.1, (FTurn.of_below ((Below.refl _ wc).drew)).trans h.2⟩)
          have HT5 := Lib.hid hT5
          clear hcut hF5 hT5 hE5 hc5 d1 d2 df rf r0 r1
          go_upto_region 10 with fail
          go_cut [] from 11 to 91 (fun wx => Hid (FatesAt B F (.slice (some ⟨g6, o6, none⟩) L c6) M (addF gs x) c5 wx ∧ FTurn F M (.slice ua gs.length uc) wr (.slice (some ⟨g6, o6, none⟩) L c6) wx))
          case first =>
            go_region
            all_goals
              go_wp2_with fail
              go_meet
              exact Lib.hid ⟨HS6.out.1, HT5.out.trans HS6.out.2⟩
          case rest =>
          have HT6 := Lib.hid hcut.out.2
          have HS6 := Lib.hid hcut.out.1
          clear hcut d0 e3 r2 rf2
          have hlt6 : atF gs x < (addF gs x).length := by rw [HFE.out, List.length_set]; exact atF_lt gs x
          have hel : (addF gs x)[atF gs x]'hlt6 = ⟨f.id, f.first, x.how⟩ := by simp only [HFE.out, List.getElem_set_self]
          have hln : (addF gs x).length = L := by rw [HFE.out, List.length_set, HLL.out]
          obtain ⟨g8, o8, c8, hu8, r0, r1, r2, rf⟩ := HS6.out.fate (atF gs x) hlt6
          injection hu8 with a1 a2 a3
          injection a1 with a1
          injection a1 with a1 a4 a5
          subst a1 a4
          rw [hel, HP.out] at r0 r1 r2
          obtain ⟨d0, d1, d2, df⟩ := HS6.out.cells
          have hcnt : ((addF gs x).countP passed : Int) = c5 + (if passed ⟨f.id, f.first, x.how⟩ = true then 1 else 0) := by rw [HFE.out, count_set (atF_lt gs x), HFG.out, preF_count, HC.out, HC5.out]
          have HCN := Lib.hid hcnt
          have HLN := Lib.hid hln
          clear hel hlt6 hln hcnt rf
          dsimp only at r0 r1 r2
          go_wp2_with fail
          refine (passed_any ⟨f.id, f.first, x.how⟩ wc).mono ?_
          rintro e wB ⟨rfl, hbB⟩
          have hFB := HS6.out.below hbB
          have s2 := hFB.cells.2.2.1
          have sf := hFB.cells.2.2.2
          have HFB := Lib.hid hFB
          have HTB := Lib.hid (HT6.out.trans (FTurn.of_below hbB))
          clear hbB hFB d0 d1 d2 df r0 r1 r2
          have hlen2 : (addF gs x).length ≤ gs.length + 1 := addF_len gs x
          cases hpf : passed ⟨f.id, f.first, x.how⟩ with
          | true =>
            go_wp2_with fail
            go_roundg (es.length - (i + 1))
            case measure => omega
            case rel =>
              have hp2 := HFB.out.put2 (c5 + 1)
              refine ⟨i + 1, addF gs x, _, rfl, by go_num, by omega, by rw [HCN.out, if_pos hpf]; exact hp2.1, Lib.hid (hT.out.trans (HTB.out.trans hp2.2)), by omega, Lib.hid ?_⟩
              rw [← hrest.out, HD.out]
              rfl
          | false =>
            go_wp2_with fail
            go_roundg (es.length - (i + 1))
            case measure => omega
            case rel =>
              refine ⟨i + 1, addF gs x, _, rfl, by go_num, by omega, by rw [HCN.out, if_neg (by rw [hpf]; exact Bool.false_ne_true), Int.add_zero]; exact HFB.out, Lib.hid (hT.out.trans HTB.out), by omega, Lib.hid ?_⟩
              rw [← hrest.out, HD.out]
              rfl
    · have g1 : ¬ (i : Int) < (es.length : Int) := by omega
      go_wp2_with fail
      go_end0
      obtain rfl : i = es.length := by omega
      have h5 := hrest.out
      rw [List.drop_length] at h5
      simp only [List.foldl_nil] at h5
      exact ⟨rfl, u, by rw [← h5]; exact hFr, hT.out⟩
end Go.Proofs.Ytojjlbhodiphdaa.Lg
