/-
  The iterator that log.steps gives: all entries of a kind of one clock at once, each time a new slice. Conditions: clocks do not fall; at most 1000000 entries are kept.
-/
import Derived.Test.YtojjlbhodiphdaaLgCut
namespace Go.Proofs.Ytojjlbhodiphdaa.Lg
open Go Go.RowKit Go.Joins Go.Shelf

attribute [local go_sem] Oper.semAt_some

set_option maxHeartbeats 4000000 in
set_option maxRecDepth 100000 in
theorem steps1_in (n : Nat) (_hn : 1 ≤ n) (l n1 B lb A1 A2 A3 A4 : Nat) (v : Value) (most fl kind a b : Int) (k : List En) (w0 : World) (hL : LogAt B lb v most fl k w0) (hr : Rise k) (hk : k.length ≤ 1000000) (hab : a ≤ b) (J Jx : List Gr → World → Prop)
    (hJ : ∀ pre W1 W2, J pre W1 → W1.grownBy W2 none → J pre W2)
    (hY : ∀ pre x W, J pre W → AtG w0.heap.size x W → (pre ++ [x]).map (·.1) <+: grpL (selL k kind a b) → pre.length < 1000001 → YieldAt Fence.wide (n - 1) Try.prog l (encG x) W fun e W' =>
      (e = .returned (.bool true) ∧ J (pre ++ [x]) W' ∧ KpG w0.heap.size n1 (Boxes lb kind a b A1 A2 A3 A4) W W') ∨ (e = .returned (.bool false) ∧ Jx (pre ++ [x]) W'))
    (W : World) (hW : Below w0.heap.size w0 W) (hn1 : n1 ≤ W.heap.size) (hb : Boxes lb kind a b A1 A2 A3 A4 W) (h0 : J [] W) :
    CallsIn Fence.wide n Try.prog 32 #[.func (.yield l) #[] #[], .pointer (some ⟨A1, 0, none⟩), .pointer (some ⟨A2, 0, none⟩), .pointer (some ⟨A3, 0, none⟩), .pointer (some ⟨A4, 0, none⟩)] W fun e W' => (∃ u, e = .returned u) ∧
      ((∃ ys : List Gr, ys.map (·.1) = grpL (selL k kind a b) ∧ J ys W') ∨ (∃ pre : List Gr, pre.map (·.1) <+: grpL (selL k kind a b) ∧ Jx pre W')) := by
  obtain ⟨va, vc, rfl⟩ := hL.2.2.form
  have hLw : ∀ w', Below W.heap.size W w' → LogAt B lb (.slice va k.length vc) most fl k w' := fun w' h => hL.below (hW.trans (h.mono hW.size))
  have HBX : Hid (∀ w', Below W.heap.size W w' → Boxes lb kind a b A1 A2 A3 A4 w') := Lib.hid (fun w' h => hb.grown (grown_below h))
  have HBE : ∀ (m : Int) w', Below W.heap.size W w' → Calls Try.prog 33 #[.pointer (some ⟨lb, 0, none⟩), .int .i64 m] w' fun e w'' => e = .returned (.int .i64 (behindL k m : Int)) ∧ Below W.heap.size W w'' := fun m w' h =>
    (behind_any B lb _ most fl m k w' (hLw w' h) hr hk).mono (by rintro e w'' ⟨rfl, hb2⟩; exact ⟨rfl, h.trans (hb2.mono h.size)⟩)
  have HL := Lib.hid hLw
  have hle := behindL_mono k hab
  have hle2 := behindL_le k b
  obtain ⟨sa, sc, hsl, hso, hsat⟩ := slice_cut B va vc k (behindL k a) (behindL k b) w0 hle hle2 hL.2.2
  have HSL := Lib.hid hsl
  have hHB := hb
  have hB0 : B ≤ w0.heap.size := Nat.le_trans hL.2.1 (Nat.le_of_lt hL.lt)
  obtain ⟨cl, hcl⟩ : ∃ cl, (k.take (behindL k b)).drop (behindL k a) = cl := ⟨_, rfl⟩
  have hsel : cl.filter (fun e => decide (e.kind = kind)) = selL k kind a b := by rw [← hcl]; exact sel_cut hr hab
  have hclen : cl.length = behindL k b - behindL k a := by rw [← hcl, List.length_drop, List.length_take, Nat.min_eq_left hle2]
  have hsk : (grpL (selL k kind a b)).length ≤ 1000000 := Nat.le_trans (grpL_len _) (Nat.le_trans (List.length_filter_le _ _) hk)
  rw [hcl] at hsat
  have HSAT := Lib.hid hsat
  have HSEL := Lib.hid hsel
  have HCL := Lib.hid hclen
  have HSK := Lib.hid hsk
  have HW := Lib.hid hW
  have HHB := Lib.hid hHB
  obtain ⟨i0, hi0, hz0, hz1, hz2⟩ := info_parts infoE
  clear hLw hb hsl hcl hsel hclen hsk hHB hsat
  refine callsIn_of_wp Try.func32 rfl trivial ?_ rfl
  simp only [Try.ntmps32, List.size_toArray, List.length_cons, List.length_nil, Nat.reduceAdd, Nat.reduceSub, Array.replicate_succ, Array.replicate_zero, List.push_toArray, List.append_toArray, List.nil_append, List.cons_append]
  gi_wp2_with fail
  refine region_wide_quiet (C := fun w' => Below W.heap.size W w') (by kernel_rfl) (by kernel_rfl) (fun ⟨_, _, h⟩ => ?_) (by kernel_rfl) ((Below.refl _ W).drew) ?_
  · obtain ⟨⟨u, hu⟩, _⟩ := h
    cases hu
  · refine wpQuiet_step (fun K hK => ?_)
    rw [if_pos (by kernel_rfl)]
    refine ⟨.pointer (some ⟨lb, 0, none⟩), fun w' hw' => ?_, ?_⟩
    · have c1 := (HBX.out w' hw').log.cell
      have c2 := (HBX.out w' hw').lo.cell
      have c3 := (HBX.out w' hw').hi.cell
      obtain ⟨_, _, d2, _⟩ := (HL.out w' hw').cells
      clear hw'
      go_simp
    go_simp
    refine hK _ ?_
    clear hK K
    refine wpQuiet_step (fun K hK => ?_)
    rw [if_pos (by kernel_rfl)]
    refine ⟨.pointer (some ⟨lb, 0, none⟩), fun w' hw' => ?_, ?_⟩
    · clear hw'
      go_simp
    go_simp
    refine hK _ ?_
    clear hK K
    refine wpQuiet_step (fun K hK => ?_)
    rw [if_pos (by kernel_rfl)]
    refine ⟨.pointer (some ⟨lb, 2, none⟩), fun w' hw' => ?_, ?_⟩
    · clear hw'
      go_simp
    go_simp
    refine hK _ ?_
    clear hK K
    refine wpQuiet_step (fun K hK => ?_)
    rw [if_pos (by kernel_rfl)]
    refine ⟨.slice va k.length vc, fun w' hw' => ?_, ?_⟩
    · have c1 := (HBX.out w' hw').log.cell
      have c2 := (HBX.out w' hw').lo.cell
      have c3 := (HBX.out w' hw').hi.cell
      obtain ⟨_, _, d2, _⟩ := (HL.out w' hw').cells
      clear hw'
      go_simp
    go_simp
    refine hK _ ?_
    clear hK K
    refine wpQuiet_step (fun K hK => ?_)
    rw [if_pos (by kernel_rfl)]
    refine ⟨.pointer (some ⟨lb, 0, none⟩), fun w' hw' => ?_, ?_⟩
    · have c1 := (HBX.out w' hw').log.cell
      have c2 := (HBX.out w' hw').lo.cell
      have c3 := (HBX.out w' hw').hi.cell
      obtain ⟨_, _, d2, _⟩ := (HL.out w' hw').cells
      clear hw'
      go_simp
    go_simp
    refine hK _ ?_
    clear hK K
    refine wpQuiet_step (fun K hK => ?_)
    rw [if_pos (by kernel_rfl)]
    refine ⟨.int .i64 a, fun w' hw' => ?_, ?_⟩
    · have c1 := (HBX.out w' hw').log.cell
      have c2 := (HBX.out w' hw').lo.cell
      have c3 := (HBX.out w' hw').hi.cell
      obtain ⟨_, _, d2, _⟩ := (HL.out w' hw').cells
      clear hw'
      go_simp
    go_simp
    refine hK _ ?_
    clear hK K
    refine wpQuiet_step (fun K hK => ?_)
    rw [if_pos (by kernel_rfl)]
    refine ⟨.int .i64 (behindL k a : Int), fun w' hw' => ?_, ?_⟩
    · go_simp
    go_simp
    refine hK _ ?_
    clear hK K
    refine wpQuiet_step (fun K hK => ?_)
    rw [if_pos (by kernel_rfl)]
    refine ⟨.pointer (some ⟨lb, 0, none⟩), fun w' hw' => ?_, ?_⟩
    · have c1 := (HBX.out w' hw').log.cell
      have c2 := (HBX.out w' hw').lo.cell
      have c3 := (HBX.out w' hw').hi.cell
      obtain ⟨_, _, d2, _⟩ := (HL.out w' hw').cells
      clear hw'
      go_simp
    go_simp
    refine hK _ ?_
    clear hK K
    refine wpQuiet_step (fun K hK => ?_)
    rw [if_pos (by kernel_rfl)]
    refine ⟨.int .i64 b, fun w' hw' => ?_, ?_⟩
    · have c1 := (HBX.out w' hw').log.cell
      have c2 := (HBX.out w' hw').lo.cell
      have c3 := (HBX.out w' hw').hi.cell
      obtain ⟨_, _, d2, _⟩ := (HL.out w' hw').cells
      clear hw'
      go_simp
    go_simp
    refine hK _ ?_
    clear hK K
    refine wpQuiet_step (fun K hK => ?_)
    rw [if_pos (by kernel_rfl)]
    refine ⟨.int .i64 (behindL k b : Int), fun w' hw' => ?_, ?_⟩
    · go_simp
    go_simp
    refine hK _ ?_
    clear hK K
    refine wpQuiet_step (fun K hK => ?_)
    rw [if_pos (by kernel_rfl)]
    refine ⟨.slice sa (behindL k b - behindL k a) sc, fun w' hw' => ?_, ?_⟩
    · have hs2 := HSL.out w'
      clear hw'
      go_simp
    go_simp
    refine hK _ ?_
    clear hK K
    refine wpQuiet_step (fun K hK => ?_)
    rw [if_pos (by kernel_rfl)]
    refine ⟨.int .i64 ((behindL k b - behindL k a : Nat) : Int), fun w' hw' => ?_, ?_⟩
    · clear hw'
      go_simp
    go_simp
    refine hK _ ?_
    clear hK K
    refine wpQuiet_step (fun K hK => ?_)
    rw [if_pos (by kernel_rfl)]
    refine ⟨.int .i64 0, fun w' hw' => ?_, ?_⟩
    · clear hw'
      go_simp
    go_simp
    refine hK _ ?_
    clear hK K
    refine wpQuiet_nil ?_
    intro W1 hW1
    have HB1 := Lib.hid hW1
    obtain ⟨N, hN⟩ : ∃ N, behindL k b - behindL k a = N := ⟨_, rfl⟩
    rw [hN] at HSAT HCL ⊢
    have hN6 : N ≤ 1000000 := by omega
    clear HBE HL HSL HBX hle hle2 hN hW1 hW
    gi_wp2_with fail
    gi_loopw [6, 21] (fun sv iv wr => ∃ (pre : List Gr) (cur : List En) (i : Nat) (Wl : World), iv = .int .i64 (i : Int) ∧ i ≤ N ∧ Hid (Below w0.heap.size w0 Wl ∧ Below Wl.heap.size Wl wr ∧ J pre Wl ∧ Boxes lb kind a b A1 A2 A3 A4 Wl ∧ n1 ≤ Wl.heap.size) ∧ QAt Wl.heap.size 54 4 sv cur.length (esC cur) wr ∧ cur.length ≤ i ∧
      Hid (pre.map (·.1) ++ grpG cur ((cl.drop i).filter (fun e => decide (e.kind = kind))) = grpL (selL k kind a b))) (fun _ iv _ => N - (intOf iv).toNat)
    case atStart =>
      refine ⟨[], [], 0, W1, rfl, Nat.zero_le _, Lib.hid ⟨HW.out.trans (HB1.out.mono HW.out.size), Below.refl _ _, hJ _ _ _ h0 (grown_below HB1.out), HHB.out.grown (grown_below HB1.out), Nat.le_trans hn1 HB1.out.size⟩, QAt.nil _ _ _ _, Nat.le_refl _, Lib.hid ?_⟩
      rw [List.drop_zero, HSEL.out]
      rfl
    case round =>
      obtain ⟨pre, cur, i, Wl, rfl, hi, HI, hq, hcl, HR⟩ := hrel
      have HPL : Hid (pre.length < 1000001) := Lib.hid (by
        have h1 := congrArg List.length HR.out
        rw [List.length_append, List.length_map] at h1
        have := HSK.out
        omega)
      obtain ⟨ua, uc, rfl⟩ := hq.form
      by_cases hlt : i < N
      · have g1 : (i : Int) < (N : Int) := by omega
        have g0 : (0 : Int) ≤ (i : Int) := by omega
        have hwr : Below w0.heap.size w0 wr := HI.out.1.trans (HI.out.2.1.mono HI.out.1.size)
        have hil : i < cl.length := by rw [HCL.out]; exact hlt
        have hsr := HSAT.out
        rw [← HCL.out] at hsr
        have hsr2 := hsr.below (esC_length cl) hwr
        obtain ⟨g, o, cap, hv, q0, q1, q2, q3⟩ := sat_en hsr2 i hil
        rw [HCL.out] at hv
        injection hv with hv1 hv2 hv3
        subst hv1
        obtain ⟨x, hx⟩ : ∃ x, cl[i] = x := ⟨_, rfl⟩
        rw [hx] at q0 q1 q2 q3
        have hbx := (HI.out.2.2.2.1.grown (grown_below HI.out.2.1))
        have ck := ((hbx.kd).alloc (.cells #[.int .i64 x.mod, .int .i64 x.kind, .int .i64 x.id, .int .i64 x.how] 54)).cell
        have HD : Hid (cl.drop i = x :: cl.drop (i + 1)) := Lib.hid (by rw [List.drop_eq_getElem_cons hil, hx])
        have HBX2 := Lib.hid hbx
        have HWR := Lib.hid hwr
        clear hv2 hv3 hsr hsr2 hx hbx hwr hil
        by_cases hkd : x.kind = kind
        · rw [hkd] at ck q1
          have HKD := Lib.hid hkd
          clear hkd
          rcases cur with _ | ⟨c, t⟩
          · gi_wp2_with fail
            refine region_wide_quiet (C := fun w' => ∃ m, w' = (wr.alloc (.cells #[.int .i64 x.mod, .int .i64 kind, .int .i64 x.id, .int .i64 x.how] 54)).drewN m) (by kernel_rfl) (by kernel_rfl) ?_ (by kernel_rfl) ⟨1, rfl⟩ ?_
            · rintro ⟨_, _, ⟨⟨u, hu⟩, _⟩⟩
              cases hu
            repeat (quiet_step (fail))
            refine wpQuiet_nil ?_
            rintro _ ⟨nq, rfl⟩
            have hB2 : Below wr.heap.size wr ((wr.alloc (.cells #[.int .i64 x.mod, .int .i64 kind, .int .i64 x.id, .int .i64 x.how] 54)).drewN nq) := below_drewN ((Below.refl _ wr).alloc (Nat.le_refl _) _) _
            have hE2 : ((wr.alloc (.cells #[.int .i64 x.mod, .int .i64 kind, .int .i64 x.id, .int .i64 x.how] 54)).drewN nq).heap[wr.heap.size]? = some (.cells #[.int .i64 x.mod, .int .i64 kind, .int .i64 x.id, .int .i64 x.how] 54 (0, 0)) := heap_alloc_new wr _
            generalize (wr.alloc (.cells #[.int .i64 x.mod, .int .i64 kind, .int .i64 x.id, .int .i64 x.how] 54)).drewN nq = W2 at hB2 hE2 ⊢
            have hq2 := hq.below hB2
            have HB2 := Lib.hid hB2
            have hE2s : wr.heap.size < W2.heap.size := (Array.getElem?_eq_some_iff.1 hE2).1
            have hWl : Wl.heap.size ≤ wr.heap.size := HI.out.2.1.size
            clear hq hB2

            have e0 : W2.cell? ⟨wr.heap.size, 0, none⟩ = some (.int .i64 x.mod) := by rw [cell_of_row _ _ _ _ _ _ hE2]; rfl
            have e1 : W2.cell? ⟨wr.heap.size, 1, none⟩ = some (.int .i64 kind) := by rw [cell_of_row _ _ _ _ _ _ hE2]; rfl
            have e2 : W2.cell? ⟨wr.heap.size, 2, none⟩ = some (.int .i64 x.id) := by rw [cell_of_row _ _ _ _ _ _ hE2]; rfl
            have e3 : W2.cell? ⟨wr.heap.size, 3, none⟩ = some (.int .i64 x.how) := by rw [cell_of_row _ _ _ _ _ _ hE2]; rfl
            have HQX := Lib.hid (hq2.alloc (.cells #[.int .i64 x.mod, .int .i64 kind, .int .i64 x.id, .int .i64 x.how] 54))
            clear hE2 hq2
            gi_wp2_with (gi_at_builtin; refine wpListIn_append_q (B := Wl.heap.size) (size := 4) rfl _ _ 31 rfl i0 _ 32 Try.underlying31 hi0 hz0 hz1 hz2 rfl (by decide) rfl HQX.out ⟨W2.heap.size, 0, none⟩ 1 1 [.int .i64 x.mod, .int .i64 kind, .int .i64 x.id, .int .i64 x.how] rfl (by decide) rfl (World.news_of_block (cs := #[.int .i64 x.mod, .int .i64 kind, .int .i64 x.id, .int .i64 x.how]) (heap_alloc_new W2 _)) (by simp [Value.oneCell']) (by unfold maxLen; omega) (by omega) (by first | (simp; done) | (simp; omega)) ?_; intro g1 q1 cap1 w3 hq3 hg3 hat3)
            rw [show ([.int .i64 x.mod, .int .i64 kind, .int .i64 x.id, .int .i64 x.how] : List Value) = eC x by unfold eC; rw [HKD.out]] at hq3
            have HQ3 := Lib.hid hq3
            have HB3 : Hid (Below Wl.heap.size W2 w3) := Lib.hid (((Below.refl Wl.heap.size W2).alloc (by omega) (.cells #[.int .i64 x.mod, .int .i64 kind, .int .i64 x.id, .int .i64 x.how] 54)).grown hg3 (by first | (simp; done) | (simp; omega)) (fun j ej => (HQX.out.block ej).1))
            clear hq3 hg3 hat3
            gi_wp2_with fail
            go_roundw
            case rel =>
              refine ⟨pre, [x], i + 1, Wl, by go_num, by omega, Lib.hid ⟨HI.out.1, HI.out.2.1.trans ((HB2.out.mono hWl).trans HB3.out), HI.out.2.2.1, HI.out.2.2.2.1, HI.out.2.2.2.2⟩, HQ3.out, by simp at hcl ⊢; try omega, Lib.hid ?_⟩
              rw [← HR.out, HD.out, List.filter_cons, if_pos (by simpa using HKD.out), grpG_first]
            case measure => simp [intOf]; omega
          · have hq0 := hq.at (Nat.succ_pos _)
            obtain ⟨gq, oq, cq, hv, _, _, hcc, _⟩ := hq0
            injection hv with hv1 hv2 hv3
            subst hv1
            have cm : wr.cell? ⟨gq, oq, none⟩ = some (.int .i64 c.mod) := hcc 0 (by rw [List.length_cons]; omega)
            have cm2 := (((Below.refl wr.heap.size wr).alloc (Nat.le_refl _) (.cells #[.int .i64 x.mod, .int .i64 kind, .int .i64 x.id, .int .i64 x.how] 54)).cell (p := ⟨gq, oq, none⟩) (World.block_lt_of_cell? wr _ cm)).trans cm
            rw [List.length_cons] at hq hcl
            clear hcc hv2 hv3 cm
            by_cases hmm : c.mod = x.mod
            · gi_wp2_with fail
              refine region_wide_quiet (C := fun w' => ∃ m, w' = (wr.alloc (.cells #[.int .i64 x.mod, .int .i64 kind, .int .i64 x.id, .int .i64 x.how] 54)).drewN m) (by kernel_rfl) (by kernel_rfl) ?_ (by kernel_rfl) ⟨1, rfl⟩ ?_
              · rintro ⟨_, _, ⟨⟨u, hu⟩, _⟩⟩
                cases hu
              repeat (quiet_step (fail))
              refine wpQuiet_nil ?_
              rintro _ ⟨nq, rfl⟩
              have hB2 : Below wr.heap.size wr ((wr.alloc (.cells #[.int .i64 x.mod, .int .i64 kind, .int .i64 x.id, .int .i64 x.how] 54)).drewN nq) := below_drewN ((Below.refl _ wr).alloc (Nat.le_refl _) _) _
              have hE2 : ((wr.alloc (.cells #[.int .i64 x.mod, .int .i64 kind, .int .i64 x.id, .int .i64 x.how] 54)).drewN nq).heap[wr.heap.size]? = some (.cells #[.int .i64 x.mod, .int .i64 kind, .int .i64 x.id, .int .i64 x.how] 54 (0, 0)) := heap_alloc_new wr _
              generalize (wr.alloc (.cells #[.int .i64 x.mod, .int .i64 kind, .int .i64 x.id, .int .i64 x.how] 54)).drewN nq = W2 at hB2 hE2 ⊢
              have hq2 := hq.below hB2
              have HB2 := Lib.hid hB2
              have hE2s : wr.heap.size < W2.heap.size := (Array.getElem?_eq_some_iff.1 hE2).1
              have hWl : Wl.heap.size ≤ wr.heap.size := HI.out.2.1.size
              clear hq hB2

              have e0 : W2.cell? ⟨wr.heap.size, 0, none⟩ = some (.int .i64 x.mod) := by rw [cell_of_row _ _ _ _ _ _ hE2]; rfl
              have e1 : W2.cell? ⟨wr.heap.size, 1, none⟩ = some (.int .i64 kind) := by rw [cell_of_row _ _ _ _ _ _ hE2]; rfl
              have e2 : W2.cell? ⟨wr.heap.size, 2, none⟩ = some (.int .i64 x.id) := by rw [cell_of_row _ _ _ _ _ _ hE2]; rfl
              have e3 : W2.cell? ⟨wr.heap.size, 3, none⟩ = some (.int .i64 x.how) := by rw [cell_of_row _ _ _ _ _ _ hE2]; rfl
              have HQX := Lib.hid (hq2.alloc (.cells #[.int .i64 x.mod, .int .i64 kind, .int .i64 x.id, .int .i64 x.how] 54))
              clear hE2 hq2
              gi_wp2_with (gi_at_builtin; refine wpListIn_append_q (B := Wl.heap.size) (size := 4) rfl _ _ 31 rfl i0 _ 32 Try.underlying31 hi0 hz0 hz1 hz2 rfl (by decide) rfl HQX.out ⟨W2.heap.size, 0, none⟩ 1 1 [.int .i64 x.mod, .int .i64 kind, .int .i64 x.id, .int .i64 x.how] rfl (by decide) rfl (World.news_of_block (cs := #[.int .i64 x.mod, .int .i64 kind, .int .i64 x.id, .int .i64 x.how]) (heap_alloc_new W2 _)) (by simp [Value.oneCell']) (by unfold maxLen; omega) (by omega) (by first | (simp; done) | (simp; omega)) ?_; intro g1 q1 cap1 w3 hq3 hg3 hat3)
              rw [show ([.int .i64 x.mod, .int .i64 kind, .int .i64 x.id, .int .i64 x.how] : List Value) = eC x by unfold eC; rw [HKD.out]] at hq3
              have HQ3 := Lib.hid hq3
              have HB3 : Hid (Below Wl.heap.size W2 w3) := Lib.hid (((Below.refl Wl.heap.size W2).alloc (by omega) (.cells #[.int .i64 x.mod, .int .i64 kind, .int .i64 x.id, .int .i64 x.how] 54)).grown hg3 (by first | (simp; done) | (simp; omega)) (fun j ej => (HQX.out.block ej).1))
              clear hq3 hg3 hat3
              gi_wp2_with fail
              go_roundw
              case rel =>
                refine ⟨pre, c :: t ++ [x], i + 1, Wl, by go_num, by omega, Lib.hid ⟨HI.out.1, HI.out.2.1.trans ((HB2.out.mono hWl).trans HB3.out), HI.out.2.2.1, HI.out.2.2.2.1, HI.out.2.2.2.2⟩, (by rw [List.length_append, esC_append]; exact HQ3.out), by simp at hcl ⊢; try omega, Lib.hid ?_⟩
                rw [← HR.out, HD.out, List.filter_cons, if_pos (by simpa using HKD.out), grpG_same _ _ hmm]
              case measure => simp [intOf]; omega
            · gi_wp2_with fail
              refine region_wide_quiet (C := fun w' => ∃ m, w' = (wr.alloc (.cells #[.int .i64 x.mod, .int .i64 kind, .int .i64 x.id, .int .i64 x.how] 54)).drewN m) (by kernel_rfl) (by kernel_rfl) ?_ (by kernel_rfl) ⟨1, rfl⟩ ?_
              · rintro ⟨_, _, ⟨⟨u, hu⟩, _⟩⟩
                cases hu
              repeat (quiet_step (fail))
              refine wpQuiet_nil ?_
              rintro _ ⟨nq, rfl⟩
              have hB2 : Below wr.heap.size wr ((wr.alloc (.cells #[.int .i64 x.mod, .int .i64 kind, .int .i64 x.id, .int .i64 x.how] 54)).drewN nq) := below_drewN ((Below.refl _ wr).alloc (Nat.le_refl _) _) _
              have hE2 : ((wr.alloc (.cells #[.int .i64 x.mod, .int .i64 kind, .int .i64 x.id, .int .i64 x.how] 54)).drewN nq).heap[wr.heap.size]? = some (.cells #[.int .i64 x.mod, .int .i64 kind, .int .i64 x.id, .int .i64 x.how] 54 (0, 0)) := heap_alloc_new wr _
              generalize (wr.alloc (.cells #[.int .i64 x.mod, .int .i64 kind, .int .i64 x.id, .int .i64 x.how] 54)).drewN nq = W2 at hB2 hE2 ⊢
              have hq2 := hq.below hB2
              have HB2 := Lib.hid hB2
              have hE2s : wr.heap.size < W2.heap.size := (Array.getElem?_eq_some_iff.1 hE2).1
              have hWl : Wl.heap.size ≤ wr.heap.size := HI.out.2.1.size
              clear hq hB2

              have HJ2 := Lib.hid (hJ _ _ _ HI.out.2.2.1 (grown_below (HI.out.2.1.trans (HB2.out.mono hWl))))
              obtain ⟨fn, tmps, assign, body, hy, hR⟩ := hY pre (c :: t, .slice (some ⟨gq, oq, none⟩) (t.length + 1) uc) W2 HJ2.out (hq2.mono HI.out.1.size) (by
                rw [List.map_append, ← HR.out, HD.out, List.filter_cons, if_pos (by simpa using HKD.out), grpG_next _ _ hmm]
                exact ⟨grpG [x] ((cl.drop (i + 1)).filter (fun e => decide (e.kind = kind))), by simp⟩) HPL.out
              simp only [encG] at hy
              have HE2 := Lib.hid hE2
              clear hE2 hq2 cm2
              gi_wp2_with fail
              refine hR.mono ?_
              rintro e W3 (⟨rfl, hJ3, hk3⟩ | ⟨rfl, hJx3⟩)
              · have hE3 : W3.heap[wr.heap.size]? = some (.cells #[.int .i64 x.mod, .int .i64 kind, .int .i64 x.id, .int .i64 x.how] 54 (0, 0)) := hk3.cells _ _ (Nat.le_trans HI.out.2.2.2.2 hWl) HE2.out
                have hq3n : QAt W3.heap.size 54 4 (.slice none 0 0) 0 (esC []) W3 := QAt.nil _ _ _ _
                have hE3s : wr.heap.size < W3.heap.size := (Array.getElem?_eq_some_iff.1 hE3).1
                have HK3 := Lib.hid hk3
                have HJ3 := Lib.hid hJ3
                clear hk3 hJ3 hR hy HJ2
                have e0 : W3.cell? ⟨wr.heap.size, 0, none⟩ = some (.int .i64 x.mod) := by rw [cell_of_row _ _ _ _ _ _ hE3]; rfl
                have e1 : W3.cell? ⟨wr.heap.size, 1, none⟩ = some (.int .i64 kind) := by rw [cell_of_row _ _ _ _ _ _ hE3]; rfl
                have e2 : W3.cell? ⟨wr.heap.size, 2, none⟩ = some (.int .i64 x.id) := by rw [cell_of_row _ _ _ _ _ _ hE3]; rfl
                have e3 : W3.cell? ⟨wr.heap.size, 3, none⟩ = some (.int .i64 x.how) := by rw [cell_of_row _ _ _ _ _ _ hE3]; rfl
                have HQX := Lib.hid (hq3n.alloc (.cells #[.int .i64 x.mod, .int .i64 kind, .int .i64 x.id, .int .i64 x.how] 54))
                clear hE3 hq3n
                gi_wp2_with (gi_at_builtin; refine wpListIn_append_q (B := W3.heap.size) (size := 4) rfl _ _ 31 rfl i0 _ 32 Try.underlying31 hi0 hz0 hz1 hz2 rfl (by decide) rfl HQX.out ⟨W3.heap.size, 0, none⟩ 1 1 [.int .i64 x.mod, .int .i64 kind, .int .i64 x.id, .int .i64 x.how] rfl (by decide) rfl (World.news_of_block (cs := #[.int .i64 x.mod, .int .i64 kind, .int .i64 x.id, .int .i64 x.how]) (heap_alloc_new W3 _)) (by simp [Value.oneCell']) (by unfold maxLen; omega) (by omega) (by first | (simp; done) | (simp; omega)) ?_; intro g1 q1 cap1 w3 hq3 hg3 hat3)
                rw [show ([.int .i64 x.mod, .int .i64 kind, .int .i64 x.id, .int .i64 x.how] : List Value) = eC x by unfold eC; rw [HKD.out]] at hq3
                have HQ3 := Lib.hid hq3
                have HB3 : Hid (Below W3.heap.size W3 w3) := Lib.hid (((Below.refl W3.heap.size W3).alloc (by omega) (.cells #[.int .i64 x.mod, .int .i64 kind, .int .i64 x.id, .int .i64 x.how] 54)).grown hg3 (by first | (simp; done) | (simp; omega)) (fun j ej => (HQX.out.block ej).1))
                clear hq3 hg3 hat3
                gi_wp2_with fail
                go_roundw
                case rel =>
                  refine ⟨pre ++ [(c :: t, .slice (some ⟨gq, oq, none⟩) (t.length + 1) uc)], [x], i + 1, W3, by go_num, by omega, Lib.hid ⟨(HWR.out.trans (HB2.out.mono HWR.out.size)).trans HK3.out.below, HB3.out, HJ3.out, HK3.out.boxes (HBX2.out.grown (grown_below HB2.out)), Nat.le_trans HI.out.2.2.2.2 (Nat.le_trans hWl (Nat.le_of_lt hE3s))⟩, HQ3.out, by simp at hcl ⊢; try omega, Lib.hid ?_⟩
                  rw [← HR.out, HD.out, List.filter_cons, if_pos (by simpa using HKD.out), grpG_next _ _ hmm, List.map_append, List.append_assoc]
                  rfl
                case measure => simp [intOf]; omega
              · gi_wp2_with fail
                refine bodyPost_ret (results_none rfl _ _ _) rfl ?_
                refine ⟨⟨_, rfl⟩, .inr ⟨pre ++ [(c :: t, _)], ?_, hJx3⟩⟩
                rw [List.map_append, ← HR.out, HD.out, List.filter_cons, if_pos (by simpa using HKD.out), grpG_next _ _ hmm]
                exact ⟨grpG [x] ((cl.drop (i + 1)).filter (fun e => decide (e.kind = kind))), by simp⟩
        · gi_wp2_with fail
          go_roundw
          case rel =>
            refine ⟨pre, cur, i + 1, Wl, by go_num, by omega, Lib.hid ⟨HI.out.1, HI.out.2.1.trans ((Below.refl _ wr).alloc HI.out.2.1.size _ |>.mono (Nat.le_refl _)), HI.out.2.2⟩, hq.below ((Below.refl _ wr).alloc (Nat.le_refl _) _), by omega, Lib.hid ?_⟩
            rw [← HR.out, HD.out, List.filter_cons, if_neg (by simpa using hkd)]
          case measure => simp [intOf]; omega
      · have g1 : ¬ (i : Int) < (N : Int) := by omega
        have hJw := hJ _ _ _ HI.out.2.2.1 (grown_below HI.out.2.1)
        have HFin : Hid (pre.map (·.1) ++ grpG cur [] = grpL (selL k kind a b)) := Lib.hid (by
          have h5 := HR.out
          rw [List.drop_of_length_le (by rw [HCL.out]; omega)] at h5
          exact h5)
        rcases cur with _ | ⟨c, t⟩
        · clear hq
          gi_wp2_with fail
          go_end0
          refine ⟨⟨_, rfl⟩, .inl ⟨pre, ?_, hJw⟩⟩
          rw [← HFin.out, grpG_nil]
          simp
        · rw [List.length_cons] at hq
          obtain ⟨fn, tmps, assign, body, hy, hR⟩ := hY pre (c :: t, .slice ua (t.length + 1) uc) wr hJw (hq.mono HI.out.1.size) (by
            rw [List.map_append, ← HFin.out, grpG_nil]
            simp) HPL.out
          simp only [encG] at hy
          clear hq
          gi_wp2_with fail
          refine hR.mono ?_
          rintro e W3 (⟨rfl, hJ3, hk3⟩ | ⟨rfl, hJx3⟩)
          · gi_wp2_with fail
            go_end0
            refine ⟨⟨_, rfl⟩, .inl ⟨pre ++ [(c :: t, _)], ?_, hJ3⟩⟩
            rw [List.map_append, ← HFin.out, grpG_nil]
            simp
          · gi_wp2_with fail
            go_end0
            refine ⟨⟨_, rfl⟩, .inr ⟨pre ++ [(c :: t, _)], ?_, hJx3⟩⟩
            rw [List.map_append, ← HFin.out, grpG_nil]
            simp
end Go.Proofs.Ytojjlbhodiphdaa.Lg
