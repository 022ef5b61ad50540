/-
  log.lists tells what became of each id by the entries of a kind above a clock up to another. Conditions: clocks do not fall; ids are numbers of their type; at most 1000000 entries are kept.
-/
import Derived.Test.YtojjlbhodiphdaaLgLst
import Derived.Laws.EntriesVeiled
namespace Go.Proofs.Ytojjlbhodiphdaa.Lg
open Go Go.RowKit Go.Joins Go.Shelf

attribute [local go_sem] Oper.semAt_some

/-- The lists as they are told. -/
def ChV (B : Nat) (fs : List Ft) (state : Int) (more : Bool) (v : Value) (w : World) : Prop := ∃ c1 c2 c3, v = .agg #[c1, c2, c3, .int .i64 state, .bool more] ∧ QAt B 3 1 c1 (madeL fs).length (isC (madeL fs)) w ∧ QAt B 3 1 c2 (turnedL fs).length (isC (turnedL fs)) w ∧ QAt B 3 1 c3 (goneL fs).length (isC (goneL fs)) w
/-- What lists keeps while it goes through the steps. -/
structure LS (N0 : Nat) (w : World) (L : List En) (W : World) : Prop where
  fates : ∃ lv, FatesAt (N0 + 1) (N0 + 2) lv (N0 + 1) (fatesL L) ((fatesL L).countP passed : Int) W
  res : W.heap[N0]? = some (.cells #[.slice none 0 0, .slice none 0 0, .slice none 0 0, .int .i64 0, .bool false] 42 (0, 0))
  bt : Boxed W (N0 + 3) 70 (.pointer (some ⟨N0 + 2, 0, none⟩))
  bel : Below N0 w W
  size : N0 + 8 ≤ W.heap.size
theorem LS.turns {N0 : Nat} {w : World} {L : List En} {W W' : World} {row : Option Nat} (h : LS N0 w L W) (hN : N0 ≤ w.heap.size) (hg : W.grownBy W' row) (hr : Turns (N0 + 8) W row) : LS N0 w L W' := by
  obtain ⟨lv, hf⟩ := h.fates
  refine ⟨⟨lv, hf.turns (by omega) (by omega) hg hr⟩, (hg.block N0 (Array.getElem?_eq_some_iff.1 h.res).1 (fun e => ?_)).trans h.res, boxed_turns h.bt (by omega) hg hr, below_turns h.bel hN (by omega) hg hr, Nat.le_trans h.size hg.size⟩
  have := (hr N0 e.symm).1
  omega
theorem LS.add {N0 : Nat} {w : World} {L L' : List En} {W W' : World} {lv lv' : Value} (h : LS N0 w L W) (hF : FatesAt (N0 + 1) (N0 + 2) lv (N0 + 1) (fatesL L) ((fatesL L).countP passed : Int) W) (hT : FTurn (N0 + 2) (N0 + 1) lv W lv' W')
    (hF' : FatesAt (N0 + 1) (N0 + 2) lv' (N0 + 1) (fatesL L') ((fatesL L').countP passed : Int) W') : LS N0 w L' W' := by
  have hb := hT.below hF
  exact ⟨⟨lv', hF'⟩, hT.box hF (by decide) (by decide) h.res, hT.boxed hF (by decide) (by decide) h.bt, h.bel.trans ⟨hb.os, hb.tape, hb.output, hb.size, fun k hk => hb.block k (by omega)⟩, Nat.le_trans h.size hT.size⟩

/-! ### One fate more -/
theorem made_snoc (fs : List Ft) (f : Ft) : madeL (fs ++ [f]) = madeL fs ++ if (!passed f && decide (f.first = 1)) = true then [f.id] else [] := by
  unfold madeL
  rw [List.filter_append, List.map_append, List.filter_cons]
  split <;> rfl
theorem turned_snoc (fs : List Ft) (f : Ft) : turnedL (fs ++ [f]) = turnedL fs ++ if (!passed f && !decide (f.first = 1) && !decide (f.last = 3)) = true then [f.id] else [] := by
  unfold turnedL
  rw [List.filter_append, List.map_append, List.filter_cons]
  split <;> rfl
theorem gone_snoc (fs : List Ft) (f : Ft) : goneL (fs ++ [f]) = goneL fs ++ if (!passed f && !decide (f.first = 1) && decide (f.last = 3)) = true then [f.id] else [] := by
  unfold goneL
  rw [List.filter_append, List.map_append, List.filter_cons]
  split <;> rfl

/-- Five cells of a block, one after the other. -/
theorem five_set {w : World} {N : Nat} {T : TypeId} {a0 a1 a2 a3 a4 : Value} (h : w.heap[N]? = some (.cells #[a0, a1, a2, a3, a4] T (0, 0))) (b0 b1 b2 b3 b4 : Value) :
    (((((w.setCell ⟨N, 0, none⟩ b0).setCell ⟨N, 1, none⟩ b1).setCell ⟨N, 2, none⟩ b2).setCell ⟨N, 3, none⟩ b3).setCell ⟨N, 4, none⟩ b4).heap[N]? = some (.cells #[b0, b1, b2, b3, b4] T (0, 0)) ∧
      (∀ j, j ≠ N → (((((w.setCell ⟨N, 0, none⟩ b0).setCell ⟨N, 1, none⟩ b1).setCell ⟨N, 2, none⟩ b2).setCell ⟨N, 3, none⟩ b3).setCell ⟨N, 4, none⟩ b4).heap[j]? = w.heap[j]?) ∧
      (((((w.setCell ⟨N, 0, none⟩ b0).setCell ⟨N, 1, none⟩ b1).setCell ⟨N, 2, none⟩ b2).setCell ⟨N, 3, none⟩ b3).setCell ⟨N, 4, none⟩ b4).heap.size = w.heap.size := by
  refine ⟨heap_setCell_same _ N 4 _ T b4 (heap_setCell_same _ N 3 _ T b3 (heap_setCell_same _ N 2 _ T b2 (heap_setCell_same _ N 1 _ T b1 (heap_setCell_same w N 0 _ T b0 h)))), fun j hj => ?_, by simp [World.setCell]⟩
  rw [Below.heap_setCell _ _ _ _ hj, Below.heap_setCell _ _ _ _ hj, Below.heap_setCell _ _ _ _ hj, Below.heap_setCell _ _ _ _ hj, Below.heap_setCell _ _ _ _ hj]
theorem made_len (fs : List Ft) : (madeL fs).length ≤ fs.length := by unfold madeL; rw [List.length_map]; exact List.length_filter_le _ _
theorem turned_len (fs : List Ft) : (turnedL fs).length ≤ fs.length := by unfold turnedL; rw [List.length_map]; exact List.length_filter_le _ _
theorem gone_len (fs : List Ft) : (goneL fs).length ≤ fs.length := by unfold goneL; rw [List.length_map]; exact List.length_filter_le _ _
theorem take_len {fs : List Ft} (i : Nat) (h : fs.length ≤ 1000000) : (fs.take i).length ≤ 1000000 := by rw [List.length_take]; omega

set_option maxHeartbeats 4000000 in
set_option maxRecDepth 100000 in
theorem lists_any (B lb : Nat) (v : Value) (most_ fl kind a b : Int) (k : List En) (w : World) (hL : LogAt B lb v most_ fl k w) (hr : Rise k) (hk : k.length ≤ 1000000) (hwf : ∀ e ∈ k, (Lit.int .i64 e.id).wf = true) (hac : a ≤ b) :
    Calls Try.prog 24 #[.pointer (some ⟨lb, 0, none⟩), .int .i64 kind, .int .i64 a, .int .i64 b] w fun e w' => ∃ u, e = .returned u ∧ ChV w.heap.size (fatesL (selL k kind a b)) 0 false u w' ∧ Below w.heap.size w w' := by
  obtain ⟨W3, hW3⟩ : ∃ W3, w.alloc (.cells #[.slice none 0 0, .slice none 0 0, .slice none 0 0, .int .i64 0, .bool false] 42) = W3 := ⟨_, rfl⟩
  have hs3 : W3.heap.size = w.heap.size + 1 := by rw [← hW3]; simp
  have hb3 : Below w.heap.size w W3 := by rw [← hW3]; exact (Below.refl _ w).alloc (Nat.le_refl _) _
  have x0 : W3.heap[w.heap.size]? = some (.cells #[.slice none 0 0, .slice none 0 0, .slice none 0 0, .int .i64 0, .bool false] 42 (0, 0)) := by rw [← hW3]; exact heap_alloc_new w _
  have HB3 := Lib.hid (And.intro hb3 x0)
  have HS3 := Lib.hid hs3
  have HL := Lib.hid hL
  have HNF := Lib.hid (newFates_any W3)
  clear hb3 x0 hs3
  refine (callsIn_wide (n := 3)).1 ?_
  refine callsIn_of_wp_marks Try.func24 rfl trivial ?_ rfl
  simp only [Try.ntmps24, List.size_toArray, List.length_cons, List.length_nil, Nat.reduceAdd, Nat.reduceSub, Array.replicate_succ, Array.replicate_zero, List.push_toArray, List.append_toArray, List.nil_append, List.cons_append]
  gi_wp2_with fail
  refine ⟨trivial, ?_⟩
  refine (callsIn_wide.2 HNF.out).mono ?_
  rintro e W4 ⟨rfl, hF4, hb4, hs4⟩
  obtain ⟨N0, hN0⟩ : ∃ N0, w.heap.size = N0 := ⟨_, rfl⟩
  rw [hN0] at HS3 HB3
  rw [HS3.out] at hF4 hs4 hb4 ⊢
  rw [hN0]
  have h4 : W4.heap.size = N0 + 3 := by omega
  obtain ⟨W5, hW5⟩ : ∃ W5, W4.alloc (.cells #[.pointer (some ⟨N0 + 1 + 1, 0, none⟩)] 70) = W5 := ⟨_, rfl⟩
  have h5 : W5.heap.size = N0 + 4 := by rw [← hW5, World.size_alloc, h4]
  obtain ⟨W6, hW6⟩ : ∃ W6, (((W5.alloc (.cells #[.pointer (some ⟨lb, 0, none⟩)] 25)).alloc (.cells #[.int .i64 kind] 3)).alloc (.cells #[.int .i64 a] 3)).alloc (.cells #[.int .i64 b] 3) = W6 := ⟨_, rfl⟩
  have h6 : W6.heap.size = N0 + 8 := by rw [← hW6]; simp [h5]
  have HST := Lib.hid (steps_any lb kind a b W5)
  rw [hW6, h5] at HST
  have hb56 : Below W4.heap.size W4 W6 := by
    rw [← hW6, ← hW5]
    exact (((((Below.refl _ W4).alloc (Nat.le_refl _) _).alloc (by simp) _).alloc (by simp; omega) _).alloc (by simp; omega) _).alloc (by simp; omega) _
  have y5 : Boxed W6 (N0 + 3) 70 (.pointer (some ⟨N0 + 1 + 1, 0, none⟩)) := by
    have h := Boxed.new W4 70 (.pointer (some ⟨N0 + 1 + 1, 0, none⟩))
    rw [h4, hW5] at h
    rw [← hW6]
    exact (((h.alloc _).alloc _).alloc _).alloc _
  have hBX : Boxes lb kind a b (N0 + 4) (N0 + 4 + 1 + 1) (N0 + 4 + 1 + 1 + 1) (N0 + 4 + 1) W6 := by
    have k1 := Boxed.new W5 25 (.pointer (some ⟨lb, 0, none⟩))
    have k2 := Boxed.new (W5.alloc (.cells #[.pointer (some ⟨lb, 0, none⟩)] 25)) 3 (.int .i64 kind)
    have k3 := Boxed.new ((W5.alloc (.cells #[.pointer (some ⟨lb, 0, none⟩)] 25)).alloc (.cells #[.int .i64 kind] 3)) 3 (.int .i64 a)
    have k4 := Boxed.new (((W5.alloc (.cells #[.pointer (some ⟨lb, 0, none⟩)] 25)).alloc (.cells #[.int .i64 kind] 3)).alloc (.cells #[.int .i64 a] 3)) 3 (.int .i64 b)
    simp only [World.size_alloc, h5] at k1 k2 k3 k4
    rw [← hW6]
    exact ⟨((k1.alloc _).alloc _).alloc _, k3.alloc _, k4, (k2.alloc _).alloc _⟩
  obtain ⟨hb3, x0⟩ := HB3.out
  have hbel : Below N0 w W6 := hb3.trans ((hb4.mono (by omega)).trans (hb56.mono (by omega)))
  have hRS : LS N0 w [] W6 := ⟨⟨_, hF4.below hb56⟩, (hb56.block N0 (by omega)).trans ((hb4.block N0 (by omega)).trans x0), y5, hbel, by omega⟩
  have HRS := Lib.hid hRS
  have HBX := Lib.hid hBX
  have HBL := Lib.hid hbel
  have H6 := Lib.hid h6
  clear hb3 x0 hbel hRS hBX y5 hb56 hF4 hb4 hs4 hW3 HB3
  gi_wp2_with fail
  refine ⟨trivial, ?_⟩
  refine (callsIn_wide.2 HST.out).mono ?_
  rintro e W ⟨rfl, rfl⟩
  gi_wp2_with fail
  subst hN0
  have hsz : w.heap.size ≤ W.heap.size := by rw [h6]; omega
  have HLG := HL.out
  refine range_rows (n := 3) (by omega) (gf := 32) (lb := #[.pointer (some ⟨w.heap.size + 4, 0, none⟩), .pointer (some ⟨w.heap.size + 4 + 1 + 1, 0, none⟩), .pointer (some ⟨w.heap.size + 4 + 1 + 1 + 1, 0, none⟩), .pointer (some ⟨w.heap.size + 4 + 1, 0, none⟩)]) rfl (enters_of Try.func32 (by kernel_rfl) rfl)
    (encs := encG) (At := fun pre x W1 => AtG w.heap.size x W1 ∧ (pre ++ [x]).map (·.1) <+: grpL (selL k kind a b)) (Kp := KpG w.heap.size (w.heap.size + 8) (Boxes lb kind a b (w.heap.size + 4) (w.heap.size + 4 + 1 + 1) (w.heap.size + 4 + 1 + 1 + 1) (w.heap.size + 4 + 1)))
    (S := fun ys => ys.map (·.1) = grpL (selL k kind a b)) (Sp := fun pre => pre.map (·.1) <+: grpL (selL k kind a b)) (N := 1000001)
    (fun l J Jx W1 hW1 hJ _ hY h0 => steps1_in 2 (by omega) l (w.heap.size + 8) B lb _ _ _ _ v most_ fl kind a b k w HLG hr hk hac J Jx hJ (fun pre x W2 hj hat hp hlt => hY pre x W2 hj ⟨hat, hp⟩ hlt) W1 (HBL.out.trans (hW1.mono hsz)) (by have := hW1.size; omega) (HBX.out.grown (grown_below hW1)) h0)
    (fun pre x W1 l o o' _ h hc hat => ⟨hat.1.put o' h hc, hat.2⟩) (fun h k => h.t k) (fun W1 l o o' hl h hc hw => kpG_put (w := W) hsz l o o' hl h hc hw) (fun _ => rfl)
    (fun pre W1 => LS w.heap.size w (pre.map (·.1)).flatten W1)
    (fun c pre W1 => False)
    (fun pre W1 W2 row h hg hr' => by
      rw [h6] at hr'
      exact h.turns (Nat.le_refl _) hg hr')
    (fun c pre W1 W2 row h hg hr' => h.elim)
    HRS.out
    (fun x => { tmps := #[.pointer (some ⟨lb, 0, none⟩), .int .i64 kind, .int .i64 a, .int .i64 b, undef, undef, undef, undef, .pointer (some ⟨w.heap.size, 0, none⟩), .pointer (some ⟨w.heap.size + 3, 0, none⟩), x.2, undef, undef, undef,
      .pointer (some ⟨w.heap.size + 1 + 1, 0, none⟩), .pointer (some ⟨lb, 0, none⟩), .int .i64 kind, .int .i64 a, .int .i64 b, .func (.func 32) #[] #[.pointer (some ⟨w.heap.size + 4, 0, none⟩), .pointer (some ⟨w.heap.size + 4 + 1 + 1, 0, none⟩), .pointer (some ⟨w.heap.size + 4 + 1 + 1 + 1, 0, none⟩), .pointer (some ⟨w.heap.size + 4 + 1, 0, none⟩)],
      x.2, undef, undef, undef, undef, undef, undef, undef, undef, undef, undef, undef, undef, undef, undef, undef, undef, undef, undef, undef, undef, undef, undef, undef, undef, undef, undef, undef, undef, undef, undef, undef, undef, undef, undef, undef, undef, undef, undef, undef, undef, undef, undef, undef, undef, undef, undef], defers := [] }) ?assign ?body ?done ?stop
  case assign =>
    intro l x W1 K hK
    dsimp only [encG]
    gi_wp2
    exact hK
  case body =>
    rintro l pre ⟨gx, sv⟩ W1 hRS1 ⟨hat, hpf⟩ hlt
    rw [List.map_append] at hpf
    obtain ⟨hne, hgw, hgl, hfl, hfl2⟩ := pre_facts hpf hwf hk
    obtain ⟨lv, hF⟩ := hRS1.fates
    have hat' : QAt w.heap.size 54 4 sv gx.length (esC gx) W1 := hat
    have HADD := Lib.hid (fadd_any (w.heap.size + 1) (w.heap.size + 2) lv (w.heap.size + 1) _ gx _ W1 hF (by have := hRS1.size; omega) hat'.sat (fun g hg => (hat'.block hg).2) hgw hgl hfl)
    obtain ⟨sa, sc, rfl⟩ := hat'.form
    have ct := hRS1.bt.cell
    have HRS1 := Lib.hid hRS1
    have HF := Lib.hid hF
    obtain ⟨gs, hgs⟩ : ∃ gs, pre.map (·.1) = gs := ⟨_, rfl⟩
    have HMP : Hid (∀ u, (pre ++ [((gx, u) : Gr)]).map (·.1) = gs ++ [gx]) := Lib.hid (fun u => by rw [List.map_append, hgs]; rfl)
    have HFL : Hid ((gx.foldl addF (fatesL gs.flatten)) = fatesL (gs ++ [gx]).flatten) := Lib.hid (by unfold fatesL; simp)
    rw [hgs] at HADD HRS1 HF
    rw [HFL.out] at HADD
    clear hpf hne hgw hfl hfl2 hgl hat hat' hRS1 hF hgs
    gi_wp2_with fail
    refine ⟨trivial, ?_⟩
    refine (CallsIn.inRound l (callsIn_wide.2 HADD.out)).mono ?_
    rintro e W2 ⟨rfl, lv', hF2, hT2⟩
    have HK2 : Hid (KeepsFrom W.heap.size W1 W2) := Lib.hid (hT2.from HF.out (by rw [h6]; omega) (by rw [h6]; omega))
    have HKP2 := Lib.hid (hT2.kpG HF.out (Nat.le_add_right w.heap.size 1) (lb := lb) (kind := kind) (a := a) (b := b) (A1 := w.heap.size + 4) (A2 := w.heap.size + 4 + 1 + 1) (A3 := w.heap.size + 4 + 1 + 1 + 1) (A4 := w.heap.size + 4 + 1) (n1 := w.heap.size + 8))
    have HRS2 := Lib.hid (HRS1.out.add HF.out hT2 hF2)
    clear hF2 hT2
    gi_wp2_with fail
    exact ⟨by first | exact HK2.out | (rw [← h6]; exact HK2.out), HKP2.out, by show LS w.heap.size w ((pre ++ [((gx, _) : Gr)]).map (fun x : Gr => x.1)).flatten W2; rw [HMP.out]; exact HRS2.out⟩
  case stop =>
    rintro D c pre W1 hD hpx h hK
    exact h.elim
  case done =>
    rintro D ys W1 hD hys hRS1 hK
    rw [hys, grpL_flat] at hRS1
    obtain ⟨i0, hi0, hz0, hz1, hz2⟩ := info_parts infoI
    obtain ⟨fs, hfs⟩ : ∃ fs, fatesL (selL k kind a b) = fs := ⟨_, rfl⟩
    have hfn : fs.length ≤ 1000000 := by rw [← hfs]; exact Nat.le_trans (fatesL_len _) (Nat.le_trans (List.length_filter_le _ _) hk)
    obtain ⟨lv, hF⟩ := hRS1.fates
    rw [hfs] at hF
    obtain ⟨la, lc, rfl⟩ := hF.row.form
    have HFS := Lib.hid hfs
    have HFN := Lib.hid hfn
    obtain ⟨n, hn⟩ : ∃ n, fs.length = n := ⟨_, rfl⟩
    have hn6 : n ≤ 1000000 := by omega
    have hbA : Below W1.heap.size W1 (W1.alloc (.cells #[.slice none 0 0, .slice none 0 0, .slice none 0 0, .int .i64 0, .bool false] 42)) := (Below.refl _ W1).alloc (Nat.le_refl _) _
    have ct := (hRS1.bt.alloc (.cells #[.slice none 0 0, .slice none 0 0, .slice none 0 0, .int .i64 0, .bool false] 42)).cell
    have cF := (hF.below hbA).cells.1
    rw [hn] at cF
    have HF := Lib.hid hF
    have HRS1 := Lib.hid hRS1
    have HKD := Lib.hid hK
    have HN := Lib.hid hn
    have HST1 := Lib.hid (LSt.start W1)
    clear hF hRS1 hK hbA hfs hfn hn
    gi_wp2_with fail
    gi_loopw [29] (fun iv wr => ∃ (i : Nat) (c1 c2 c3 : Value), iv = .int .i64 (i : Int) ∧ i ≤ n ∧ LSt (W1.heap.size + 1) W1.heap.size W1 c1 c2 c3 (madeL (fs.take i)) (turnedL (fs.take i)) (goneL (fs.take i)) wr) (fun iv _ => n - (intOf iv).toNat)
    case atStart => exact ⟨0, _, _, _, rfl, Nat.zero_le _, HST1.out⟩
    case round =>
      clear ct cF
      obtain ⟨i, c1, c2, c3, rfl, hi, hls⟩ := hrel
      by_cases hlt : i < n
      · have g1 : (i : Int) < (n : Int) := by omega
        have g0 : (0 : Int) ≤ (i : Int) := by omega
        have hil : i < fs.length := by rw [HN.out]; exact hlt
        have hFr := HF.out.keep (w' := wr) (fun j hj _ => hls.oth j (by omega) (by omega))
        obtain ⟨g, o, cp, hv, r0, r1, r2, _⟩ := hFr.fate i hil
        rw [HN.out] at hv
        injection hv with hv1 hv2 hv3
        subst hv1
        obtain ⟨f, hf⟩ : ∃ f, fs[i] = f := ⟨_, rfl⟩
        rw [hf] at r0 r1 r2
        have HTK : Hid (fs.take (i + 1) = fs.take i ++ [f]) := Lib.hid (by rw [List.take_succ_eq_append_getElem hil, hf])
        have HLS := Lib.hid hls
        clear hv3 hFr hf hls hil
        gi_wp2_with fail
        refine ⟨trivial, ?_⟩
        refine (callsIn_wide.2 (passed_any f _)).mono ?_
        rintro e W8 ⟨rfl, hb8⟩
        have hbw : Below wr.heap.size wr (wr.alloc (.cells #[.int .i64 f.id, .int .i64 f.first, .int .i64 f.last] 80)) := (Below.refl _ wr).alloc (Nat.le_refl _) _
        have hE8 : W8.heap[wr.heap.size]? = some (.cells #[.int .i64 f.id, .int .i64 f.first, .int .i64 f.last] 80 (0, 0)) := (hb8.block _ (by simp)).trans (heap_alloc_new wr _)
        have h8 := HLS.out.below (hbw.trans (hb8.mono hbw.size))
        have e0 : W8.cell? ⟨wr.heap.size, 0, none⟩ = some (.int .i64 f.id) := by rw [cell_of_row _ _ _ _ _ _ hE8]; rfl
        have e1 : W8.cell? ⟨wr.heap.size, 1, none⟩ = some (.int .i64 f.first) := by rw [cell_of_row _ _ _ _ _ _ hE8]; rfl
        have e2 : W8.cell? ⟨wr.heap.size, 2, none⟩ = some (.int .i64 f.last) := by rw [cell_of_row _ _ _ _ _ _ hE8]; rfl
        clear hbw hb8 hE8 r0 r1 r2 HLS
        cases hpf : passed f with
        | true =>
          gi_wp2_with fail
          go_roundw
          case rel =>
            refine ⟨i + 1, c1, c2, c3, by go_num, by omega, ?_⟩
            rw [HTK.out, made_snoc, turned_snoc, gone_snoc, if_neg (by simp [hpf]), if_neg (by simp [hpf]), if_neg (by simp [hpf])]
            simp only [List.append_nil]
            exact h8
          case measure => simp [intOf]; omega
        | false =>
          have HPF := Lib.hid hpf
          by_cases h1 : f.first = 1
          · have H1 := Lib.hid h1
            obtain ⟨ua, uc, rfl⟩ := h8.q1.form
            obtain ⟨k0, k1, k2, k3, k4, kf⟩ := h8.cells
            have HNE : Hid ((Value.slice ua ((madeL (fs.take i)).length) uc).ownBlock ≠ some W1.heap.size) := Lib.hid (h8.q1.ne h8.ch (fun cs e => by injection e with e1 e2; exact absurd e2 (by decide)))
            have HQ := Lib.hid (h8.q1.alloc (.cells #[.int .i64 f.id] 3))
            have hroom := h8.room
            have hll : ((madeL (fs.take i))).length ≤ 1000000 := Nat.le_trans (made_len _) (take_len i HFN.out)
            have hCH : W1.heap.size < W8.heap.size := (Array.getElem?_eq_some_iff.1 h8.ch).1
            have kk : (W8.alloc (.cells #[.int .i64 f.id] 3)).cell? ⟨W1.heap.size, 0, none⟩ = some (.slice ua ((madeL (fs.take i)).length) uc) := (((Below.refl _ W8).alloc (Nat.le_refl _) (.cells #[.int .i64 f.id] 3)).cell (p := ⟨W1.heap.size, 0, none⟩) hCH).trans k0
            have kkf : (W8.alloc (.cells #[.int .i64 f.id] 3)).frozen? ⟨W1.heap.size, 0, none⟩ = false := (World.frozen?_of_block (a := ⟨W1.heap.size, 0, none⟩) (((Below.refl _ W8).alloc (Nat.le_refl _) (.cells #[.int .i64 f.id] 3)).block _ hCH)).trans (kf 0)
            have H8 := Lib.hid h8
            have HKK := Lib.hid (And.intro kk kkf)
            clear h8 kk kkf
            gi_wp2_with (gi_at_builtin; refine wpListIn_append_q (B := W1.heap.size + 1) (size := 1) rfl _ _ 40 rfl i0 _ 8 Try.underlying40 hi0 hz0 hz1 hz2 rfl (by decide) rfl HQ.out ⟨W8.heap.size, 0, none⟩ 1 1 [.int .i64 f.id] rfl (by decide) rfl (World.news_of_block (cs := #[.int .i64 f.id]) (heap_alloc_new W8 _)) (by simp [Value.oneCell']) (by unfold maxLen; omega) (by omega) (by simp; omega) ?_; intro g1 q1 cap1 w3 hq3 hg3 hat3; have r4 := (hg3.cell_far ⟨W1.heap.size, 0, none⟩ (by simp; omega) (Ne.symm HNE.out)).trans HKK.out.1; have r5 := (hg3.frozen_far ⟨W1.heap.size, 0, none⟩ (by simp; omega) (Ne.symm HNE.out)).trans HKK.out.2)
            have HPUT := Lib.hid (H8.out.put1 (x := f.id) ((Below.refl _ W8).alloc (Nat.le_refl _) (.cells #[.int .i64 f.id] 3)) hq3 hg3 (hat3.elim (fun h => Or.inl h.symm) (fun h => Or.inr ⟨_, rfl, Nat.le_trans (by simp) h⟩)))
            clear hq3 hg3 hat3
            gi_wp2_with fail
            go_roundw
            case rel =>
              refine ⟨i + 1, ?c11, ?c21, ?c31, by go_num, by omega, ?fin1⟩
              case fin1 =>
                rw [HTK.out, made_snoc, turned_snoc, gone_snoc, if_pos (by simp [HPF.out, H1.out]), if_neg (by simp [HPF.out, H1.out]), if_neg (by simp [HPF.out, H1.out])]
                simp only [List.append_nil]
                exact HPUT.out
            case measure => simp [intOf]; omega
          · by_cases h3 : f.last = 3
            · have H1 := Lib.hid h1
              have H3 := Lib.hid h3
              obtain ⟨ua, uc, rfl⟩ := h8.q3.form
              obtain ⟨k0, k1, k2, k3, k4, kf⟩ := h8.cells
              have HNE : Hid ((Value.slice ua ((goneL (fs.take i)).length) uc).ownBlock ≠ some W1.heap.size) := Lib.hid (h8.q3.ne h8.ch (fun cs e => by injection e with e1 e2; exact absurd e2 (by decide)))
              have HQ := Lib.hid (h8.q3.alloc (.cells #[.int .i64 f.id] 3))
              have hroom := h8.room
              have hll : ((goneL (fs.take i))).length ≤ 1000000 := Nat.le_trans (gone_len _) (take_len i HFN.out)
              have hCH : W1.heap.size < W8.heap.size := (Array.getElem?_eq_some_iff.1 h8.ch).1
              have kk : (W8.alloc (.cells #[.int .i64 f.id] 3)).cell? ⟨W1.heap.size, 2, none⟩ = some (.slice ua ((goneL (fs.take i)).length) uc) := (((Below.refl _ W8).alloc (Nat.le_refl _) (.cells #[.int .i64 f.id] 3)).cell (p := ⟨W1.heap.size, 2, none⟩) hCH).trans k2
              have kkf : (W8.alloc (.cells #[.int .i64 f.id] 3)).frozen? ⟨W1.heap.size, 2, none⟩ = false := (World.frozen?_of_block (a := ⟨W1.heap.size, 2, none⟩) (((Below.refl _ W8).alloc (Nat.le_refl _) (.cells #[.int .i64 f.id] 3)).block _ hCH)).trans (kf 2)
              have H8 := Lib.hid h8
              have HKK := Lib.hid (And.intro kk kkf)
              clear h8 kk kkf
              gi_wp2_with (gi_at_builtin; refine wpListIn_append_q (B := W1.heap.size + 1) (size := 1) rfl _ _ 40 rfl i0 _ 8 Try.underlying40 hi0 hz0 hz1 hz2 rfl (by decide) rfl HQ.out ⟨W8.heap.size, 0, none⟩ 1 1 [.int .i64 f.id] rfl (by decide) rfl (World.news_of_block (cs := #[.int .i64 f.id]) (heap_alloc_new W8 _)) (by simp [Value.oneCell']) (by unfold maxLen; omega) (by omega) (by simp; omega) ?_; intro g1 q1 cap1 w3 hq3 hg3 hat3; have r4 := (hg3.cell_far ⟨W1.heap.size, 2, none⟩ (by simp; omega) (Ne.symm HNE.out)).trans HKK.out.1; have r5 := (hg3.frozen_far ⟨W1.heap.size, 2, none⟩ (by simp; omega) (Ne.symm HNE.out)).trans HKK.out.2)
              have HPUT := Lib.hid (H8.out.put3 (x := f.id) ((Below.refl _ W8).alloc (Nat.le_refl _) (.cells #[.int .i64 f.id] 3)) hq3 hg3 (hat3.elim (fun h => Or.inl h.symm) (fun h => Or.inr ⟨_, rfl, Nat.le_trans (by simp) h⟩)))
              clear hq3 hg3 hat3
              gi_wp2_with fail
              go_roundw
              case rel =>
                refine ⟨i + 1, ?c13, ?c23, ?c33, by go_num, by omega, ?fin3⟩
                case fin3 =>
                  rw [HTK.out, made_snoc, turned_snoc, gone_snoc, if_neg (by simp [HPF.out, H1.out]), if_neg (by simp [HPF.out, H1.out, H3.out]), if_pos (by simp [HPF.out, H1.out, H3.out])]
                  simp only [List.append_nil]
                  exact HPUT.out
              case measure => simp [intOf]; omega
            · have H1 := Lib.hid h1
              have H3 := Lib.hid h3
              obtain ⟨ua, uc, rfl⟩ := h8.q2.form
              obtain ⟨k0, k1, k2, k3, k4, kf⟩ := h8.cells
              have HNE : Hid ((Value.slice ua ((turnedL (fs.take i)).length) uc).ownBlock ≠ some W1.heap.size) := Lib.hid (h8.q2.ne h8.ch (fun cs e => by injection e with e1 e2; exact absurd e2 (by decide)))
              have HQ := Lib.hid (h8.q2.alloc (.cells #[.int .i64 f.id] 3))
              have hroom := h8.room
              have hll : ((turnedL (fs.take i))).length ≤ 1000000 := Nat.le_trans (turned_len _) (take_len i HFN.out)
              have hCH : W1.heap.size < W8.heap.size := (Array.getElem?_eq_some_iff.1 h8.ch).1
              have kk : (W8.alloc (.cells #[.int .i64 f.id] 3)).cell? ⟨W1.heap.size, 1, none⟩ = some (.slice ua ((turnedL (fs.take i)).length) uc) := (((Below.refl _ W8).alloc (Nat.le_refl _) (.cells #[.int .i64 f.id] 3)).cell (p := ⟨W1.heap.size, 1, none⟩) hCH).trans k1
              have kkf : (W8.alloc (.cells #[.int .i64 f.id] 3)).frozen? ⟨W1.heap.size, 1, none⟩ = false := (World.frozen?_of_block (a := ⟨W1.heap.size, 1, none⟩) (((Below.refl _ W8).alloc (Nat.le_refl _) (.cells #[.int .i64 f.id] 3)).block _ hCH)).trans (kf 1)
              have H8 := Lib.hid h8
              have HKK := Lib.hid (And.intro kk kkf)
              clear h8 kk kkf
              gi_wp2_with (gi_at_builtin; refine wpListIn_append_q (B := W1.heap.size + 1) (size := 1) rfl _ _ 40 rfl i0 _ 8 Try.underlying40 hi0 hz0 hz1 hz2 rfl (by decide) rfl HQ.out ⟨W8.heap.size, 0, none⟩ 1 1 [.int .i64 f.id] rfl (by decide) rfl (World.news_of_block (cs := #[.int .i64 f.id]) (heap_alloc_new W8 _)) (by simp [Value.oneCell']) (by unfold maxLen; omega) (by omega) (by simp; omega) ?_; intro g1 q1 cap1 w3 hq3 hg3 hat3; have r4 := (hg3.cell_far ⟨W1.heap.size, 1, none⟩ (by simp; omega) (Ne.symm HNE.out)).trans HKK.out.1; have r5 := (hg3.frozen_far ⟨W1.heap.size, 1, none⟩ (by simp; omega) (Ne.symm HNE.out)).trans HKK.out.2)
              have HPUT := Lib.hid (H8.out.put2 (x := f.id) ((Below.refl _ W8).alloc (Nat.le_refl _) (.cells #[.int .i64 f.id] 3)) hq3 hg3 (hat3.elim (fun h => Or.inl h.symm) (fun h => Or.inr ⟨_, rfl, Nat.le_trans (by simp) h⟩)))
              clear hq3 hg3 hat3
              gi_wp2_with fail
              go_roundw
              case rel =>
                refine ⟨i + 1, ?c12, ?c22, ?c32, by go_num, by omega, ?fin2⟩
                case fin2 =>
                  rw [HTK.out, made_snoc, turned_snoc, gone_snoc, if_neg (by simp [HPF.out, H1.out]), if_pos (by simp [HPF.out, H1.out, H3.out]), if_neg (by simp [HPF.out, H1.out, H3.out])]
                  simp only [List.append_nil]
                  exact HPUT.out
              case measure => simp [intOf]; omega
      · have g1 : ¬ (i : Int) < (n : Int) := by omega
        obtain rfl : i = n := by omega
        have HTA : Hid (fs.take i = fs) := Lib.hid (by rw [← HN.out, List.take_length])
        obtain ⟨u1, v1, rfl⟩ := hls.q1.form
        obtain ⟨u2, v2, rfl⟩ := hls.q2.form
        obtain ⟨u3, v3, rfl⟩ := hls.q3.form
        have hNW : w.heap.size + 8 ≤ W1.heap.size := HRS1.out.size
        have hres : wr.heap[w.heap.size]? = some (.cells #[.slice none 0 0, .slice none 0 0, .slice none 0 0, .int .i64 0, .bool false] 42 (0, 0)) := (hls.oth w.heap.size (by omega) (by omega)).trans HRS1.out.res
        obtain ⟨k0, k1, k2, k3, k4, kf⟩ := hls.cells
        have n0 : wr.cell? ⟨w.heap.size, 0, none⟩ = some (.slice none 0 0) := by rw [cell_of_row _ _ _ _ _ _ hres]; rfl
        have n1 : wr.cell? ⟨w.heap.size, 1, none⟩ = some (.slice none 0 0) := by rw [cell_of_row _ _ _ _ _ _ hres]; rfl
        have n2 : wr.cell? ⟨w.heap.size, 2, none⟩ = some (.slice none 0 0) := by rw [cell_of_row _ _ _ _ _ _ hres]; rfl
        have n3 : wr.cell? ⟨w.heap.size, 3, none⟩ = some (.int .i64 0) := by rw [cell_of_row _ _ _ _ _ _ hres]; rfl
        have n4 : wr.cell? ⟨w.heap.size, 4, none⟩ = some (.bool false) := by rw [cell_of_row _ _ _ _ _ _ hres]; rfl
        have nf : ∀ j, wr.frozen? ⟨w.heap.size, j, none⟩ = false := fun j => frozen_of_row _ _ _ _ _ hres
        have HLS := Lib.hid hls
        have HRES := Lib.hid hres
        clear hls hres
        gi_wp2_with fail
        obtain ⟨hX1, hX2, hX3⟩ := five_set HRES.out (.slice u1 (madeL (fs.take i)).length v1) (.slice u2 (turnedL (fs.take i)).length v2) (.slice u3 (goneL (fs.take i)).length v3) (.int .i64 0) (.bool false)
        have hXos : (((((wr.setCell ⟨w.heap.size, 0, none⟩ (.slice u1 (madeL (fs.take i)).length v1)).setCell ⟨w.heap.size, 1, none⟩ (.slice u2 (turnedL (fs.take i)).length v2)).setCell ⟨w.heap.size, 2, none⟩ (.slice u3 (goneL (fs.take i)).length v3)).setCell ⟨w.heap.size, 3, none⟩ (.int .i64 0)).setCell ⟨w.heap.size, 4, none⟩ (.bool false)).os = w.os ∧
            (((((wr.setCell ⟨w.heap.size, 0, none⟩ (.slice u1 (madeL (fs.take i)).length v1)).setCell ⟨w.heap.size, 1, none⟩ (.slice u2 (turnedL (fs.take i)).length v2)).setCell ⟨w.heap.size, 2, none⟩ (.slice u3 (goneL (fs.take i)).length v3)).setCell ⟨w.heap.size, 3, none⟩ (.int .i64 0)).setCell ⟨w.heap.size, 4, none⟩ (.bool false)).tape = w.tape ∧
            (((((wr.setCell ⟨w.heap.size, 0, none⟩ (.slice u1 (madeL (fs.take i)).length v1)).setCell ⟨w.heap.size, 1, none⟩ (.slice u2 (turnedL (fs.take i)).length v2)).setCell ⟨w.heap.size, 2, none⟩ (.slice u3 (goneL (fs.take i)).length v3)).setCell ⟨w.heap.size, 3, none⟩ (.int .i64 0)).setCell ⟨w.heap.size, 4, none⟩ (.bool false)).output = w.output := ⟨HLS.out.os.trans HRS1.out.bel.os, HLS.out.tape.trans HRS1.out.bel.tape, HLS.out.output.trans HRS1.out.bel.output⟩
        generalize ((((wr.setCell ⟨w.heap.size, 0, none⟩ (.slice u1 (madeL (fs.take i)).length v1)).setCell ⟨w.heap.size, 1, none⟩ (.slice u2 (turnedL (fs.take i)).length v2)).setCell ⟨w.heap.size, 2, none⟩ (.slice u3 (goneL (fs.take i)).length v3)).setCell ⟨w.heap.size, 3, none⟩ (.int .i64 0)).setCell ⟨w.heap.size, 4, none⟩ (.bool false) = X at hX1 hX2 hX3 hXos ⊢
        have hDlt : D < W1.heap.size := (Array.getElem?_eq_some_iff.1 HKD.out).1
        have hDX : X.heap[D]? = some (.deferred (some [])) := (hX2 D (by omega)).trans ((HLS.out.oth D (by omega) (by omega)).trans HKD.out)
        refine ⟨by simp, .inl ⟨_, _, rfl, run_takeDeferred hDX, ?_⟩⟩
        have hg := grownBy_putObj' X D (.deferred none)
        have hY : (X.putObj D (.deferred none)).heap[w.heap.size]? = _ := (hg.block w.heap.size (by rw [hX3]; have := HLS.out.size; omega) (fun e => by have := Option.some.inj e; omega)).trans hX1
        have d0 : (X.putObj D (.deferred none)).cell? ⟨w.heap.size, 0, none⟩ = some (.slice u1 (madeL (fs.take i)).length v1) := by rw [cell_of_row _ _ _ _ _ _ hY]; rfl
        have d1 : (X.putObj D (.deferred none)).cell? ⟨w.heap.size, 1, none⟩ = some (.slice u2 (turnedL (fs.take i)).length v2) := by rw [cell_of_row _ _ _ _ _ _ hY]; rfl
        have d2 : (X.putObj D (.deferred none)).cell? ⟨w.heap.size, 2, none⟩ = some (.slice u3 (goneL (fs.take i)).length v3) := by rw [cell_of_row _ _ _ _ _ _ hY]; rfl
        have d3 : (X.putObj D (.deferred none)).cell? ⟨w.heap.size, 3, none⟩ = some (.int .i64 0) := by rw [cell_of_row _ _ _ _ _ _ hY]; rfl
        have d4 : (X.putObj D (.deferred none)).cell? ⟨w.heap.size, 4, none⟩ = some (.bool false) := by rw [cell_of_row _ _ _ _ _ _ hY]; rfl
        have hkeep : ∀ {u : Value} {n : Nat} {xs : List Value}, QAt (W1.heap.size + 1) 3 1 u n xs wr → QAt w.heap.size 3 1 u n xs (X.putObj D (.deferred none)) := fun hq => by
          refine (hq.keep (fun g hgo hgl => ?_)).mono (by omega)
          have h5 := (hq.block hgo).1
          exact (hg.block g (by rw [hX3]; exact hgl) (fun e => by have := Option.some.inj e; omega)).trans (hX2 g (by omega))
        refine ⟨.agg #[.slice u1 (madeL (fs.take i)).length v1, .slice u2 (turnedL (fs.take i)).length v2, .slice u3 (goneL (fs.take i)).length v3, .int .i64 0, .bool false], ?_, _, rfl, ⟨_, _, _, rfl, ?_, ?_, ?_⟩, ?_⟩
        · simp [results, Try.f24, go_sem, d0, d1, d2, d3, d4]
        · rw [HFS.out]
          have h5 := hkeep HLS.out.q1
          rw [HTA.out] at h5 ⊢
          exact h5
        · rw [HFS.out]
          have h5 := hkeep HLS.out.q2
          rw [HTA.out] at h5 ⊢
          exact h5
        · rw [HFS.out]
          have h5 := hkeep HLS.out.q3
          rw [HTA.out] at h5 ⊢
          exact h5
        · refine ⟨hXos.1, hXos.2.1, hXos.2.2, ?_, fun j hj => ?_⟩
          · exact Nat.le_trans HRS1.out.bel.size (Nat.le_trans HLS.out.size (Nat.le_trans (Nat.le_of_eq hX3.symm) hg.size))
          · exact (hg.block j (by rw [hX3]; have := HLS.out.size; omega) (fun e => by have := Option.some.inj e; omega)).trans ((hX2 j (by omega)).trans ((HLS.out.oth j (by omega) (by omega)).trans (HRS1.out.bel.block j hj)))
end Go.Proofs.Ytojjlbhodiphdaa.Lg
