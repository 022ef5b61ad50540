/-
  log.All, log.Copy and slices.Clone of entries; the reference's Entries: are two lists one? Conditions: at most 1000000 entries.
-/
import Derived.Test.YtojjlbhodiphdaaLgLog
import Derived.Deep.Upon
import Derived.Laws.StructEq
namespace Go.Proofs.Ytojjlbhodiphdaa.Lg
open Go Go.RowKit Go.Joins

theorem wpList_append_run {P : Program} {w w' : World} {ops : Array Oper} {rest : List Oper} {o : Oper} {a : Act} {Q : Exit → Act → World → Prop} (hgd : o.guard = none) (sl x : Operand) (t : TypeId)
    (ho : o.op = .call { callee := .builtin .append, args := #[sl, x], argTypes := #[t, t] }) (v xv r : Value) (hs : a.eval sl = v) (hx : a.eval x = xv) (hr : (Builtin.append_ #[t, t] o.type #[v, xv]).run P w = .ok r w')
    (k : wpList P ops Q rest (a.put o.dst r) w') : wpList P ops Q (o :: rest) a w :=
  wpList_plain hgd fun _ hK => by
    unfold Oper.wp execOp
    simp only [ho, resolve, invoke, builtin, Sem.run_bind, Sem.run_pure, Result.andThen_ok, List.map_toArray, List.map_cons, List.map_nil, hs, hx, hr]
    exact hK _ _ k
set_option maxHeartbeats 2000000 in
set_option maxRecDepth 100000 in
theorem clone_any (B : Nat) (v : Value) (k : List En) (w : World) (hq : QAt B 54 4 v k.length (esC k) w) (hk : k.length ≤ 1000000) :
    Calls Try.prog 22 #[v] w fun e w' => ∃ u, e = .returned u ∧ QAt w.heap.size 54 4 u k.length (esC k) w' ∧ Below w.heap.size w w' := by
  obtain ⟨i0, hi0, hz0, hz1, hz2⟩ := info_parts infoE
  rcases hq.2 with ⟨rfl, h0⟩ | ⟨g, o, cap, cur, rfl, hb, hh, hs, hc, hm, hx⟩
  · have he : ∀ W : World, (binOp .eql 31 (.slice none 0 0) (.slice none 0 0)).run Try.prog W = .ok (.bool true) W := fun _ => rfl
    go_enter Try.func22, Try.ntmps22
    go_wp2
    go_ret
    obtain rfl : k = [] := List.eq_nil_of_length_eq_zero h0
    exact ⟨_, rfl, QAt.nil _ _ _ _, Below.refl _ _⟩
  · have he : ∀ (n : Nat) (W : World), (binOp .eql 31 (.slice (some ⟨g, o, none⟩) n cap) (.slice none 0 0)).run Try.prog W = .ok (.bool false) W := fun _ _ => rfl
    have hm0 : QAt w.heap.size 54 4 (.slice (some ⟨w.heap.size, 0, none⟩) 0 0) 0 [] (w.alloc (.cells #[] 54)) := QAt.of_row (World.ownsRow_made w #[] 0 (Nat.le_refl _) (by unfold maxLen; omega) (by simp))
    have hbA : Below w.heap.size w (w.alloc (.cells #[] 54)) := (Below.refl _ w).alloc (Nat.le_refl _) _
    rcases Nat.eq_zero_or_pos k.length with h0 | h0
    · obtain rfl : k = [] := List.eq_nil_of_length_eq_zero h0
      have hrun : (Builtin.append_ #[31, 31] 31 #[.slice (some ⟨w.heap.size, 0, none⟩) 0 0, .slice (some ⟨g, o, none⟩) 0 cap]).run Try.prog (w.alloc (.cells #[] 54)) = .ok (.slice (some ⟨w.heap.size, 0, none⟩) 0 0) (w.alloc (.cells #[] 54)) :=
        run_append_nothing _ _ _ _ 54 i0 Try.underlying31 hi0 _ 0 0 (Nat.le_refl _) _ ⟨Or.inl ⟨_, Try.underlying31⟩, fun _ => rfl, by simp [Builtin.firstCells, loadCells, loadCellsFrom], by simp [Builtin.firstCells, loadCells, loadCellsFrom], by simp, fun u hu => by cases hu⟩
      go_enter Try.func22, Try.ntmps22
      go_wp2_with (at_builtin; refine wpList_append_run rfl _ _ 31 rfl _ _ _ rfl rfl hrun ?_)
      go_ret
      exact ⟨_, rfl, hm0, hbA⟩
    · have hcells : ∀ j u, (esC k)[j]? = some u → (w.alloc (.cells #[] 54)).cell? ((⟨g, o, none⟩ : Addr).add j) = some u := fun j u hu => by
        have hj : j < (esC k).length := (List.getElem?_eq_some_iff.1 hu).1
        rw [esC_length] at hj
        rw [show (⟨g, o, none⟩ : Addr).add j = ⟨g, o + j, none⟩ by rw [Addr.add_lit]]
        have h1 : w.cell? ⟨g, o + j, none⟩ = some u := by rw [cell_of_row w g _ cur _ (0, 0) hh, hx j hj]; exact hu
        exact (hbA.cell (p := ⟨g, o + j, none⟩) (World.block_lt_of_cell? w _ h1)).trans h1
      have hone : ∀ u ∈ esC k, u.oneCell' = true := by
        clear hcells hx hs hc hq hk h0
        induction k with
        | nil => intro u hu; cases hu
        | cons e r ih =>
          intro u hu
          rw [esC] at hu
          rcases List.mem_append.1 hu with h | h
          · unfold eC at h
            simp only [List.mem_cons, List.not_mem_nil, or_false] at h
            rcases h with rfl | rfl | rfl | rfl <;> rfl
          · exact ih u h
      obtain ⟨g5, q5, cap5, w5, hrun, hq5, hg5, hat5⟩ := run_append_q (P := Try.prog) 31 31 i0 _ 32 Try.underlying31 hi0 hz0 hz1 hz2 rfl (by decide) hm0 ⟨g, o, none⟩ k.length cap (esC k) h0 (esC_length k) hcells hone (by unfold maxLen; omega) (by omega) (by simp)
      have hb5 : Below w.heap.size w w5 := hbA.grown hg5 (by simp) (fun j e => by cases e; exact Nat.le_refl _)
      have HQ5 := Lib.hid hq5
      clear hq5 hg5 hat5 hcells hone hx
      go_enter Try.func22, Try.ntmps22
      go_wp2_with (at_builtin; refine wpList_append_run rfl _ _ 31 rfl _ _ _ rfl rfl hrun ?_)
      go_ret
      refine ⟨_, rfl, ?_, hb5⟩
      have := HQ5.out
      rw [Nat.zero_add] at this
      exact this

set_option maxHeartbeats 1000000 in
theorem all_any (B lb : Nat) (v : Value) (most fl : Int) (k : List En) (w : World) (hL : LogAt B lb v most fl k w) (hk : k.length ≤ 1000000) :
    Calls Try.prog 14 #[.pointer (some ⟨lb, 0, none⟩)] w fun e w' => ∃ u, e = .returned u ∧ QAt w.heap.size 54 4 u k.length (esC k) w' ∧ Below w.heap.size w w' := by
  obtain ⟨_, _, c2, _⟩ := hL.cells
  have HC := Lib.hid (clone_any B v k w hL.2.2 hk)
  obtain ⟨va, vc, rfl⟩ := hL.2.2.form
  clear hL
  go_enter Try.func14, Try.ntmps14
  go_wp2_with fail
  refine HC.out.mono ?_
  rintro e w' ⟨u, rfl, hq, hb⟩
  obtain ⟨ua, uc, rfl⟩ := hq.form
  go_wp2_with fail
  go_ret
  exact ⟨_, rfl, hq, hb⟩

/-! ### The reference's Entries -/
theorem en_eq (a b : En) : (a = b) ↔ (a.mod = b.mod ∧ a.kind = b.kind ∧ a.id = b.id ∧ a.how = b.how) := by
  cases a
  cases b
  simp
theorem neq_run (x y : En) (h : ¬ x = y) (w : World) : (binOp .neq 54 (.agg #[.int .i64 x.mod, .int .i64 x.kind, .int .i64 x.id, .int .i64 x.how]) (.agg #[.int .i64 y.mod, .int .i64 y.kind, .int .i64 y.id, .int .i64 y.how])).run Try.prog w = .ok (.bool true) w := by
  have h2 := (not_congr (en_eq x y)).1 h
  have hp : Try.prog.stoodInHeld 54 = false := by kernel_rfl
  have hf : (Try.prog.fieldsOf 54).toList.map (fun f => (f.offset, f.type)) = [(0, 3), (1, 3), (2, 3), (3, 3)] := by kernel_rfl
  rw [run_neq_struct, run_equalIn_agg w 9999 54 _ _ Try.underlying54 hp]
  go_simp
  exact fun a b c d => h2 ⟨a, b, c, d⟩
set_option maxHeartbeats 2000000 in
set_option maxRecDepth 100000 in
theorem entries_any (u v : Value) (a b : List En) (w : World) (ha : SAt w u 4 a.length (esC a)) (hb : SAt w v 4 b.length (esC b)) (hl : a.length ≤ 1000000) :
    Calls Try.prog 13 #[u, v] w fun e w' => e = .returned (.bool (decide (a = b))) ∧ Below w.heap.size w w' := by
  obtain ⟨ua, uc, rfl⟩ := ha.form
  obtain ⟨va, vc, rfl⟩ := hb.form
  have HA := Lib.hid ha
  have HB := Lib.hid hb
  clear ha hb
  by_cases hlen : a.length = b.length
  · have HL := Lib.hid hlen
    go_enter Try.func13, Try.ntmps13
    rw [← hlen]
    rw [← hlen] at HB
    clear hlen
    go_wp2_with fail
    go_loopg [5] a.length (fun m iv wr => ∃ i : Nat, m = a.length - i ∧ iv = .int .i64 (i : Int) ∧ i ≤ a.length ∧ Below w.heap.size w wr ∧ Hid (a.take i = b.take i))
    case atStart => exact ⟨0, rfl, rfl, Nat.zero_le _, Below.refl _ _, Lib.hid rfl⟩
    case round =>
      obtain ⟨i, rfl, rfl, hi, hbe, hT⟩ := hrel
      by_cases hlt : i < a.length
      · have g1 : (i : Int) < (a.length : Int) := by omega
        have g0 : (0 : Int) ≤ (i : Int) := by omega
        have hib : i < b.length := by rw [← HL.out]; exact hlt
        obtain ⟨ga, oa, ca, hva, p0, p1, p2, p3⟩ := sat_en (HA.out.below (esC_length a) hbe) i hlt
        have hB2 := HB.out
        rw [HL.out] at hB2
        obtain ⟨gb, ob, cb, hvb, q0, q1, q2, q3⟩ := sat_en (hB2.below (esC_length b) hbe) i hib
        rw [← HL.out] at hvb
        injection hva with hva1 hva2 hva3
        injection hvb with hvb1 hvb2 hvb3
        subst hva1 hvb1
        obtain ⟨x, hx⟩ : ∃ x, a[i] = x := ⟨_, rfl⟩
        obtain ⟨y, hy⟩ : ∃ y, b[i] = y := ⟨_, rfl⟩
        rw [hx] at p0 p1 p2 p3
        rw [hy] at q0 q1 q2 q3
        have HTA : Hid (a.take (i + 1) = a.take i ++ [x]) := Lib.hid (by rw [List.take_succ_eq_append_getElem hlt, hx])
        have HTB : Hid (b.take (i + 1) = b.take i ++ [y]) := Lib.hid (by rw [List.take_succ_eq_append_getElem hib, hy])
        have HBE := Lib.hid hbe
        have HXY : Hid (x ≠ y → ¬ a = b) := Lib.hid (fun hne e => hne (by subst e; rw [← hx, ← hy]))
        clear hva2 hva3 hvb2 hvb3 hx hy hib hbe hB2
        by_cases hxy : x = y
        · subst hxy
          go_wp2_with fail
          go_quiet (fail)
          go_wp2_with fail
          go_roundg (a.length - (i + 1))
          case measure => omega
          case rel => exact ⟨i + 1, rfl, by go_num, by omega, below_drewN HBE.out _, Lib.hid (by rw [HTA.out, HTB.out, hT.out])⟩
        · have hne := neq_run x y hxy
          have HN := Lib.hid (HXY.out hxy)
          go_wp2_with fail
          go_quiet (fail)
          go_wp2_with fail
          go_ret
          exact ⟨by rw [decide_eq_false HN.out]; rfl, below_drewN HBE.out _⟩
      · have g1 : ¬ (i : Int) < (a.length : Int) := by omega
        have HE : Hid (a = b) := Lib.hid (by
          have := hT.out
          rwa [List.take_of_length_le (by omega), List.take_of_length_le (by have := HL.out; omega)] at this)
        go_wp2_with fail
        go_ret
        exact ⟨by rw [decide_eq_true HE.out]; rfl, hbe⟩
  · have HN : Hid (¬ a = b) := Lib.hid (fun e => hlen (by rw [e]))
    have hlen' : ¬ (a.length : Int) = (b.length : Int) := by omega
    go_enter Try.func13, Try.ntmps13
    go_wp2
    go_ret
    exact ⟨by rw [decide_eq_false HN.out]; rfl, Below.refl _ _⟩
end Go.Proofs.Ytojjlbhodiphdaa.Lg
