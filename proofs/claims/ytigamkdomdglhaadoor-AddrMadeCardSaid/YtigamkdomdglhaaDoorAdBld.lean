/-
  The library's Builder in the field of the reader of addresses: what its methods leave. No law in this text. Conditions: what it holds has at most 10^14 bytes.
-/
import Derived.Test.YtigamkdomdglhaaDoorAdMem
namespace Go.Proofs.YtigamkdomdglhaaDoor.Ad
open Go Go.RowKit Go.Joins Kit J7

theorem lies_in : liesAt Tryd.prog Tryd.prog.depth 37 (8 / Tryd.prog.cellsOf 37) 2 35 1 = true := by kernel_rfl
theorem size_bld : (Tryd.prog.info? 35).map (·.size) = some 2 := by kernel_rfl
variable {w0 w : World} {b : Nat} {c0 c1 p v wv c5 c6 tv : Value} {l : List UInt8} {ws : List (List UInt8)} {T : List Ad3}

set_option maxHeartbeats 1000000 in
set_option maxRecDepth 100000 in
theorem check_used (b : Nat) (w : World) (h0 : w.cell? ⟨b, 2, none⟩ = some (.pointer (some ⟨b, 2, none⟩))) :
    Calls Tryd.prog 20 #[.pointer (some ⟨b, 2, none⟩)] w fun e w' => e = .returned (.tuple #[]) ∧ w' = w := by
  obtain ⟨j, hj, _⟩ := Option.map_eq_some_iff.1 size_bld
  go_enter Tryd.func20, Tryd.ntmps20
  go_wp2
  rw [Lib.run_neq_ptr_same w _ Tryd.underlying33 hj]
  go_wp2
  go_end0
  exact ⟨rfl, rfl⟩

set_option maxHeartbeats 1000000 in
set_option maxRecDepth 100000 in
theorem check_fresh (b : Nat) (w : World) (h0 : w.cell? ⟨b, 2, none⟩ = some (.pointer none)) (hsh : w.shape? b = some (37, 8)) (hfz : w.frozen? ⟨b, 2, none⟩ = false) :
    Calls Tryd.prog 20 #[.pointer (some ⟨b, 2, none⟩)] w fun e w' => e = .returned (.tuple #[]) ∧ w' = w.setCell ⟨b, 2, none⟩ (.pointer (some ⟨b, 2, none⟩)) := by
  obtain ⟨j, hj, hjs⟩ := Option.map_eq_some_iff.1 size_bld
  go_enter Tryd.func20, Tryd.ntmps20
  go_wp2
  rw [Lib.run_to_unsafe w ⟨b, 2, none⟩ Tryd.underlying33 Tryd.underlying48 hj (by rw [hjs]; decide) hsh (show 2 < 8 by decide)]
  simp only [Result.andThen]
  rw [Oper.upon_value]
  go_wp2
  rw [run_callFunc_extern Tryd.func27 (by kernel_rfl) (by kernel_rfl) (by kernel_rfl) (e := Extern.AbiNoEscape.same) (by kernel_rfl)]
  rw [Lib.run_noEscape]
  simp only [Result.andThen]
  rw [Oper.upon_value]
  go_wp2
  rw [Lib.run_from_unsafe w ⟨b, 2, none⟩ Tryd.underlying48 Tryd.underlying33 hj hsh lies_in]
  simp only [Result.andThen]
  rw [Oper.upon_value]
  go_wp2
  go_end0
  exact ⟨rfl, rfl⟩
theorem check_any (h : RX w0 b c0 c1 p v wv c5 c6 tv l ws T w) :
    Calls Tryd.prog 20 #[.pointer (some ⟨b, 2, none⟩)] w fun e w' => e = .returned (.tuple #[]) ∧ RX w0 b c0 c1 (.pointer (some ⟨b, 2, none⟩)) v wv c5 c6 tv l ws T w' := by
  rcases h.ptr with rfl | rfl
  · refine (check_fresh b w (h.y.cell 2) h.y.shape (h.y.free 2)).mono ?_
    rintro e w' ⟨rfl, rfl⟩
    exact ⟨rfl, h.self2⟩
  · refine (check_used b w (h.y.cell 2)).mono ?_
    rintro e w' ⟨rfl, rfl⟩
    exact ⟨rfl, h⟩

set_option maxHeartbeats 2000000 in
set_option maxRecDepth 100000 in
theorem wbyte_any (h : RX w0 b c0 c1 p v wv c5 c6 tv l ws T w) (c : UInt8) (hl : l.length ≤ 100000000000000) :
    Calls Tryd.prog 12 #[.pointer (some ⟨b, 2, none⟩), .int .u8 (c.toNat : Int)] w fun e w' => e = .returned .nilIface ∧ ∃ v', RX w0 b c0 c1 (.pointer (some ⟨b, 2, none⟩)) v' wv c5 c6 tv (l ++ [c]) ws T w' := by
  have hc := check_any h
  clear h
  go_enter Tryd.func12, Tryd.ntmps12
  go_wp2_with fail
  refine hc.mono ?_
  rintro e w1 ⟨rfl, h1⟩
  have c3 : w1.cell? ⟨b, 3, none⟩ = some v := h1.y.cell 3
  have hB := h1.ownB
  go_wp2_with (at_builtin; refine app_lit rfl _ _ rfl w0.heap.size w1 v l hB _ [c] 1 1 rfl (by decide) rfl rfl rfl (by omega) ?_)
  intro v' w2 h2 g2
  have f3 : w2.frozen? ⟨b, 3, none⟩ = false := Lib.frozen_of_heap ((g2.block b h1.y.lt h1.vne).trans h1.y.blk) 3
  have d3 : w2.cell? ⟨b, 3, none⟩ = some v := by rw [Lib.cell_of_heap ((g2.block b h1.y.lt h1.vne).trans h1.y.blk)]; rfl
  obtain ⟨a, cap, hv'⟩ := h2.form
  rw [List.length_append, List.length_singleton] at hv'
  have hp := h1.put3 h2 g2 (by simp)
  subst hv'
  clear h2 hB c3
  go_wp2_with fail
  go_ret
  exact ⟨rfl, _, hp⟩

set_option maxHeartbeats 1000000 in
set_option maxRecDepth 100000 in
/-- What the Builder holds, as a text; its row may be frozen then. -/
theorem bstring_any (h : RX w0 b c0 c1 p v wv c5 c6 tv l ws T w) :
    Calls Tryd.prog 21 #[.pointer (some ⟨b, 2, none⟩)] w fun e w' => e = .returned (.string ⟨l.toArray⟩) ∧ RY w0 b c0 c1 p v wv c5 c6 tv ws T w' := by
  have c3 : w.drew.cell? ⟨b, 3, none⟩ = some v := h.y.cell 3
  by_cases hl0 : l = []
  · have hv := h.emp hl0
    subst hl0 hv
    have hy : RY w0 b c0 c1 p (.slice none 0 0) wv c5 c6 tv ws T w.drew := h.y.below (Below.refl _ w).drew
    have hSD : (Builtin.unsafeSliceData_ #[23] 50 #[.slice none 0 0]).run Tryd.prog w.drew = .ok (.pointer none) w.drew := by kernel_rfl
    have hUS : (Builtin.unsafeString_ #[50, 3] 9 #[.pointer none, .int .i64 0]).run Tryd.prog w.drew = .ok (.string ⟨#[]⟩) w.drew := by kernel_rfl
    clear h
    go_enter Tryd.func21, Tryd.ntmps21
    go_wp2_with fail
    go_region
    all_goals
      go_wp2_with fail
      go_ret
      exact ⟨rfl, hy⟩
  · have hn0 : l.length ≠ 0 := by simpa using hl0
    obtain ⟨g, cap, cur, rfl, hg, hnc, hcm, hcs, htake⟩ : ∃ g cap cur, v = .slice (some ⟨g, 0, none⟩) l.length cap ∧ w.heap[g]? = some (.cells cur 5 (0, 0)) ∧ l.length ≤ cap ∧ cap ≤ maxLen ∧ cur.size = cap * 1 ∧ cur.toList.take (l.length * 1) = Lib.byteCells l := by
      rcases h.txt.2 with ⟨_, hz⟩ | ⟨g, cap, cur, hv, _, r⟩
      · exact absurd hz hn0
      · exact ⟨g, cap, cur, hv, r⟩
    have hSD : (Builtin.unsafeSliceData_ #[23] 50 #[.slice (some ⟨g, 0, none⟩) l.length cap]).run Tryd.prog w.drew = .ok (.pointer (some ⟨g, 0, none⟩)) w.drew :=
      Lib.run_unsafeSliceData_row _ _ _ _ _ _ (by omega)
    have hUS : (Builtin.unsafeString_ #[50, 3] 9 #[.pointer (some ⟨g, 0, none⟩), .int .i64 l.length]).run Tryd.prog w.drew = .ok (.string ⟨l.toArray⟩) (w.drew.freeze ⟨g, 0, none⟩ l.length) := by
      refine Lib.run_unsafeString_row w.drew 50 3 9 5 Tryd.underlying50 (by kernel_rfl) g cur.size (by have hg' : w.drew.heap[g]? = some (.cells cur 5 (0, 0)) := hg; simp [World.shape?, hg']) l hl0 (by omega) (by unfold maxLen at hcm; omega) ?_
      intro j x hx
      have := h.txt.cells (g := g) rfl j (.int .u8 x.toNat) (by simp [Lib.byteCells, hx])
      exact this
    have hks : w.grownBy (w.drew.freeze ⟨g, 0, none⟩ l.length) (some g) := by
      have hk : ∀ k, k ≠ g → (w.drew.freeze ⟨g, 0, none⟩ l.length).heap[k]? = w.heap[k]? := fun k hk => by
        unfold World.freeze
        split
        · rfl
        · simp only [Array.getElem?_modify]
          rw [if_neg (Ne.symm hk)]
          rfl
      refine ⟨?_, ?_, ?_, ?_, fun k _ hn => hk k (fun e => hn (congrArg some e))⟩
      · unfold World.freeze; split <;> rfl
      · unfold World.freeze; split <;> rfl
      · unfold World.freeze; split <;> rfl
      · unfold World.freeze
        split
        · exact Nat.le_refl _
        · simp
    have hy := h.y.grown hks (fun k hk => h.apart k hk)
    clear h hg htake hcs hks
    go_enter Tryd.func21, Tryd.ntmps21
    go_wp2_with fail
    go_region
    all_goals
      go_wp2_with fail
      go_ret
      exact ⟨rfl, hy⟩

set_option maxHeartbeats 1000000 in
set_option maxRecDepth 100000 in
theorem reset_any (h : RY w0 b c0 c1 p v wv c5 c6 tv ws T w) :
    Calls Tryd.prog 22 #[.pointer (some ⟨b, 2, none⟩)] w fun e w' => e = .returned (.tuple #[]) ∧ RX w0 b c0 c1 (.pointer none) (.slice none 0 0) wv c5 c6 tv [] ws T w' := by
  have f2 := h.free 2
  have f3 := (h.set2 (.pointer none)).free 3
  have c2 : w.cell? ⟨b, 2, none⟩ = some p := h.cell 2
  have c3 : (w.setCell ⟨b, 2, none⟩ (.pointer none)).cell? ⟨b, 3, none⟩ = some v := (h.set2 (.pointer none)).cell 3
  have hr := h.reset
  clear h
  go_enter Tryd.func22, Tryd.ntmps22
  go_wp2_with fail
  go_end0
  exact ⟨rfl, hr⟩
end Go.Proofs.YtigamkdomdglhaaDoor.Ad
