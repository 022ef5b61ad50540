/-
  The program's reader of addresses: each byte, the end, a whole text: List returns the document's addresses as they stand in AdPlain. No law in this text. Conditions: the text has at most 10^7 bytes; the bound of the library's search is some number.
-/
import Derived.Test.YtigamkdomdglhaaDoorAdTold
namespace Go.Proofs.YtigamkdomdglhaaDoor.Ad
open Go Go.RowKit Go.Joins Kit J7
variable {w0 w : World} {b : Nat}

theorem RM.clear {s : St} (h : RM w0 b s w) : RM w0 b (clearS s) (((w.setCell ⟨b, 4, none⟩ (.slice none 0 0)).setCell ⟨b, 5, none⟩ (.string ⟨#[]⟩)).setCell ⟨b, 6, none⟩ (.bool false)) := by
  obtain ⟨_, _, _, _, h⟩ := h
  exact ⟨_, _, _, _, (h.clear4.set5 (.string ⟨#[]⟩)).set6 (.bool false)⟩
theorem RM.cells {s : St} (h : RM w0 b s w) : ∃ wv, w.cell? ⟨b, 4, none⟩ = some wv ∧ (w.setCell ⟨b, 4, none⟩ (.slice none 0 0)).cell? ⟨b, 5, none⟩ = some (.string ⟨s.angle.toArray⟩) ∧
    ((w.setCell ⟨b, 4, none⟩ (.slice none 0 0)).setCell ⟨b, 5, none⟩ (.string ⟨#[]⟩)).cell? ⟨b, 6, none⟩ = some (.bool s.angled) ∧ w.frozen? ⟨b, 4, none⟩ = false ∧ (w.setCell ⟨b, 4, none⟩ (.slice none 0 0)).frozen? ⟨b, 5, none⟩ = false ∧
    ((w.setCell ⟨b, 4, none⟩ (.slice none 0 0)).setCell ⟨b, 5, none⟩ (.string ⟨#[]⟩)).frozen? ⟨b, 6, none⟩ = false := by
  obtain ⟨_, _, wv, _, h⟩ := h
  exact ⟨wv, h.y.cell 4, h.clear4.y.cell 5, (h.clear4.set5 (.string ⟨#[]⟩)).y.cell 6, h.y.free 4, h.clear4.y.free 5, (h.clear4.set5 (.string ⟨#[]⟩)).y.free 6⟩

set_option maxHeartbeats 2000000 in
set_option maxRecDepth 100000 in
theorem begin_any {s : St} (h : RM w0 b s w) (hE : Srch.Env w0) {n : Nat} (hb : Bd n s) (hn : n ≤ 1000000000) (c : UInt8) :
    Calls Tryd.prog 14 #[.pointer (some ⟨b, 0, none⟩), .int .u8 (c.toNat : Int)] w fun e w' => e = .returned (.tuple #[]) ∧ RM w0 b (beginS s c) w' := by
  have HE := Lib.hid hE
  have HB := Lib.hid hb
  have HN := Lib.hid hn
  clear hE hb hn
  have q0 := h.c0
  have q1 := h.c1
  have f0 := h.free 0
  have HR := Lib.hid h
  clear h
  by_cases h34 : c = 34
  · have hr : beginS s c = { s with st := 2 } := by unfold beginS; rw [if_pos h34]
    rw [hr]
    have g34 := eqt h34 34 rfl
    have hn := HR.out.to 2
    clear hr h34
    go_enter Tryd.func14, Tryd.ntmps14
    go_wp2_with fail
    go_end0
    exact ⟨rfl, hn⟩
  have g34 := eqf h34 34 rfl
  by_cases h60 : c = 60
  · have hr : beginS s c = { s with st := 4 } := by unfold beginS; rw [if_neg h34, if_pos h60]
    rw [hr]
    have g60 := eqt h60 60 rfl
    have hn := HR.out.to 4
    clear hr h34 h60
    go_enter Tryd.func14, Tryd.ntmps14
    go_wp2_with fail
    go_end0
    exact ⟨rfl, hn⟩
  have g60 := eqf h60 60 rfl
  by_cases h40 : c = 40
  · have hr : beginS s c = { s with st := 5, rem := 1 } := by unfold beginS; rw [if_neg h34, if_neg h60, if_pos h40]
    rw [hr]
    have g40 := eqt h40 40 rfl
    have h5 := HR.out.to 5
    have e1 : (w.setCell ⟨b, 0, none⟩ (.int .i64 5)).cell? ⟨b, 1, none⟩ = some (.int .i64 s.rem) := h5.c1
    have e2 : (w.setCell ⟨b, 0, none⟩ (.int .i64 5)).frozen? ⟨b, 1, none⟩ = false := h5.free 1
    have hn := h5.rm 1
    clear h5 hr h34 h60 h40
    go_enter Tryd.func14, Tryd.ntmps14
    go_wp2_with fail
    go_end0
    exact ⟨rfl, hn⟩
  have g40 := eqf h40 40 rfl
  by_cases h44 : c = 44
  · have hr : beginS s c = clearS (tellS s) := by unfold beginS; rw [if_neg h34, if_neg h60, if_neg h40, if_pos (Or.inl h44)]
    rw [hr]
    have g44 := eqt h44 44 rfl
    clear hr h34 h60 h40 h44
    go_enter Tryd.func14, Tryd.ntmps14
    go_wp2_with fail
    refine (tell_any HR.out HE.out (by have := HB.out.wt; have := HN.out; omega) (by have := HB.out.angle; have := HN.out; omega) (by have := HB.out.told; have := HN.out; omega)).mono ?_
    rintro e w1 ⟨rfl, h1⟩
    obtain ⟨wv, p4, p5, p6, r4, r5, r6⟩ := h1.cells
    have hn := h1.clear
    clear h1
    go_wp2_with fail
    go_end0
    exact ⟨rfl, hn⟩
  have g44 := eqf h44 44 rfl
  by_cases h59 : c = 59
  · have hr : beginS s c = clearS (tellS s) := by unfold beginS; rw [if_neg h34, if_neg h60, if_neg h40, if_pos (Or.inr h59)]
    rw [hr]
    have g59 := eqt h59 59 rfl
    clear hr h34 h60 h40 h44 h59
    go_enter Tryd.func14, Tryd.ntmps14
    go_wp2_with fail
    refine (tell_any HR.out HE.out (by have := HB.out.wt; have := HN.out; omega) (by have := HB.out.angle; have := HN.out; omega) (by have := HB.out.told; have := HN.out; omega)).mono ?_
    rintro e w1 ⟨rfl, h1⟩
    obtain ⟨wv, p4, p5, p6, r4, r5, r6⟩ := h1.cells
    have hn := h1.clear
    clear h1
    go_wp2_with fail
    go_end0
    exact ⟨rfl, hn⟩
  have g59 := eqf h59 59 rfl
  by_cases h58 : c = 58
  · have hr : beginS s c = clearS s := by unfold beginS; rw [if_neg h34, if_neg h60, if_neg h40, if_neg (by simp [h44, h59]), if_pos h58]
    rw [hr]
    have g58 := eqt h58 58 rfl
    obtain ⟨wv, p4, p5, p6, r4, r5, r6⟩ := HR.out.cells
    have hn := HR.out.clear
    clear hr h34 h60 h40 h44 h59 h58
    go_enter Tryd.func14, Tryd.ntmps14
    go_wp2_with fail
    go_end0
    exact ⟨rfl, hn⟩
  have g58 := eqf h58 58 rfl
  by_cases h32 : c = 32
  · have hr : beginS s c = s := by unfold beginS; rw [if_neg h34, if_neg h60, if_neg h40, if_neg (by simp [h44, h59]), if_neg h58, if_pos (by simp [h32])]
    rw [hr]
    have g32 := eqt h32 32 rfl
    clear hr h34 h60 h40 h44 h59 h58 h32
    go_enter Tryd.func14, Tryd.ntmps14
    go_wp2_with fail
    go_end0
    exact ⟨rfl, HR.out⟩
  have g32 := eqf h32 32 rfl
  by_cases h9 : c = 9
  · have hr : beginS s c = s := by unfold beginS; rw [if_neg h34, if_neg h60, if_neg h40, if_neg (by simp [h44, h59]), if_neg h58, if_pos (by simp [h9])]
    rw [hr]
    have g9 := eqt h9 9 rfl
    clear hr h34 h60 h40 h44 h59 h58 h32 h9
    go_enter Tryd.func14, Tryd.ntmps14
    go_wp2_with fail
    go_end0
    exact ⟨rfl, HR.out⟩
  have g9 := eqf h9 9 rfl
  by_cases h13 : c = 13
  · have hr : beginS s c = s := by unfold beginS; rw [if_neg h34, if_neg h60, if_neg h40, if_neg (by simp [h44, h59]), if_neg h58, if_pos (by simp [h13])]
    rw [hr]
    have g13 := eqt h13 13 rfl
    clear hr h34 h60 h40 h44 h59 h58 h32 h9 h13
    go_enter Tryd.func14, Tryd.ntmps14
    go_wp2_with fail
    go_end0
    exact ⟨rfl, HR.out⟩
  have g13 := eqf h13 13 rfl
  by_cases h10 : c = 10
  · have hr : beginS s c = s := by unfold beginS; rw [if_neg h34, if_neg h60, if_neg h40, if_neg (by simp [h44, h59]), if_neg h58, if_pos (by simp [h10])]
    rw [hr]
    have g10 := eqt h10 10 rfl
    clear hr h34 h60 h40 h44 h59 h58 h32 h9 h13 h10
    go_enter Tryd.func14, Tryd.ntmps14
    go_wp2_with fail
    go_end0
    exact ⟨rfl, HR.out⟩
  have g10 := eqf h10 10 rfl
  have hr : beginS s c = { s with txt := s.txt ++ [c], st := 1 } := by unfold beginS; rw [if_neg h34, if_neg h60, if_neg h40, if_neg (by simp [h44, h59]), if_neg h58, if_neg (by simp [h32, h9, h13, h10])]
  rw [hr]
  clear hr h34 h60 h40 h44 h59 h58 h32 h9 h13 h10
  go_enter Tryd.func14, Tryd.ntmps14
  go_wp2_with fail
  refine (put_any HR.out c (by have := HB.out.wt; have := HN.out; omega)).mono ?_
  rintro e w1 ⟨rfl, h1⟩
  have p0 := h1.c0
  have r0 := h1.free 0
  have hn := h1.to 1
  clear h1
  go_wp2_with fail
  go_end0
  exact ⟨rfl, hn⟩

/-! ### A byte -/
theorem ends_idx (c : UInt8) : (endsB c = true ∧ 0 ≤ Lib.indexByte [34, 40, 60, 58, 44, 59, 32, 9, 13, 10] c) ∨ (endsB c = false ∧ Lib.indexByte [34, 40, 60, 58, 44, 59, 32, 9, 13, 10] c < 0) := by
  rcases Srch.idx_cases c [34, 40, 60, 58, 44, 59, 32, 9, 13, 10] with ⟨h1, h2⟩ | ⟨a, r, h1, _, h3⟩
  · refine Or.inr ⟨?_, by omega⟩
    unfold endsB
    simp only [List.mem_cons, List.not_mem_nil, or_false, forall_eq_or_imp, forall_eq] at h2
    obtain ⟨a1, a2, a3, a4, a5, a6, a7, a8, a9, a10⟩ := h2
    simp [Ne.symm a1, Ne.symm a2, Ne.symm a3, Ne.symm a4, Ne.symm a5, Ne.symm a6, Ne.symm a7, Ne.symm a8, Ne.symm a9, Ne.symm a10]
  · refine Or.inl ⟨?_, by omega⟩
    have hm : c ∈ ([34, 40, 60, 58, 44, 59, 32, 9, 13, 10] : List UInt8) := by rw [h1]; simp
    simp only [List.mem_cons, List.not_mem_nil, or_false] at hm
    unfold endsB
    rcases hm with rfl | rfl | rfl | rfl | rfl | rfl | rfl | rfl | rfl | rfl <;> rfl
theorem index_any (c : UInt8) (w : World) : Calls Tryd.prog 11 #[.string ⟨#[34, 40, 60, 58, 44, 59, 32, 9, 13, 10]⟩, .int .u8 (c.toNat : Int)] w fun e w' => (∃ i : Int, e = .returned (.int .i64 i) ∧ (endsB c = true ∧ 0 ≤ i ∨ endsB c = false ∧ i < 0)) ∧ w' = w := by
  refine (Tryd.strings_IndexByte _ _ w).mono ?_
  rintro e w' ⟨rfl, rfl⟩
  refine ⟨⟨_, rfl, ?_⟩, rfl⟩
  have hc : ((c.toNat : Int)).toNat.toUInt8 = c := by simp
  rw [hc]
  exact ends_idx c

set_option maxHeartbeats 2000000 in
set_option maxRecDepth 100000 in
theorem take_any {s : St} (h : RM w0 b s w) (hE : Srch.Env w0) {n : Nat} (hb : Bd n s) (hn : n ≤ 100000000) (c : UInt8) :
    Calls Tryd.prog 9 #[.pointer (some ⟨b, 0, none⟩), .int .u8 (c.toNat : Int)] w fun e w' => e = .returned (.tuple #[]) ∧ RM w0 b (stepS s c) w' := by
  have h6 := hb.st
  have HE := Lib.hid hE
  have HB := Lib.hid hb
  have HN := Lib.hid hn
  clear hE hb hn
  have f0 := h.free 0
  have HR := Lib.hid h
  have hq := h.c0
  clear h
  have hst : s.st = 1 ∨ s.st = 0 ∨ s.st = 2 ∨ s.st = 3 ∨ s.st = 4 ∨ s.st = 5 ∨ s.st = 6 := by omega
  clear h6
  rcases hst with h1 | h1 | h1 | h1 | h1 | h1 | h1
  · have q0 : w.cell? ⟨b, 0, none⟩ = some (.int .i64 1) := by rw [hq, h1]; rfl
    have hs : stepS s c = if endsB c = true then beginS (endWordS s) c else { s with txt := s.txt ++ [c] } := by unfold stepS; rw [if_pos h1]
    rw [hs]
    clear hs hq h1
    by_cases he : endsB c = true
    · rw [if_pos he]
      have H0 := Lib.hid he
      clear he
      go_enter Tryd.func9, Tryd.ntmps9
      go_wp2_with fail
      refine (index_any c w).mono ?_
      rintro e w1 ⟨⟨i, rfl, hi⟩, rfl⟩
      have g1 : ¬ i < 0 := by rcases hi with ⟨_, hi⟩ | ⟨he, _⟩; omega; exact absurd (H0.out.symm.trans he) (by decide)
      clear hi
      go_wp2_with fail
      refine (endWord_any HR.out (by have := lens_le s.words; have := HB.out.wt; have := HN.out; omega)).mono ?_
      rintro e w2 ⟨rfl, h2⟩
      have H2 := Lib.hid h2
      clear h2 q0
      go_wp2_with fail
      refine (begin_any H2.out HE.out HB.out.endWord (by have := HN.out; omega) c).mono ?_
      rintro e w3 ⟨rfl, h3⟩
      go_wp2_with fail
      go_end0
      exact ⟨rfl, h3⟩
    · rw [if_neg he]
      have H0 := Lib.hid he
      clear he
      go_enter Tryd.func9, Tryd.ntmps9
      go_wp2_with fail
      refine (index_any c w).mono ?_
      rintro e w1 ⟨⟨i, rfl, hi⟩, rfl⟩
      have g1 : i < 0 := by rcases hi with ⟨he, _⟩ | ⟨_, hi⟩; exact absurd he H0.out; omega
      clear hi
      go_wp2_with fail
      refine (put_any HR.out c (by have := HB.out.wt; have := HN.out; omega)).mono ?_
      rintro e w2 ⟨rfl, h2⟩
      go_wp2_with fail
      refine bodyPost_ret (results_none rfl _ _ _) rfl ?_
      exact ⟨rfl, h2⟩
  · have q0 : w.cell? ⟨b, 0, none⟩ = some (.int .i64 0) := by rw [hq, h1]; rfl
    have hs : stepS s c = beginS s c := by unfold stepS; rw [h1]; rfl
    rw [hs]
    clear hs hq h1
    go_enter Tryd.func9, Tryd.ntmps9
    go_wp2_with fail
    refine (begin_any HR.out HE.out HB.out (by have := HN.out; omega) c).mono ?_
    rintro e w3 ⟨rfl, h3⟩
    go_wp2_with fail
    go_end0
    exact ⟨rfl, h3⟩
  · have q0 : w.cell? ⟨b, 0, none⟩ = some (.int .i64 2) := by rw [hq, h1]; rfl
    have hs : stepS s c = if c = 34 then endWordS s else if c = 92 then { s with st := 3 } else { s with txt := s.txt ++ [c], st := 2 } := by unfold stepS; rw [h1]; rfl
    rw [hs]
    clear hs hq h1
    by_cases h34 : c = 34
    · rw [if_pos h34]
      have g34 := eqt h34 34 rfl
      clear h34
      go_enter Tryd.func9, Tryd.ntmps9
      go_wp2_with fail
      refine (endWord_any HR.out (by have := lens_le s.words; have := HB.out.wt; have := HN.out; omega)).mono ?_
      rintro e w2 ⟨rfl, h2⟩
      go_wp2_with fail
      refine bodyPost_ret (results_none rfl _ _ _) rfl ?_
      exact ⟨rfl, h2⟩
    rw [if_neg h34]
    have g34 := eqf h34 34 rfl
    by_cases h92 : c = 92
    · rw [if_pos h92]
      have g92 := eqt h92 92 rfl
      have hn := HR.out.to 3
      clear h34 h92
      go_enter Tryd.func9, Tryd.ntmps9
      go_wp2_with fail
      refine bodyPost_ret (results_none rfl _ _ _) rfl ?_
      exact ⟨rfl, hn⟩
    rw [if_neg h92]
    have g92 := eqf h92 92 rfl
    clear h34 h92
    go_enter Tryd.func9, Tryd.ntmps9
    go_wp2_with fail
    refine (put_any HR.out c (by have := HB.out.wt; have := HN.out; omega)).mono ?_
    rintro e w1 ⟨rfl, h1⟩
    have p0 := h1.c0
    have r0 := h1.free 0
    have hn := h1.to 2
    clear h1 q0 f0
    go_wp2_with fail
    go_end0
    exact ⟨rfl, hn⟩
  · have q0 : w.cell? ⟨b, 0, none⟩ = some (.int .i64 3) := by rw [hq, h1]; rfl
    have hs : stepS s c = { s with txt := s.txt ++ [c], st := 2 } := by unfold stepS; rw [h1]; rfl
    rw [hs]
    clear hs hq h1
    go_enter Tryd.func9, Tryd.ntmps9
    go_wp2_with fail
    refine (put_any HR.out c (by have := HB.out.wt; have := HN.out; omega)).mono ?_
    rintro e w1 ⟨rfl, h1⟩
    have p0 := h1.c0
    have r0 := h1.free 0
    have hn := h1.to 2
    clear h1 q0 f0
    go_wp2_with fail
    go_end0
    exact ⟨rfl, hn⟩
  · have q0 : w.cell? ⟨b, 0, none⟩ = some (.int .i64 4) := by rw [hq, h1]; rfl
    have hs : stepS s c = angleS s c := by unfold stepS; rw [h1]; rfl
    rw [hs]
    clear hs hq h1
    go_enter Tryd.func9, Tryd.ntmps9
    go_wp2_with fail
    refine (takeAngle_any HR.out c (by have := HB.out.wt; have := HN.out; omega)).mono ?_
    rintro e w3 ⟨rfl, h3⟩
    go_wp2_with fail
    go_end0
    exact ⟨rfl, h3⟩
  · have q0 : w.cell? ⟨b, 0, none⟩ = some (.int .i64 5) := by rw [hq, h1]; rfl
    have hs : stepS s c = remarkS s c := by unfold stepS; rw [h1]; rfl
    rw [hs]
    clear hs hq h1
    go_enter Tryd.func9, Tryd.ntmps9
    go_wp2_with fail
    refine (takeRemark_any HR.out c (by have := HB.out.lo; have := HN.out; omega) (by have := HB.out.hi; have := HN.out; omega)).mono ?_
    rintro e w3 ⟨rfl, h3⟩
    go_wp2_with fail
    go_end0
    exact ⟨rfl, h3⟩
  · have q0 : w.cell? ⟨b, 0, none⟩ = some (.int .i64 6) := by rw [hq, h1]; rfl
    have hs : stepS s c = { s with st := 5 } := by unfold stepS; rw [h1]; rfl
    rw [hs]
    clear hs hq h1
    have hn := HR.out.to 5
    go_enter Tryd.func9, Tryd.ntmps9
    go_wp2_with fail
    go_end0
    exact ⟨rfl, hn⟩
end Go.Proofs.YtigamkdomdglhaaDoor.Ad
