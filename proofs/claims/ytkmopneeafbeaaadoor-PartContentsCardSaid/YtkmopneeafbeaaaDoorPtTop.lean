/-
  The program's Tree: the parts of a message, where read is right; the laws' awake, where Tree is. Conditions: the text has at most 32768 bytes; the bound of the library's search is some number.
-/
import Derived.Test.YtkmopneeafbeaaaDoorPtIv
import Derived.Test.YtkmopneeafbeaaaDoorEnv
namespace Go.Proofs.YtkmopneeafbeaaaDoor.Pt
open Go Go.RowKit Go.Joins Kit F0

/-- What read answers, asked of Tree's closure. -/
def ReadTop (s : ByteArray) (w0 : World) : Prop := ∀ (b C : Nat) (w : World), b ≤ s.size → Boxed w C 3 (.int .i64 ((1 : Nat) : Int)) → w0.heap.size ≤ C → C < w.heap.size → Below w0.heap.size w0 w →
  Calls Tryd.prog 26 #[.string s, .int .i64 ((0 : Nat) : Int), .int .i64 (b : Int), .int .i64 (6 - ((6 : Nat) : Int)), anoV C] w fun e w' =>
    ∃ c0 c1 c2 c3 c4 c5 c6 c7, e = .returned (.agg #[c0, c1, c2, c3, c4, c5, c6, c7]) ∧ PartAt (fun g => w.heap.size ≤ g) w' (readL s.data.toList 6 0 b 1).1 (.agg #[c0, c1, c2, c3, c4, c5, c6, c7]) ∧ Step C w w'

set_option maxHeartbeats 4000000 in
set_option maxRecDepth 100000 in
theorem tree_of (s : ByteArray) (w : World) (hR : ReadTop s w) :
    Calls Tryd.prog 14 #[.string s] w fun e w' => ∃ c0 c1 c2 c3 c4 c5 c6 c7, e = .returned (.agg #[c0, c1, c2, c3, c4, c5, c6, c7]) ∧ PartAt (fun g => w.heap.size ≤ g) w' (treeL s.data.toList) (.agg #[c0, c1, c2, c3, c4, c5, c6, c7]) ∧ Below w.heap.size w w' := by
  have HR := Lib.hid hR
  have HTL : Hid (treeL s.data.toList = (readL s.data.toList 6 0 s.size 1).1) := Lib.hid (by unfold treeL; rw [Lib.size_eq])
  clear hR
  go_enter Tryd.func14, Tryd.ntmps14
  go_wp2_with fail
  have hbox : Boxed ((w.alloc (.cells #[.string ⟨#[]⟩, .slice none 0 0, .string ⟨#[]⟩, .bool false, .int .i64 0, .int .i64 0, .int .i64 0, .slice none 0 0] 31)).alloc (.cells #[.int .i64 1] 3)) (w.heap.size + 1) 3 (.int .i64 ((1 : Nat) : Int)) := box_at (by simp) _ _
  have hbr : Bx w.heap.size zS zL zS zB zI zI zI zL ((w.alloc (.cells #[.string ⟨#[]⟩, .slice none 0 0, .string ⟨#[]⟩, .bool false, .int .i64 0, .int .i64 0, .int .i64 0, .slice none 0 0] 31)).alloc (.cells #[.int .i64 1] 3)) := (Bx.made w zS zL zS zB zI zI zI zL).same (Below.heap_alloc _ _ _ (by simp))
  have hb2 : Below w.heap.size w ((w.alloc (.cells #[.string ⟨#[]⟩, .slice none 0 0, .string ⟨#[]⟩, .bool false, .int .i64 0, .int .i64 0, .int .i64 0, .slice none 0 0] 31)).alloc (.cells #[.int .i64 1] 3)) := ((Below.refl _ w).alloc (Nat.le_refl _) _).alloc (by simp) _
  have hsz : ((w.alloc (.cells #[.string ⟨#[]⟩, .slice none 0 0, .string ⟨#[]⟩, .bool false, .int .i64 0, .int .i64 0, .int .i64 0, .slice none 0 0] 31)).alloc (.cells #[.int .i64 1] 3)).heap.size = w.heap.size + 2 := by simp
  have HC := HR.out s.size (w.heap.size + 1) _ (Nat.le_refl _) hbox (by omega) (by omega) hb2
  generalize ((w.alloc (.cells #[.string ⟨#[]⟩, .slice none 0 0, .string ⟨#[]⟩, .bool false, .int .i64 0, .int .i64 0, .int .i64 0, .slice none 0 0] 31)).alloc (.cells #[.int .i64 1] 3)) = W at *
  unfold anoV at HC
  refine HC.mono ?_
  rintro e w2 ⟨c0, c1, c2, c3, c4, c5, c6, c7, rfl, hp, hst⟩
  obtain ⟨x0, a1, l1, m1, x2, x3, x4, x5, x6, a7, l7, m7, rfl, rfl, rfl, rfl, rfl, rfl, rfl, rfl⟩ := part_forms hp
  have hbr2 := hbr.keep hst (by omega)
  have q0 := hbr2.p0
  have q1 := hbr2.p1
  have q2 := hbr2.p2
  have q3 := hbr2.p3
  have q4 := hbr2.p4
  have q5 := hbr2.p5
  have q6 := hbr2.p6
  have q7 := hbr2.p7
  have e0 := hbr2.free 0
  have e1 := hbr2.free 1
  have e2 := hbr2.free 2
  have e3 := hbr2.free 3
  have e4 := hbr2.free 4
  have e5 := hbr2.free 5
  have e6 := hbr2.free 6
  have e7 := hbr2.free 7
  have HFIN := Lib.hid (And.intro (hbr2.setAll (.string x0) (.slice a1 l1 m1) (.string x2) (.bool x3) (.int .i64 x4) (.int .i64 x5) (.int .i64 x6) (.slice a7 l7 m7)) (And.intro (PartAt.keep (finW_kept (Q' := fun g => w.heap.size ≤ g) w2 w.heap.size (.string x0) (.slice a1 l1 m1) (.string x2) (.bool x3) (.int .i64 x4) (.int .i64 x5) (.int .i64 x6) (.slice a7 l7 m7) (fun g hg => ⟨by omega, by omega⟩)) hp) ((((((((((hst.below hb2 (by omega) hb2.size).setCell (p := ⟨w.heap.size, 0, none⟩) (Nat.le_refl _) (.string x0)).setCell (p := ⟨w.heap.size, 1, none⟩) (Nat.le_refl _) (.slice a1 l1 m1)).setCell (p := ⟨w.heap.size, 2, none⟩) (Nat.le_refl _) (.string x2)).setCell (p := ⟨w.heap.size, 3, none⟩) (Nat.le_refl _) (.bool x3)).setCell (p := ⟨w.heap.size, 4, none⟩) (Nat.le_refl _) (.int .i64 x4)).setCell (p := ⟨w.heap.size, 5, none⟩) (Nat.le_refl _) (.int .i64 x5)).setCell (p := ⟨w.heap.size, 6, none⟩) (Nat.le_refl _) (.int .i64 x6)).setCell (p := ⟨w.heap.size, 7, none⟩) (Nat.le_refl _) (.slice a7 l7 m7)))))
  unfold zS zL zB zI at *
  clear hbr hbr2 hp hst hbox hsz hb2 HC
  go_wp2_with fail
  refine ⟨rfl, .agg #[.string x0, .slice a1 l1 m1, .string x2, .bool x3, .int .i64 x4, .int .i64 x5, .int .i64 x6, .slice a7 l7 m7], part_result rfl _ rfl HFIN.out.1, ?_⟩
  refine ⟨_, _, _, _, _, _, _, _, rfl, ?_, HFIN.out.2.2⟩
  rw [HTL.out]
  exact HFIN.out.2.1
/-- What Tree answers, asked of by the laws. -/
def TreeOk : Prop := ∀ (s : ByteArray) (w : World), s.size ≤ 32768 → Srch.Env w →
    Calls Tryd.prog 14 #[.string s] w fun e w' => ∃ c0 c1 c2 c3 c4 c5 c6 c7, e = .returned (.agg #[c0, c1, c2, c3, c4, c5, c6, c7]) ∧ PartAt (fun g => w.heap.size ≤ g) w' (treeL s.data.toList) (.agg #[c0, c1, c2, c3, c4, c5, c6, c7]) ∧ Below w.heap.size w w'
theorem awake_tree : (treeL [65, 58, 32, 98, 13, 10, 13, 10, 120]).ty = plainT ∧ (treeL [65, 58, 32, 98, 13, 10, 13, 10, 120]).enc = bit7 ∧ (treeL [65, 58, 32, 98, 13, 10, 13, 10, 120]).fm = 8 ∧ (treeL [65, 58, 32, 98, 13, 10, 13, 10, 120]).to = 9 := by decide +kernel

set_option maxHeartbeats 1000000 in
set_option maxRecDepth 100000 in
theorem awake_any (hT : TreeOk) (w : World) (hE : Srch.Env w) :
    Calls Tryd.prog 9 #[] w fun e w' => e = .returned (.bool true) ∧ Below w.heap.size w w' := by
  go_enter Tryd.func9, Tryd.ntmps9
  go_wp2_with fail
  refine (hT ⟨#[65, 58, 32, 98, 13, 10, 13, 10, 120]⟩ w (by decide) hE).mono ?_
  rintro e w1 ⟨c0, c1, c2, c3, c4, c5, c6, c7, rfl, hp, hb1⟩
  obtain ⟨ap, mp, ak, mk, e, -⟩ := part_cells hp
  obtain ⟨t1, t2, t3, t4⟩ := awake_tree
  rw [show (ByteArray.mk #[65, 58, 32, 98, 13, 10, 13, 10, 120]).data.toList = [65, 58, 32, 98, 13, 10, 13, 10, 120] from rfl, t1, t2, t3, t4] at e
  injection e with e
  injection e with e
  injection e with e0 e
  injection e with e1 e
  injection e with e2 e
  injection e with e3 e
  injection e with e4 e
  injection e with e5 e
  injection e with e6 e
  injection e with e7 e
  subst e0 e1 e2 e3 e4 e5 e6 e7
  clear hp t1 t2 t3 t4
  unfold sV plainT bit7
  go_wp2
  go_ret
  exact ⟨rfl, hb1.alloc hb1.size _⟩
end Go.Proofs.YtkmopneeafbeaaaDoor.Pt
