/-
  awake, the laws' own example. Conditions: none.
-/
import Derived.Test.YtojjlbhodiphdaaLgSince
import Derived.Test.YtojjlbhodiphdaaLgAdd
namespace Go.Proofs.Ytojjlbhodiphdaa.Lg
open Go Go.RowKit Go.Joins

/-- Entries that a new block holds. -/
theorem sat_new {w : World} {b : Nat} {es : List En} (h : w.heap[b]? = some (.cells (esC es).toArray 54 (0, 0))) (hl : es.length ≤ 1000000) : SAt w (.slice (some ⟨b, 0, none⟩) es.length es.length) 4 es.length (esC es) :=
  Or.inr ⟨b, 0, es.length, rfl, Nat.le_refl _, by unfold maxLen; omega, fun j hj => by rw [Nat.zero_add, cell_of_row w b j _ _ _ h]; simp⟩
def esW : List En := [⟨2, 2, 1, 1⟩, ⟨3, 2, 1, 3⟩, ⟨3, 2, 2, 1⟩]
theorem esW_add : addL 10 (0, []) esW = (0, esW) := by decide +kernel
theorem esW_since : sinceL 0 esW 2 1 3 0 = (⟨[2], [], [], 3, false⟩, 0) := by decide +kernel

set_option maxHeartbeats 2000000 in
set_option maxRecDepth 100000 in
theorem awake_any (w : World) : Calls Try.prog 8 #[] w fun e w' => e = .returned (.bool true) ∧ Below w.heap.size w w' := by
  have HNEW := Lib.hid (new_any 10 w (by omega))
  have HADD := Lib.hid (fun lb w1 (hL : LogAt w.heap.size lb (.slice none 0 0) 10 0 [] w1) (ev : Value) (w2 : World) (hb : Below w1.heap.size w1 w2) (he : SAt w2 ev 4 esW.length (esC esW)) (hne : ev.ownBlock ≠ some lb) => add_any w.heap.size lb (.slice none 0 0) 10 0 [] esW ev w2 (hL.below hb) he (fun g e => by cases e) hne (by omega) (by omega) (by simp) (by decide))
  have HSIN := Lib.hid (fun lb v w1 (hL : LogAt w.heap.size lb v 10 0 esW w1) => since_any w.heap.size lb v 10 0 2 1 3 0 esW w1 hL (by decide) (by decide) (by decide))
  go_enter Try.func8, Try.ntmps8
  go_wp2_with fail
  refine HNEW.out.mono ?_
  rintro e w1 ⟨rfl, hL1, hb1⟩
  go_wp2_with fail
  refine (num_any 0 w1).mono ?_
  rintro e w1 ⟨rfl, rfl⟩
  go_wp2_with fail
  obtain ⟨W2, hW2⟩ : ∃ W2, w1.alloc (.cells #[.int .i64 2, .int .i64 2, .int .i64 1, .int .i64 1, .int .i64 3, .int .i64 2, .int .i64 1, .int .i64 3, .int .i64 3, .int .i64 2, .int .i64 2, .int .i64 1] 54) = W2 := ⟨_, rfl⟩
  have hbs : Below w1.heap.size w1 W2 := by rw [← hW2]; exact (Below.refl _ w1).alloc (Nat.le_refl _) _
  have hblk : W2.heap[w1.heap.size]? = some (.cells (esC esW).toArray 54 (0, 0)) := by rw [← hW2]; exact heap_alloc_new w1 _
  have hlt := hL1.lt
  have hA := HADD.out w.heap.size w1 hL1 (.slice (some ⟨w1.heap.size, 0, none⟩) esW.length esW.length) W2 hbs (sat_new hblk (by decide)) (fun e => by have h5 : w1.heap.size = w.heap.size := Option.some.inj e; omega)
  rw [hW2]
  refine hA.mono ?_
  rintro e w3 ⟨rfl, v3, hL3, hT3⟩
  rw [esW_add] at hL3
  have hb3 : Below w.heap.size w w3 := hb1.trans ((hbs.mono hb1.size).trans (hT3.below (hL1.below hbs)))
  have HB3 := Lib.hid hb3
  have HL3 := Lib.hid hL3
  clear hb3 hT3 hL3 hbs hL1 hb1
  go_wp2_with fail
  refine (HSIN.out _ _ _ HL3.out).mono ?_
  rw [esW_since]
  rintro e w4 ⟨u, rfl, ⟨c1, c2, c3, rfl, q1, q2, q3⟩, hb4⟩
  obtain ⟨g1, o1, m1, rfl, _, _, hc1, _⟩ := q1.at (by decide)
  have hm : w4.cell? ⟨g1, o1, none⟩ = some (.int .i64 2) := hc1 0 (by decide)
  obtain ⟨a2, m2, rfl⟩ := q2.form
  obtain ⟨a3, m3, rfl⟩ := q3.form
  have HB4 := Lib.hid (HB3.out.trans (hb4.mono HB3.out.size))
  clear q1 q2 q3 hb4 hc1
  dsimp only [List.length_cons, List.length_nil, Nat.zero_add]
  have hlt1 := World.block_lt_of_cell? w4 _ hm
  have hm2 := (((Below.refl w4.heap.size w4).alloc (Nat.le_refl _) (.cells #[.slice (some ⟨g1, o1, none⟩) 1 m1, .slice a2 0 m2, .slice a3 0 m3, .int .i64 3, .bool false] 42)).cell (p := ⟨g1, o1, none⟩) hlt1).trans hm
  have HB5 := Lib.hid (HB4.out.alloc HB4.out.size (.cells #[.slice (some ⟨g1, o1, none⟩) 1 m1, .slice a2 0 m2, .slice a3 0 m3, .int .i64 3, .bool false] 42))
  clear hm hlt1
  go_wp2_with fail
  refine (num_any 0 _).mono ?_
  rintro e w5 ⟨rfl, rfl⟩
  go_wp2_with fail
  go_ret
  exact ⟨rfl, HB5.out⟩
end Go.Proofs.Ytojjlbhodiphdaa.Lg
