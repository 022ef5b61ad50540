/-
  The law LogOrders: entries whose clock falls are not taken, nor any behind them of the same call. Conditions: none.
-/
import Derived.Test.YtojjlbhodiphdaaLgAwake
import Derived.Test.YtojjlbhodiphdaaLgAll
namespace Go.Proofs.Ytojjlbhodiphdaa.Lg
open Go Go.RowKit Go.Joins

def esO (a b c : Int) : List En := [⟨1 + a, 1, 1, 1⟩, ⟨1 + b, 1, 2, 1⟩, ⟨1 + c, 1, 3, 1⟩]
theorem esO_add (a b c : Int) : addL 100 (0, []) (esO a b c) = (0, (esO a b c).take (if b < a then 1 else if c < b then 2 else 3)) := by
  unfold esO
  rw [addL_cons, if_neg (by simp [falls]), addL_cons]
  by_cases h1 : b < a
  · rw [if_pos (by simp [falls, putL]; omega), if_pos h1]
    simp [putL]
  · rw [if_neg (by simp [falls, putL]; omega), addL_cons, if_neg h1]
    by_cases h2 : c < b
    · rw [if_pos (by simp [falls, putL]; omega), if_pos h2]
      simp [putL]
    · rw [if_neg (by simp [falls, putL]; omega), addL_nil, if_neg h2]
      simp [putL]

set_option maxHeartbeats 4000000 in
set_option maxRecDepth 100000 in
theorem logOrders_walk (a b c : Int) (a0 : 0 ≤ a) (a1 : a ≤ 255) (b0 : 0 ≤ b) (b1 : b ≤ 255) (c0 : 0 ≤ c) (c1 : c ≤ 255) (w : World) :
    Calls Try.prog 7 #[.int .u8 a, .int .u8 b, .int .u8 c] w fun e w' => e = .returned (.bool true) ∧ Below w.heap.size w w' := by
  obtain ⟨n, hn⟩ : ∃ n : Nat, (if b < a then 1 else if c < b then 2 else 3) = n := ⟨_, rfl⟩
  have hn3 : 1 ≤ n ∧ n ≤ 3 := by
    rw [← hn]
    by_cases h1 : b < a
    · simp [h1]
    · by_cases h2 : c < b <;> simp [h1, h2]
  have HNEW := Lib.hid (new_any 100 w (by omega))
  have HADD := Lib.hid (fun lb w1 (hL : LogAt w.heap.size lb (.slice none 0 0) 100 0 [] w1) (ev : Value) (w2 : World) (hb : Below w1.heap.size w1 w2) (he : SAt w2 ev 4 (esO a b c).length (esC (esO a b c))) (hne : ev.ownBlock ≠ some lb) => add_any w.heap.size lb (.slice none 0 0) 100 0 [] (esO a b c) ev w2 (hL.below hb) he (fun g e => by cases e) hne (by omega) (by omega) (by simp) (by show 3 ≤ 1000000; omega))
  rw [esO_add, hn] at HADD
  have HALL := Lib.hid (fun lb v w1 (hL : LogAt w.heap.size lb v 100 0 ((esO a b c).take n) w1) => all_any w.heap.size lb v 100 0 _ w1 hL (by rw [List.length_take]; show min n 3 ≤ _; omega))
  have HN := Lib.hid hn
  go_enter Try.func7, Try.ntmps7
  go_wp2_with fail
  refine HNEW.out.mono ?_
  rintro e w1 ⟨rfl, hL1, hb1⟩
  go_wp2_with fail
  refine (num_any 0 w1).mono ?_
  rintro e w1 ⟨rfl, rfl⟩
  go_wp2_with fail
  obtain ⟨W2, hW2⟩ : ∃ W2, w1.alloc (.cells #[.int .i64 (1 + a), .int .i64 1, .int .i64 1, .int .i64 1, .int .i64 (1 + b), .int .i64 1, .int .i64 2, .int .i64 1, .int .i64 (1 + c), .int .i64 1, .int .i64 3, .int .i64 1] 54) = W2 := ⟨_, rfl⟩
  have hbs : Below w1.heap.size w1 W2 := by rw [← hW2]; exact (Below.refl _ w1).alloc (Nat.le_refl _) _
  have hblk : W2.heap[w1.heap.size]? = some (.cells (esC (esO a b c)).toArray 54 (0, 0)) := by rw [← hW2]; exact heap_alloc_new w1 _
  have hlt := hL1.lt
  have hA := HADD.out w.heap.size w1 hL1 (.slice (some ⟨w1.heap.size, 0, none⟩) (esO a b c).length (esO a b c).length) W2 hbs (sat_new hblk (by show 3 ≤ 1000000; omega)) (fun e => by have h5 : w1.heap.size = w.heap.size := Option.some.inj e; omega)
  rw [hW2]
  refine hA.mono ?_
  rintro e w3 ⟨rfl, v3, hL3, hT3⟩
  have hb3 : Below w.heap.size w w3 := hb1.trans ((hbs.mono hb1.size).trans (hT3.below (hL1.below hbs)))
  have hblk3 : w3.heap[w1.heap.size]? = some (.cells (esC (esO a b c)).toArray 54 (0, 0)) := (hT3.block w1.heap.size (Array.getElem?_eq_some_iff.1 hblk).1 (by omega) (by simp [Value.ownBlock])).trans hblk
  have HSA : Hid (∀ (w' : World), Below w3.drew.heap.size w3.drew w' → ∀ m : Nat, m ≤ 3 → SAt w' (.slice (some ⟨w1.heap.size, 0, none⟩) m 3) 4 ((esO a b c).take m).length (esC ((esO a b c).take m))) := Lib.hid (fun w' hb m hm => by
    have hl : ((esO a b c).take m).length = m := by rw [List.length_take]; show min m 3 = m; omega
    have hbw : w'.heap[w1.heap.size]? = _ := (hb.block _ (Array.getElem?_eq_some_iff.1 hblk3).1).trans hblk3
    rw [hl]
    refine Or.inr ⟨w1.heap.size, 0, 3, rfl, hm, by unfold maxLen; omega, fun j hj => ?_⟩
    rw [Nat.zero_add, cell_of_row w' _ j _ _ _ hbw]
    have e : esC (esO a b c) = esC ((esO a b c).take m) ++ esC ((esO a b c).drop m) := by rw [← esC_append, List.take_append_drop]
    rw [e]
    simp only [List.getElem?_toArray]
    rw [List.getElem?_append_left (by rw [esC_length, hl]; exact hj)])
  have HB3 := Lib.hid hb3
  have HL3 := Lib.hid hL3
  clear hb3 hT3 hL3 hbs hL1 hb1 hblk hblk3 hA hW2 hlt hn
  by_cases h1 : c < b
  · by_cases h2 : b < a
    · obtain rfl : 1 = n := by have := HN.out; simp [h2] at this; omega
      go_wp2_with fail
      go_region_with (first
        | (go_at_call 14; refine (HALL.out _ _ _ (HL3.out.below ((Below.refl _ w3).drew))).mono ?_; rintro e w4 ⟨u, rfl, hq4, hb4⟩; obtain ⟨ua, uc, rfl⟩ := hq4.form)
        | (go_at_call 13; refine (entries_any _ _ ((esO a b c).take 1) ((esO a b c).take 1) w4 hq4.sat (HSA.out _ hb4 _ (by omega)) (by rw [List.length_take]; show min 1 3 ≤ _; omega)).mono ?_; rintro e w5 ⟨rfl, hb5⟩; rw [decide_eq_true rfl])
        | (go_at_call 8; refine (awake_any w5).mono ?_; rintro e w6 ⟨rfl, hb6⟩))
      all_goals
        go_wp2_with fail
        go_ret
        exact ⟨rfl, ((HB3.out.drew).trans (hb4.mono HB3.out.size)).trans ((hb5.mono (Nat.le_trans HB3.out.size hb4.size)).trans (hb6.mono (Nat.le_trans HB3.out.size (Nat.le_trans hb4.size hb5.size))))⟩
    · obtain rfl : 2 = n := by have := HN.out; simp [h1, h2] at this; omega
      go_wp2_with fail
      go_region_with (first
        | (go_at_call 14; refine (HALL.out _ _ _ (HL3.out.below ((Below.refl _ w3).drew))).mono ?_; rintro e w4 ⟨u, rfl, hq4, hb4⟩; obtain ⟨ua, uc, rfl⟩ := hq4.form)
        | (go_at_call 13; refine (entries_any _ _ ((esO a b c).take 2) ((esO a b c).take 2) w4 hq4.sat (HSA.out _ hb4 _ (by omega)) (by rw [List.length_take]; show min 2 3 ≤ _; omega)).mono ?_; rintro e w5 ⟨rfl, hb5⟩; rw [decide_eq_true rfl])
        | (go_at_call 8; refine (awake_any w5).mono ?_; rintro e w6 ⟨rfl, hb6⟩))
      all_goals
        go_wp2_with fail
        go_ret
        exact ⟨rfl, ((HB3.out.drew).trans (hb4.mono HB3.out.size)).trans ((hb5.mono (Nat.le_trans HB3.out.size hb4.size)).trans (hb6.mono (Nat.le_trans HB3.out.size (Nat.le_trans hb4.size hb5.size))))⟩
  · by_cases h2 : b < a
    · obtain rfl : 1 = n := by have := HN.out; simp [h2] at this; omega
      go_wp2_with fail
      go_region_with (first
        | (go_at_call 14; refine (HALL.out _ _ _ (HL3.out.below ((Below.refl _ w3).drew))).mono ?_; rintro e w4 ⟨u, rfl, hq4, hb4⟩; obtain ⟨ua, uc, rfl⟩ := hq4.form)
        | (go_at_call 13; refine (entries_any _ _ ((esO a b c).take 1) ((esO a b c).take 1) w4 hq4.sat (HSA.out _ hb4 _ (by omega)) (by rw [List.length_take]; show min 1 3 ≤ _; omega)).mono ?_; rintro e w5 ⟨rfl, hb5⟩; rw [decide_eq_true rfl])
        | (go_at_call 8; refine (awake_any w5).mono ?_; rintro e w6 ⟨rfl, hb6⟩))
      all_goals
        go_wp2_with fail
        go_ret
        exact ⟨rfl, ((HB3.out.drew).trans (hb4.mono HB3.out.size)).trans ((hb5.mono (Nat.le_trans HB3.out.size hb4.size)).trans (hb6.mono (Nat.le_trans HB3.out.size (Nat.le_trans hb4.size hb5.size))))⟩
    · obtain rfl : 3 = n := by have := HN.out; simp [h1, h2] at this; omega
      go_wp2_with fail
      go_region_with (first
        | (go_at_call 14; refine (HALL.out _ _ _ (HL3.out.below ((Below.refl _ w3).drew))).mono ?_; rintro e w4 ⟨u, rfl, hq4, hb4⟩; obtain ⟨ua, uc, rfl⟩ := hq4.form)
        | (go_at_call 13; refine (entries_any _ _ ((esO a b c).take 3) ((esO a b c).take 3) w4 hq4.sat (HSA.out _ hb4 _ (by omega)) (by rw [List.length_take]; show min 3 3 ≤ _; omega)).mono ?_; rintro e w5 ⟨rfl, hb5⟩; rw [decide_eq_true rfl])
        | (go_at_call 8; refine (awake_any w5).mono ?_; rintro e w6 ⟨rfl, hb6⟩))
      all_goals
        go_wp2_with fail
        go_ret
        exact ⟨rfl, ((HB3.out.drew).trans (hb4.mono HB3.out.size)).trans ((hb5.mono (Nat.le_trans HB3.out.size hb4.size)).trans (hb6.mono (Nat.le_trans HB3.out.size (Nat.le_trans hb4.size hb5.size))))⟩
end Go.Proofs.Ytojjlbhodiphdaa.Lg
