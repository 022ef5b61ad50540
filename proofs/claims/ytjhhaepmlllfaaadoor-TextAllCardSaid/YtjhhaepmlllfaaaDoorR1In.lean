/-
  The document's answer for package text, as the statements have it: Index returns the first place from the one that is given on, and In whether there is one. Condition: the texts have at most 2^40 bytes.
-/
import Derived.Test.YtjhhaepmlllfaaaDoorR1Fold
namespace Go.Proofs.YtjhhaepmlllfaaaDoor.R1
open Go Go.RowKit Go.Joins Tx

/-- Where sub first stands in l from place i on; -1: nowhere. -/
def idxFrom (l sub : List UInt8) : Nat → Nat → Int
  | 0, _ => -1
  | f + 1, i => if i + sub.length ≤ l.length then (if (l.drop i).take sub.length = sub then (i : Int) else idxFrom l sub f (i + 1)) else -1
theorem occ_iff (l sub : List UInt8) (i : Nat) : Lib.occAt l sub i = true ↔ (l.drop i).take sub.length = sub := by
  unfold Lib.occAt
  rw [List.isPrefixOf_iff_prefix, List.prefix_iff_eq_take]
  exact ⟨fun h => h.symm, fun h => h.symm⟩
theorem idxFrom_spec (l sub : List UInt8) : ∀ (f i : Nat), l.length < i + f → (idxFrom l sub f i = -1 ∧ ∀ j, i ≤ j → j + sub.length ≤ l.length → Lib.occAt l sub j = false) ∨ (∃ j : Nat, idxFrom l sub f i = j ∧ i ≤ j ∧ j + sub.length ≤ l.length ∧ Lib.occAt l sub j = true ∧ ∀ k, i ≤ k → k < j → Lib.occAt l sub k = false)
  | 0, i, h => Or.inl ⟨rfl, fun j hj hl => by omega⟩
  | f + 1, i, h => by
    unfold idxFrom
    by_cases h1 : i + sub.length ≤ l.length
    · rw [if_pos h1]
      by_cases h2 : (l.drop i).take sub.length = sub
      · rw [if_pos h2]
        exact Or.inr ⟨i, rfl, Nat.le_refl _, h1, (occ_iff _ _ _).2 h2, fun k hk hk' => by omega⟩
      · rw [if_neg h2]
        have hno : Lib.occAt l sub i = false := Bool.eq_false_iff.2 (fun h => h2 ((occ_iff _ _ _).1 h))
        rcases idxFrom_spec l sub f (i + 1) (by omega) with ⟨ha, hb⟩ | ⟨j, ha, hb, hc, hd, he⟩
        · refine Or.inl ⟨ha, fun j hj hl => ?_⟩
          by_cases e : j = i
          · rw [e]; exact hno
          · exact hb j (by omega) hl
        · refine Or.inr ⟨j, ha, by omega, hc, hd, fun k hk hk' => ?_⟩
          by_cases e : k = i
          · rw [e]; exact hno
          · exact he k (by omega) hk'
    · rw [if_neg h1]
      exact Or.inl ⟨rfl, fun j hj hl => by omega⟩
theorem idx_contains (l sub : List UInt8) : decide (0 ≤ idxFrom l sub (l.length + 1) 0) = Lib.contains l sub := by
  unfold Lib.contains
  rw [Bool.eq_iff_iff, decide_eq_true_eq, decide_eq_true_eq]
  rcases idxFrom_spec l sub (l.length + 1) 0 (by omega) with ⟨ha, hb⟩ | ⟨j, ha, _, hc, hd, _⟩
  · rw [ha]
    constructor
    · intro h; omega
    · intro h
      have hr := Lib.index_room l sub h
      rcases Lib.index_spec l sub with ⟨h1, _⟩ | ⟨i, h1, h2, h3, _⟩
      · omega
      · have := hb i (by omega) (by omega)
        rw [h3] at this
        cases this
  · rw [ha]
    constructor
    · intro _
      rcases Lib.index_spec l sub with ⟨_, h2⟩ | ⟨i, h1, _⟩
      · have := h2 j (by omega)
        rw [hd] at this
        cases this
      · omega
    · intro _; omega

theorem ret_int {k : IntKind} {a b : Int} (h : a = b) : Ending.returned (.int k a) = .returned (.int k b) := by rw [h]

set_option maxHeartbeats 1000000 in
theorem index_any (s sub : ByteArray) (at0 : Nat) (w : World) (hs : s.size ≤ 1099511627776) (hsub : sub.size ≤ 1099511627776) (hat : at0 ≤ 1099511627776) :
    Calls Tryd.prog 31 #[.string s, .string sub, .int .i64 at0] w fun e w' => e = .returned (.int .i64 (idxFrom s.data.toList sub.data.toList (s.size + 1) at0)) ∧ w = w' := by
  have hl1 := Lib.hid (Lib.size_eq s)
  have hl2 := Lib.hid (Lib.size_eq sub)
  go_enter Tryd.func31, Tryd.ntmps31
  go_wp2_with fail
  go_loop [7] (fun i => ∃ k f : Nat, k ≤ 2 * 1099511627776 ∧ i = .int .i64 k ∧ s.size < k + f ∧ Hid (idxFrom s.data.toList sub.data.toList f k = idxFrom s.data.toList sub.data.toList (s.size + 1) at0)) (fun i => s.size + 1 - (intOf i).toNat)
  case atStart => exact ⟨at0, s.size + 1, by omega, rfl, by omega, rfl⟩
  case round =>
    obtain ⟨k, f, hk, rfl, hf, hidx⟩ := hrel
    by_cases hlt : k + sub.size ≤ s.size
    · obtain ⟨f, rfl⟩ : ∃ g, f = g + 1 := ⟨f - 1, by omega⟩
      have hstep : Hid (idxFrom s.data.toList sub.data.toList (f + 1) k = if (s.data.toList.drop k).take sub.data.toList.length = sub.data.toList then (k : Int) else idxFrom s.data.toList sub.data.toList f (k + 1)) := by
        show _ = _
        rw [idxFrom, if_pos (by rw [← hl1.out, ← hl2.out]; exact hlt)]
      have hex : (s.extract k (k + sub.size)).toList = (s.data.toList.drop k).take sub.data.toList.length := by
        rw [Lib.extract_toList, show k + sub.size - k = sub.data.toList.length by rw [← hl2.out]; omega]
      have g1 : (k : Int) + sub.size ≤ s.size := by omega
      by_cases he : (s.data.toList.drop k).take sub.data.toList.length = sub.data.toList
      · have heq : ((s.extract k (k + sub.size)).toList == sub.toList) = true := by rw [hex, he, Lib.toList_data]; simp
        have HE := Lib.hid he
        clear he hex
        go_wp2
        go_ret
        exact ⟨ret_int (by rw [← hidx.out, hstep.out, if_pos HE.out]), rfl⟩
      · have heq : ((s.extract k (k + sub.size)).toList == sub.toList) = false := by rw [hex, Lib.toList_data]; simpa using he
        have HE := Lib.hid he
        clear he hex
        go_wp2
        go_round
        case rel => exact ⟨k + 1, f, by omega, by go_num, by omega, by show _ = _; rw [← hidx.out, hstep.out, if_neg HE.out]⟩
        case measure => simp [intOf]; omega
    · have hend : Hid (idxFrom s.data.toList sub.data.toList f k = -1) := by
        show _ = _
        cases f with
        | zero => rfl
        | succ f => rw [idxFrom, if_neg (by rw [← hl1.out, ← hl2.out]; exact hlt)]
      have g1 : ¬ ((k : Int) + sub.size ≤ s.size) := by omega
      go_wp2
      go_ret
      exact ⟨ret_int (by rw [← hidx.out, hend.out]), rfl⟩

set_option maxHeartbeats 400000 in
theorem in_any (s sub : ByteArray) (w : World) (hs : s.size ≤ 1099511627776) (hsub : sub.size ≤ 1099511627776) :
    Calls Tryd.prog 23 #[.string s, .string sub] w fun e w' => e = .returned (.bool (inB s sub)) ∧ Below w.heap.size w w' := by
  have hidx : Hid (decide (0 ≤ idxFrom (fold s).data.toList (fold sub).data.toList ((fold s).size + 1) 0) = inB s sub) := by
    show _ = _
    rw [Lib.size_eq, idx_contains]
    rfl
  go_enter Tryd.func23, Tryd.ntmps23
  go_wp2_with fail
  refine (fold_call s w (by omega)).mono ?_
  rintro e w1 ⟨rfl, hb1⟩
  go_wp2_with fail
  refine (fold_call sub w1 (by omega)).mono ?_
  rintro e w2 ⟨rfl, hb2⟩
  go_wp2_with fail
  refine (index_any (fold s) (fold sub) 0 w2 (by rw [fold_size]; omega) (by rw [fold_size]; omega) (by omega)).mono ?_
  rintro e w3 ⟨rfl, rfl⟩
  go_wp2
  go_ret
  exact ⟨ret_bool hidx.out, hb1.trans (hb2.mono hb1.size)⟩
end Go.Proofs.YtjhhaepmlllfaaaDoor.R1
