/-
  The document's Find: where there is no such key. Conditions: Tame; no more keys than kids.
-/
import Derived.Test.YtoofcclcimkipaaDoorJ8Find
namespace Go.Proofs.YtoofcclcimkipaaDoor.J8
open Go Go.RowKit Go.Joins Kit J7 Nds

set_option maxHeartbeats 8000000 in
set_option maxRecDepth 100000 in
theorem rfind_no (a : J) (ht : Tame a) (key : ByteArray) (hn : ∀ i, ¬ Found a key i) (hle : a.keys.length ≤ a.kids.length) (w : World) (c0 c1 c2 c3 c4 : Value) (hc : NodeIn w a (.agg #[c0, c1, c2, c3, c4])) :
    Calls Tryd.prog 33 #[.agg #[c0, c1, c2, c3, c4], .string key] w fun e w' => e = .returned (.tuple #[zeroAgg, .bool false]) ∧ Below w.heap.size w w' := by
  have hkl : a.keys.length ≤ 65536 := by cases ht; assumption
  have hvl : a.kids.length ≤ 65536 := by cases ht; assumption
  obtain ⟨a3, m3, a4, m4, rfl, rfl, rfl, rfl, rfl, hkk, hvv⟩ := node_parts hc
  obtain ⟨nk, hnk⟩ : ∃ nk, a.keys.length = nk := ⟨_, rfl⟩
  obtain ⟨nv, hnv⟩ : ∃ nv, a.kids.length = nv := ⟨_, rfl⟩
  obtain ⟨k, hkd⟩ : ∃ kd, a.kind = kd := ⟨_, rfl⟩
  obtain ⟨n, hnm⟩ : ∃ nm, a.num = nm := ⟨_, rfl⟩
  obtain ⟨t, htx⟩ : ∃ tx, a.text = tx := ⟨_, rfl⟩
  rw [hnk, hnv, hkd, hnm, htx]
  obtain ⟨W, hW⟩ : ∃ W, ((w.alloc (.cells #[.int .i64 k, .int .i64 n, .string t, .slice a3 nk m3, .slice a4 nv m4] 25)).alloc (.cells #[.int .i64 0, .int .i64 0, .string ⟨#[]⟩, .slice none 0 0, .slice none 0 0] 25)) = W := ⟨_, rfl⟩
  have hb0 : Below w.heap.size w W := by rw [← hW]; exact ((Below.refl _ w).alloc (Nat.le_refl _) _).alloc (by simp) _
  have hA : Bx w.heap.size (.int .i64 k) (.int .i64 n) (.string t) (.slice a3 nk m3) (.slice a4 nv m4) W := by rw [← hW]; exact (Bx.made w _ _ _ _ _).alloc _
  have hR : Bx (w.heap.size + 1) (.int .i64 0) (.int .i64 0) (.string ⟨#[]⟩) (.slice none 0 0) (.slice none 0 0) W := by
    rw [← hW]
    have h9 := Bx.made (w.alloc (.cells #[.int .i64 k, .int .i64 n, .string t, .slice a3 nk m3, .slice a4 nv m4] 25)) (.int .i64 0) (.int .i64 0) (.string ⟨#[]⟩) (.slice none 0 0) (.slice none 0 0)
    simpa using h9
  have HKI : Hid (KeysIn W a3 a.keys) := Lib.hid (KeysIn.below (w := w) (fun i hi => hkk i hi) hb0)
  have HVI : Hid (KidsIn W a4 a.kids) := Lib.hid (KidsIn.below (w := w) (fun i hi => hvv i hi) hb0)
  have HB := Lib.hid hb0
  obtain ⟨G, hG⟩ : ∃ G, w.heap.size = G := ⟨_, rfl⟩
  rw [hG] at hA hR
  have HW := Lib.hid hW
  have HA := Lib.hid hA
  have HR := Lib.hid hR
  have HNK := Lib.hid hnk
  have HNV := Lib.hid hnv
  have p0 := hA.p0
  have p3 := hA.p3
  have p4 := hA.p4
  have q0 := hR.p0
  have q1 := hR.p1
  have q2 := hR.p2
  have q3 := hR.p3
  have q4 := hR.p4
  have f0 := hR.free 0
  have f1 := hR.free 1
  have f2 := hR.free 2
  have f3 := hR.free 3
  have f4 := hR.free 4
  have hfn : k = 7 → ∀ j (hj : j < a.keys.length), a.keys[j] ≠ key := fun e => found_none hn (by rw [hkd]; exact e) hle
  have hki : (nk : Int) ≤ 65536 := by omega
  have hnv' : nk ≤ nv := by omega
  by_cases h7 : k = 7
  rotate_left 1
  · have g7 : (k == 7) = false := by rw [beq_eq_false_iff_ne]; exact h7
    clear hfn
    clear hW hc hkk hvv hb0 hnk hnv hkd hnm htx hA hR ht
    go_enter Tryd.func33, Tryd.ntmps33
    go_upto_region 1 with fail
    rw [HW.out]
    (try rw [hG])
    go_wp2_with fail
    refine wp_loop_rounds 1 ?_
    rw [rounds_succ]
    by_cases hz : 0 < nk
    · have gz : (0 : Int) < (nk : Int) := by omega
      have gz2 : (0 : Int) < (nv : Int) := by omega
      go_wp2_with fail
      refine bodyPost_ret (find_result rfl _ rfl rfl (HR.out.setAll _ _ _ _ _)) rfl ?_
      exact ⟨rfl, putN_below HB.out (by rw [hG]; exact Nat.le_succ _) _ _ _ _ _⟩
    · have gz : decide ((0 : Int) < (nk : Int)) = false := by rw [decide_eq_false_iff_not]; omega
      go_wp2_with fail
      refine bodyPost_ret (find_result rfl _ rfl rfl (HR.out.setAll _ _ _ _ _)) rfl ?_
      exact ⟨rfl, putN_below HB.out (by rw [hG]; exact Nat.le_succ _) _ _ _ _ _⟩
  subst h7
  have HFN := Lib.hid (hfn rfl)
  clear hfn
  clear hW hc hkk hvv hb0 hnk hnv hkd hnm htx hA hR ht
  go_enter Tryd.func33, Tryd.ntmps33
  go_upto_region 1 with fail
  rw [HW.out]
  (try rw [hG])
  go_wp2_with fail
  go_loopg [6] nk (fun q v wr => ∃ j : Nat, q = nk - j ∧ v = .int .i64 j ∧ j ≤ nk ∧ W = wr)
  case atStart => exact ⟨0, rfl, rfl, Nat.zero_le _, rfl⟩
  case round =>
    obtain ⟨j, rfl, rfl, hj, rfl⟩ := hrel
    by_cases hlt : j < nk
    · have h1 : j < a.keys.length := by rw [HNK.out]; exact hlt
      obtain ⟨g, o, e1, t1⟩ := HKI.out j h1
      rw [e1] at p3
      have gi : (j : Int) < nk := by omega
      have gv : (j : Int) < nv := by omega
      obtain ⟨kx, hkx⟩ : ∃ kx, a.keys[j] = kx := ⟨_, rfl⟩
      rw [hkx] at t1
      have hne : kx ≠ key := by rw [← hkx]; exact HFN.out j h1
      have gt := text_no hne
      clear hkx hne e1
      go_wp2_with fail
      go_roundg (nk - (j + 1))
      case measure => omega
      case rel => exact ⟨j + 1, rfl, by go_num, by omega, rfl⟩
    · have gi : decide ((j : Int) < (nk : Int)) = false := by rw [decide_eq_false_iff_not]; omega
      go_wp2_with fail
      refine bodyPost_ret (find_result rfl _ rfl rfl (HR.out.setAll _ _ _ _ _)) rfl ?_
      exact ⟨rfl, putN_below HB.out (by rw [hG]; exact Nat.le_succ _) _ _ _ _ _⟩
end Go.Proofs.YtoofcclcimkipaaDoor.J8
