/-
  The document's answer for package canon, as the statements have it: whether any value is right, wrong ones too. Condition: no list and no text in it is too long (Tame).
-/
import Derived.Test.YtoofcclcimkipaaDoorJ8Same
import Derived.Test.YtoofcclcimkipaaDoorU8RefValid
namespace Go.Proofs.YtoofcclcimkipaaDoor.J8
open Go Go.RowKit Go.Joins Kit J7 Nds

/-- The value's own cells are right at that depth. -/
structure Head (dd : Nat) (k n : Int) (t : ByteArray) (nk nv : Nat) : Prop where
  a1 : 1 ≤ k
  a2 : k ≤ 7
  a3 : k ≠ 4 → n = 0
  a4 : n ≤ 9007199254740991
  a5 : -9007199254740991 ≤ n
  a6 : k ≠ 5 → t = ⟨#[]⟩
  a7 : U8.validL t.data.toList = true
  a8 : k < 6 → nv = 0
  a9 : k ≠ 7 → nk = 0
  a10 : k = 7 → nk = nv
  a11 : 6 ≤ k → dd < 24
/-- Valid keys, none twice. -/
def KeysFine (keys : List ByteArray) : Prop := ∀ q (hq : q < keys.length), U8.validL keys[q].data.toList = true ∧ ∀ y (hy : y < q), keys[y] ≠ keys[q]
inductive RightIn : Nat → J → Prop where
  | mk (dd : Nat) (a : J) (hh : Head dd a.kind a.num a.text a.keys.length a.kids.length) (hv : ∀ i (h : i < a.kids.length), RightIn (dd + 1) a.kids[i]) (hk : KeysFine a.keys) : RightIn dd a
noncomputable def rightP (dd : Nat) (a : J) : Bool := @decide (RightIn dd a) (Classical.propDecidable _)
theorem rightP_no {dd : Nat} {a : J} (h : ¬ RightIn dd a) : rightP dd a = false := by unfold rightP; exact @decide_eq_false _ (Classical.propDecidable _) h
theorem rightP_yes {dd : Nat} {a : J} (h : RightIn dd a) : rightP dd a = true := by unfold rightP; exact @decide_eq_true _ (Classical.propDecidable _) h
theorem text_some {t : ByteArray} (h : t ≠ ⟨#[]⟩) : (t.toList == []) = false := by
  rw [beq_eq_false_iff_ne, Lib.toList_data]
  exact fun e => h (bytes_ext e)
theorem right_inv {dd : Nat} {a : J} (h : RightIn dd a) : Head dd a.kind a.num a.text a.keys.length a.kids.length ∧ (∀ i (h : i < a.kids.length), RightIn (dd + 1) a.kids[i]) ∧ KeysFine a.keys := by
  cases h with
  | mk _ _ hh hv hk => exact ⟨hh, hv, hk⟩

def RightIs (a : J) : Prop := ∀ (dd : Nat) (w : World) (c0 c1 c2 c3 c4 : Value), dd ≤ 1000000 → NodeIn w a (.agg #[c0, c1, c2, c3, c4]) →
  Calls Tryd.prog 26 #[.agg #[c0, c1, c2, c3, c4], .int .i64 (dd : Int)] w fun e w' => e = .returned (.bool (rightP dd a)) ∧ Below w.heap.size w w'

set_option maxHeartbeats 16000000 in
set_option maxRecDepth 100000 in
theorem right_step (a : J) (ih : ∀ (i : Nat) (h : i < a.kids.length), RightIs a.kids[i]) (hkl : a.keys.length ≤ 1000000) (hvl : a.kids.length ≤ 1000000) (hts : a.text.size ≤ 300000) (hkz : ∀ q (h : q < a.keys.length), a.keys[q].size ≤ 300000) : RightIs a := by
  intro dd w c0 c1 c2 c3 c4 hdd hc
  obtain ⟨a3, m3, a4, m4, rfl, rfl, rfl, rfl, rfl, _, _⟩ := node_parts hc
  obtain ⟨nk, hnk⟩ : ∃ nk, a.keys.length = nk := ⟨_, rfl⟩
  obtain ⟨nv, hnv⟩ : ∃ nv, a.kids.length = nv := ⟨_, rfl⟩
  obtain ⟨k, hkd⟩ : ∃ kd, a.kind = kd := ⟨_, rfl⟩
  obtain ⟨n, hnm⟩ : ∃ nm, a.num = nm := ⟨_, rfl⟩
  obtain ⟨t, htx⟩ : ∃ tx, a.text = tx := ⟨_, rfl⟩
  have HMK : Hid (Head dd k n t nk nv → (∀ i (h : i < a.kids.length), RightIn (dd + 1) a.kids[i]) → KeysFine a.keys → rightP dd a = true) := Lib.hid (fun h1 h2 h3 => rightP_yes (RightIn.mk dd a (by rw [hnk, hnv, hkd, hnm, htx]; exact h1) h2 h3))
  have HINV : Hid (¬ (Head dd k n t nk nv ∧ (∀ i (h : i < a.kids.length), RightIn (dd + 1) a.kids[i]) ∧ KeysFine a.keys) → rightP dd a = false) := Lib.hid (fun h => rightP_no (fun h2 => h (by rw [← hnk, ← hnv, ← hkd, ← hnm, ← htx]; exact right_inv h2)))
  rw [hnk, hnv, hkd, hnm, htx] at hc
  rw [hnk, hnv, hkd, hnm, htx]
  rw [htx] at hts
  obtain ⟨W, hW⟩ : ∃ W, w.alloc (.cells #[.int .i64 k, .int .i64 n, .string t, .slice a3 nk m3, .slice a4 nv m4] 25) = W := ⟨_, rfl⟩
  have hb0 : Below w.heap.size w W := by rw [← hW]; exact (Below.refl _ w).alloc (Nat.le_refl _) _
  have hcW := node_below hb0 hc
  have hA : Bx w.heap.size (.int .i64 k) (.int .i64 n) (.string t) (.slice a3 nk m3) (.slice a4 nv m4) W := by rw [← hW]; exact Bx.made w _ _ _ _ _
  obtain ⟨G, hG⟩ : ∃ G, w.heap.size = G := ⟨_, rfl⟩
  rw [hG] at hA
  have hbG : Below G w W := by rw [← hG]; exact hb0
  have hGs : G ≤ W.heap.size := by rw [← hG]; exact hb0.size
  have hGl := hA.lt
  have HW := Lib.hid hW
  have HC := Lib.hid hcW
  have hki : (nk : Int) ≤ 1000000 := by omega
  have hvi : (nv : Int) ≤ 1000000 := by omega
  have hddi : (dd : Int) ≤ 1000000 := by omega
  have hwr : IntKind.i64.wrap ((dd : Int) + 1) = (dd : Int) + 1 := by rw [IntKind.wrap_i64]; omega
  have HIH := Lib.hid ih
  have HNK := Lib.hid hnk
  have HNV := Lib.hid hnv
  have HKZ := Lib.hid hkz
  have hv := U8.rvalid_any t (by omega) W
  have hvb : Hid (∀ b, U8.validL t.data.toList = b → U8.validL t.data.toList = b) := Lib.hid (fun _ h => h)
  obtain ⟨vb, hvb⟩ : ∃ vb, U8.validL t.data.toList = vb := ⟨_, rfl⟩
  rw [hvb] at hv
  obtain ⟨rp, hrp⟩ : ∃ rp, rightP dd a = rp := ⟨_, rfl⟩
  rw [hrp] at HMK HINV ⊢
  have p0 := hA.p0
  have p1 := hA.p1
  have p2 := hA.p2
  clear hW hc hcW ih hkl hvl hnk hnv hkd hnm htx hrp hkz hb0
  by_cases hx : 1 ≤ k
  rotate_left 1
  · have g0 : k < 1 := by omega
    have hs : rp = false := HINV.out (fun hh => by have hq := hh.1; exact hx hq.a1)
    subst hs
    clear HMK HINV hvb HIH HKZ HNK HNV HC
    go_enter Tryd.func26, Tryd.ntmps26
    go_upto_region 1 with fail
    rw [HW.out]
    (try rw [hG])
    go_wp2_with fail
    go_ret
    first | exact ⟨rfl, hbG⟩ | (rw [← hG] at hbG; exact ⟨rfl, hbG⟩)
  have hx1 := hx
  by_cases hx : k ≤ 7
  rotate_left 1
  · have g0 : 7 < k := by omega
    have hs : rp = false := HINV.out (fun hh => by have hq := hh.1; exact hx hq.a2)
    subst hs
    clear HMK HINV hvb HIH HKZ HNK HNV HC
    go_enter Tryd.func26, Tryd.ntmps26
    go_upto_region 1 with fail
    rw [HW.out]
    (try rw [hG])
    go_wp2_with fail
    go_ret
    first | exact ⟨rfl, hbG⟩ | (rw [← hG] at hbG; exact ⟨rfl, hbG⟩)
  have hk7 : k = 1 ∨ k = 2 ∨ k = 3 ∨ k = 4 ∨ k = 5 ∨ k = 6 ∨ k = 7 := by omega
  clear hx hx1
  rcases hk7 with rfl | rfl | rfl | rfl | rfl | rfl | rfl
  · skip
    by_cases hx : n = 0
    rotate_left 1
    · have g0 : (n != 0) = true := by rw [bne_iff_ne]; exact hx
      have hs : rp = false := HINV.out (fun hh => by have hq := hh.1; exact hx (hq.a3 (by decide)))
      subst hs
      clear HMK HINV hvb HIH HKZ HNK HNV HC
      go_enter Tryd.func26, Tryd.ntmps26
      go_upto_region 1 with fail
      rw [HW.out]
      (try rw [hG])
      go_wp2_with fail
      go_ret
      first | exact ⟨rfl, hbG⟩ | (rw [← hG] at hbG; exact ⟨rfl, hbG⟩)
    subst hx
    by_cases hx : t = ⟨#[]⟩
    rotate_left 1
    · have g0 := text_no hx; have g1 := text_some hx
      have hs : rp = false := HINV.out (fun hh => by have hq := hh.1; exact hx (hq.a6 (by decide)))
      subst hs
      clear HMK HINV hvb HIH HKZ HNK HNV HC
      go_enter Tryd.func26, Tryd.ntmps26
      go_upto_region 1 with fail
      rw [HW.out]
      (try rw [hG])
      go_wp2_with fail
      go_ret
      first | exact ⟨rfl, hbG⟩ | (rw [← hG] at hbG; exact ⟨rfl, hbG⟩)
    subst hx
    obtain rfl : vb = true := by rw [← hvb]; rfl
    by_cases hx : nv = 0
    rotate_left 1
    · have g0 : 0 < (nv : Int) := by omega
      have hs : rp = false := HINV.out (fun hh => by have hq := hh.1; exact hx (hq.a8 (by decide)))
      subst hs
      clear HMK HINV hvb HIH HKZ HNK HNV HC
      go_enter Tryd.func26, Tryd.ntmps26
      go_upto_region 1 with fail
      rw [HW.out]
      (try rw [hG])
      go_wp2_with fail
      refine hv.mono ?_
      rintro e w1 ⟨rfl, hb1⟩
      have hA1 := hA.same (hb1.block G hGl)
      have r0 := hA1.p0
      have r3 := hA1.p3
      have r4 := hA1.p4
      go_wp2_with fail
      go_ret
      first | exact ⟨rfl, hbG.trans (hb1.mono hGs)⟩ | (rw [← hG] at hbG hGs; exact ⟨rfl, hbG.trans (hb1.mono hGs)⟩)
    subst hx
    by_cases hx : nk = 0
    rotate_left 1
    · have g0 : 0 < (nk : Int) := by omega
      have hs : rp = false := HINV.out (fun hh => by have hq := hh.1; exact hx (hq.a9 (by decide)))
      subst hs
      clear HMK HINV hvb HIH HKZ HNK HNV HC
      go_enter Tryd.func26, Tryd.ntmps26
      go_upto_region 1 with fail
      rw [HW.out]
      (try rw [hG])
      go_wp2_with fail
      refine hv.mono ?_
      rintro e w1 ⟨rfl, hb1⟩
      have hA1 := hA.same (hb1.block G hGl)
      have r0 := hA1.p0
      have r3 := hA1.p3
      have r4 := hA1.p4
      go_wp2_with fail
      go_ret
      first | exact ⟨rfl, hbG.trans (hb1.mono hGs)⟩ | (rw [← hG] at hbG hGs; exact ⟨rfl, hbG.trans (hb1.mono hGs)⟩)
    subst hx
    have HHD : Hid (Head dd 1 0 ⟨#[]⟩ 0 0) := Lib.hid ⟨by decide, by decide, fun _ => rfl, by decide, by decide, fun _ => rfl, hvb, fun _ => rfl, fun _ => rfl, fun h => absurd h (by decide), fun h => absurd h (by decide)⟩
    have hs : rp = true := HMK.out HHD.out (fun i h => absurd h (by rw [HNV.out]; exact Nat.not_lt_zero i)) (fun q h => absurd h (by rw [HNK.out]; exact Nat.not_lt_zero q))
    subst hs
    clear HMK HINV hvb HIH HKZ HNK HNV HC HHD
    go_enter Tryd.func26, Tryd.ntmps26
    go_upto_region 1 with fail
    rw [HW.out]
    (try rw [hG])
    go_wp2_with fail
    refine hv.mono ?_
    rintro e w1 ⟨rfl, hb1⟩
    have hA1 := hA.same (hb1.block G hGl)
    have r0 := hA1.p0
    have r3 := hA1.p3
    have r4 := hA1.p4
    go_wp2_with fail
    refine wp_loop_rounds 1 ?_
    rw [rounds_succ]
    go_wp2_with fail
    refine wp_loop_rounds 1 ?_
    rw [rounds_succ]
    go_wp2_with fail
    go_ret
    first | exact ⟨rfl, hbG.trans (hb1.mono hGs)⟩ | (rw [← hG] at hbG hGs; exact ⟨rfl, hbG.trans (hb1.mono hGs)⟩)
  · skip
    by_cases hx : n = 0
    rotate_left 1
    · have g0 : (n != 0) = true := by rw [bne_iff_ne]; exact hx
      have hs : rp = false := HINV.out (fun hh => by have hq := hh.1; exact hx (hq.a3 (by decide)))
      subst hs
      clear HMK HINV hvb HIH HKZ HNK HNV HC
      go_enter Tryd.func26, Tryd.ntmps26
      go_upto_region 1 with fail
      rw [HW.out]
      (try rw [hG])
      go_wp2_with fail
      go_ret
      first | exact ⟨rfl, hbG⟩ | (rw [← hG] at hbG; exact ⟨rfl, hbG⟩)
    subst hx
    by_cases hx : t = ⟨#[]⟩
    rotate_left 1
    · have g0 := text_no hx; have g1 := text_some hx
      have hs : rp = false := HINV.out (fun hh => by have hq := hh.1; exact hx (hq.a6 (by decide)))
      subst hs
      clear HMK HINV hvb HIH HKZ HNK HNV HC
      go_enter Tryd.func26, Tryd.ntmps26
      go_upto_region 1 with fail
      rw [HW.out]
      (try rw [hG])
      go_wp2_with fail
      go_ret
      first | exact ⟨rfl, hbG⟩ | (rw [← hG] at hbG; exact ⟨rfl, hbG⟩)
    subst hx
    obtain rfl : vb = true := by rw [← hvb]; rfl
    by_cases hx : nv = 0
    rotate_left 1
    · have g0 : 0 < (nv : Int) := by omega
      have hs : rp = false := HINV.out (fun hh => by have hq := hh.1; exact hx (hq.a8 (by decide)))
      subst hs
      clear HMK HINV hvb HIH HKZ HNK HNV HC
      go_enter Tryd.func26, Tryd.ntmps26
      go_upto_region 1 with fail
      rw [HW.out]
      (try rw [hG])
      go_wp2_with fail
      refine hv.mono ?_
      rintro e w1 ⟨rfl, hb1⟩
      have hA1 := hA.same (hb1.block G hGl)
      have r0 := hA1.p0
      have r3 := hA1.p3
      have r4 := hA1.p4
      go_wp2_with fail
      go_ret
      first | exact ⟨rfl, hbG.trans (hb1.mono hGs)⟩ | (rw [← hG] at hbG hGs; exact ⟨rfl, hbG.trans (hb1.mono hGs)⟩)
    subst hx
    by_cases hx : nk = 0
    rotate_left 1
    · have g0 : 0 < (nk : Int) := by omega
      have hs : rp = false := HINV.out (fun hh => by have hq := hh.1; exact hx (hq.a9 (by decide)))
      subst hs
      clear HMK HINV hvb HIH HKZ HNK HNV HC
      go_enter Tryd.func26, Tryd.ntmps26
      go_upto_region 1 with fail
      rw [HW.out]
      (try rw [hG])
      go_wp2_with fail
      refine hv.mono ?_
      rintro e w1 ⟨rfl, hb1⟩
      have hA1 := hA.same (hb1.block G hGl)
      have r0 := hA1.p0
      have r3 := hA1.p3
      have r4 := hA1.p4
      go_wp2_with fail
      go_ret
      first | exact ⟨rfl, hbG.trans (hb1.mono hGs)⟩ | (rw [← hG] at hbG hGs; exact ⟨rfl, hbG.trans (hb1.mono hGs)⟩)
    subst hx
    have HHD : Hid (Head dd 2 0 ⟨#[]⟩ 0 0) := Lib.hid ⟨by decide, by decide, fun _ => rfl, by decide, by decide, fun _ => rfl, hvb, fun _ => rfl, fun _ => rfl, fun h => absurd h (by decide), fun h => absurd h (by decide)⟩
    have hs : rp = true := HMK.out HHD.out (fun i h => absurd h (by rw [HNV.out]; exact Nat.not_lt_zero i)) (fun q h => absurd h (by rw [HNK.out]; exact Nat.not_lt_zero q))
    subst hs
    clear HMK HINV hvb HIH HKZ HNK HNV HC HHD
    go_enter Tryd.func26, Tryd.ntmps26
    go_upto_region 1 with fail
    rw [HW.out]
    (try rw [hG])
    go_wp2_with fail
    refine hv.mono ?_
    rintro e w1 ⟨rfl, hb1⟩
    have hA1 := hA.same (hb1.block G hGl)
    have r0 := hA1.p0
    have r3 := hA1.p3
    have r4 := hA1.p4
    go_wp2_with fail
    refine wp_loop_rounds 1 ?_
    rw [rounds_succ]
    go_wp2_with fail
    refine wp_loop_rounds 1 ?_
    rw [rounds_succ]
    go_wp2_with fail
    go_ret
    first | exact ⟨rfl, hbG.trans (hb1.mono hGs)⟩ | (rw [← hG] at hbG hGs; exact ⟨rfl, hbG.trans (hb1.mono hGs)⟩)
  · skip
    by_cases hx : n = 0
    rotate_left 1
    · have g0 : (n != 0) = true := by rw [bne_iff_ne]; exact hx
      have hs : rp = false := HINV.out (fun hh => by have hq := hh.1; exact hx (hq.a3 (by decide)))
      subst hs
      clear HMK HINV hvb HIH HKZ HNK HNV HC
      go_enter Tryd.func26, Tryd.ntmps26
      go_upto_region 1 with fail
      rw [HW.out]
      (try rw [hG])
      go_wp2_with fail
      go_ret
      first | exact ⟨rfl, hbG⟩ | (rw [← hG] at hbG; exact ⟨rfl, hbG⟩)
    subst hx
    by_cases hx : t = ⟨#[]⟩
    rotate_left 1
    · have g0 := text_no hx; have g1 := text_some hx
      have hs : rp = false := HINV.out (fun hh => by have hq := hh.1; exact hx (hq.a6 (by decide)))
      subst hs
      clear HMK HINV hvb HIH HKZ HNK HNV HC
      go_enter Tryd.func26, Tryd.ntmps26
      go_upto_region 1 with fail
      rw [HW.out]
      (try rw [hG])
      go_wp2_with fail
      go_ret
      first | exact ⟨rfl, hbG⟩ | (rw [← hG] at hbG; exact ⟨rfl, hbG⟩)
    subst hx
    obtain rfl : vb = true := by rw [← hvb]; rfl
    by_cases hx : nv = 0
    rotate_left 1
    · have g0 : 0 < (nv : Int) := by omega
      have hs : rp = false := HINV.out (fun hh => by have hq := hh.1; exact hx (hq.a8 (by decide)))
      subst hs
      clear HMK HINV hvb HIH HKZ HNK HNV HC
      go_enter Tryd.func26, Tryd.ntmps26
      go_upto_region 1 with fail
      rw [HW.out]
      (try rw [hG])
      go_wp2_with fail
      refine hv.mono ?_
      rintro e w1 ⟨rfl, hb1⟩
      have hA1 := hA.same (hb1.block G hGl)
      have r0 := hA1.p0
      have r3 := hA1.p3
      have r4 := hA1.p4
      go_wp2_with fail
      go_ret
      first | exact ⟨rfl, hbG.trans (hb1.mono hGs)⟩ | (rw [← hG] at hbG hGs; exact ⟨rfl, hbG.trans (hb1.mono hGs)⟩)
    subst hx
    by_cases hx : nk = 0
    rotate_left 1
    · have g0 : 0 < (nk : Int) := by omega
      have hs : rp = false := HINV.out (fun hh => by have hq := hh.1; exact hx (hq.a9 (by decide)))
      subst hs
      clear HMK HINV hvb HIH HKZ HNK HNV HC
      go_enter Tryd.func26, Tryd.ntmps26
      go_upto_region 1 with fail
      rw [HW.out]
      (try rw [hG])
      go_wp2_with fail
      refine hv.mono ?_
      rintro e w1 ⟨rfl, hb1⟩
      have hA1 := hA.same (hb1.block G hGl)
      have r0 := hA1.p0
      have r3 := hA1.p3
      have r4 := hA1.p4
      go_wp2_with fail
      go_ret
      first | exact ⟨rfl, hbG.trans (hb1.mono hGs)⟩ | (rw [← hG] at hbG hGs; exact ⟨rfl, hbG.trans (hb1.mono hGs)⟩)
    subst hx
    have HHD : Hid (Head dd 3 0 ⟨#[]⟩ 0 0) := Lib.hid ⟨by decide, by decide, fun _ => rfl, by decide, by decide, fun _ => rfl, hvb, fun _ => rfl, fun _ => rfl, fun h => absurd h (by decide), fun h => absurd h (by decide)⟩
    have hs : rp = true := HMK.out HHD.out (fun i h => absurd h (by rw [HNV.out]; exact Nat.not_lt_zero i)) (fun q h => absurd h (by rw [HNK.out]; exact Nat.not_lt_zero q))
    subst hs
    clear HMK HINV hvb HIH HKZ HNK HNV HC HHD
    go_enter Tryd.func26, Tryd.ntmps26
    go_upto_region 1 with fail
    rw [HW.out]
    (try rw [hG])
    go_wp2_with fail
    refine hv.mono ?_
    rintro e w1 ⟨rfl, hb1⟩
    have hA1 := hA.same (hb1.block G hGl)
    have r0 := hA1.p0
    have r3 := hA1.p3
    have r4 := hA1.p4
    go_wp2_with fail
    refine wp_loop_rounds 1 ?_
    rw [rounds_succ]
    go_wp2_with fail
    refine wp_loop_rounds 1 ?_
    rw [rounds_succ]
    go_wp2_with fail
    go_ret
    first | exact ⟨rfl, hbG.trans (hb1.mono hGs)⟩ | (rw [← hG] at hbG hGs; exact ⟨rfl, hbG.trans (hb1.mono hGs)⟩)
  · skip
    by_cases hx : n ≤ 9007199254740991
    rotate_left 1
    · have g0 : 9007199254740991 < n := by omega
      have hs : rp = false := HINV.out (fun hh => by have hq := hh.1; exact hx hq.a4)
      subst hs
      clear HMK HINV hvb HIH HKZ HNK HNV HC
      go_enter Tryd.func26, Tryd.ntmps26
      go_upto_region 1 with fail
      rw [HW.out]
      (try rw [hG])
      go_wp2_with fail
      go_ret
      first | exact ⟨rfl, hbG⟩ | (rw [← hG] at hbG; exact ⟨rfl, hbG⟩)
    have hn1 := hx
    by_cases hx : -9007199254740991 ≤ n
    rotate_left 1
    · have g0 : n < -9007199254740991 := by omega
      have hs : rp = false := HINV.out (fun hh => by have hq := hh.1; exact hx hq.a5)
      subst hs
      clear HMK HINV hvb HIH HKZ HNK HNV HC
      go_enter Tryd.func26, Tryd.ntmps26
      go_upto_region 1 with fail
      rw [HW.out]
      (try rw [hG])
      go_wp2_with fail
      go_ret
      first | exact ⟨rfl, hbG⟩ | (rw [← hG] at hbG; exact ⟨rfl, hbG⟩)
    have hn2 := hx
    by_cases hx : t = ⟨#[]⟩
    rotate_left 1
    · have g0 := text_no hx; have g1 := text_some hx
      have hs : rp = false := HINV.out (fun hh => by have hq := hh.1; exact hx (hq.a6 (by decide)))
      subst hs
      clear HMK HINV hvb HIH HKZ HNK HNV HC
      go_enter Tryd.func26, Tryd.ntmps26
      go_upto_region 1 with fail
      rw [HW.out]
      (try rw [hG])
      go_wp2_with fail
      go_ret
      first | exact ⟨rfl, hbG⟩ | (rw [← hG] at hbG; exact ⟨rfl, hbG⟩)
    subst hx
    obtain rfl : vb = true := by rw [← hvb]; rfl
    by_cases hx : nv = 0
    rotate_left 1
    · have g0 : 0 < (nv : Int) := by omega
      have hs : rp = false := HINV.out (fun hh => by have hq := hh.1; exact hx (hq.a8 (by decide)))
      subst hs
      clear HMK HINV hvb HIH HKZ HNK HNV HC
      go_enter Tryd.func26, Tryd.ntmps26
      go_upto_region 1 with fail
      rw [HW.out]
      (try rw [hG])
      go_wp2_with fail
      refine hv.mono ?_
      rintro e w1 ⟨rfl, hb1⟩
      have hA1 := hA.same (hb1.block G hGl)
      have r0 := hA1.p0
      have r3 := hA1.p3
      have r4 := hA1.p4
      go_wp2_with fail
      go_ret
      first | exact ⟨rfl, hbG.trans (hb1.mono hGs)⟩ | (rw [← hG] at hbG hGs; exact ⟨rfl, hbG.trans (hb1.mono hGs)⟩)
    subst hx
    by_cases hx : nk = 0
    rotate_left 1
    · have g0 : 0 < (nk : Int) := by omega
      have hs : rp = false := HINV.out (fun hh => by have hq := hh.1; exact hx (hq.a9 (by decide)))
      subst hs
      clear HMK HINV hvb HIH HKZ HNK HNV HC
      go_enter Tryd.func26, Tryd.ntmps26
      go_upto_region 1 with fail
      rw [HW.out]
      (try rw [hG])
      go_wp2_with fail
      refine hv.mono ?_
      rintro e w1 ⟨rfl, hb1⟩
      have hA1 := hA.same (hb1.block G hGl)
      have r0 := hA1.p0
      have r3 := hA1.p3
      have r4 := hA1.p4
      go_wp2_with fail
      go_ret
      first | exact ⟨rfl, hbG.trans (hb1.mono hGs)⟩ | (rw [← hG] at hbG hGs; exact ⟨rfl, hbG.trans (hb1.mono hGs)⟩)
    subst hx
    have HHD : Hid (Head dd 4 n ⟨#[]⟩ 0 0) := Lib.hid ⟨by decide, by decide, fun h => absurd rfl h, hn1, hn2, fun _ => rfl, hvb, fun _ => rfl, fun _ => rfl, fun h => absurd h (by decide), fun h => absurd h (by decide)⟩
    have hs : rp = true := HMK.out HHD.out (fun i h => absurd h (by rw [HNV.out]; exact Nat.not_lt_zero i)) (fun q h => absurd h (by rw [HNK.out]; exact Nat.not_lt_zero q))
    subst hs
    clear HMK HINV hvb HIH HKZ HNK HNV HC HHD
    go_enter Tryd.func26, Tryd.ntmps26
    go_upto_region 1 with fail
    rw [HW.out]
    (try rw [hG])
    go_wp2_with fail
    refine hv.mono ?_
    rintro e w1 ⟨rfl, hb1⟩
    have hA1 := hA.same (hb1.block G hGl)
    have r0 := hA1.p0
    have r3 := hA1.p3
    have r4 := hA1.p4
    go_wp2_with fail
    refine wp_loop_rounds 1 ?_
    rw [rounds_succ]
    go_wp2_with fail
    refine wp_loop_rounds 1 ?_
    rw [rounds_succ]
    go_wp2_with fail
    go_ret
    first | exact ⟨rfl, hbG.trans (hb1.mono hGs)⟩ | (rw [← hG] at hbG hGs; exact ⟨rfl, hbG.trans (hb1.mono hGs)⟩)
  · skip
    by_cases hx : n = 0
    rotate_left 1
    · have g0 : (n != 0) = true := by rw [bne_iff_ne]; exact hx
      have hs : rp = false := HINV.out (fun hh => by have hq := hh.1; exact hx (hq.a3 (by decide)))
      subst hs
      clear HMK HINV hvb HIH HKZ HNK HNV HC
      go_enter Tryd.func26, Tryd.ntmps26
      go_upto_region 1 with fail
      rw [HW.out]
      (try rw [hG])
      go_wp2_with fail
      go_ret
      first | exact ⟨rfl, hbG⟩ | (rw [← hG] at hbG; exact ⟨rfl, hbG⟩)
    subst hx
    cases vb
    · skip
      have hs : rp = false := HINV.out (fun hh => by have hq := hh.1; exact absurd (hvb.symm.trans hq.a7) (by decide))
      subst hs
      clear HMK HINV hvb HIH HKZ HNK HNV HC
      go_enter Tryd.func26, Tryd.ntmps26
      go_upto_region 1 with fail
      rw [HW.out]
      (try rw [hG])
      go_wp2_with fail
      refine hv.mono ?_
      rintro e w1 ⟨rfl, hb1⟩
      have hA1 := hA.same (hb1.block G hGl)
      have r0 := hA1.p0
      have r3 := hA1.p3
      have r4 := hA1.p4
      go_wp2_with fail
      go_ret
      first | exact ⟨rfl, hbG.trans (hb1.mono hGs)⟩ | (rw [← hG] at hbG hGs; exact ⟨rfl, hbG.trans (hb1.mono hGs)⟩)
    by_cases hx : nv = 0
    rotate_left 1
    · have g0 : 0 < (nv : Int) := by omega
      have hs : rp = false := HINV.out (fun hh => by have hq := hh.1; exact hx (hq.a8 (by decide)))
      subst hs
      clear HMK HINV hvb HIH HKZ HNK HNV HC
      go_enter Tryd.func26, Tryd.ntmps26
      go_upto_region 1 with fail
      rw [HW.out]
      (try rw [hG])
      go_wp2_with fail
      refine hv.mono ?_
      rintro e w1 ⟨rfl, hb1⟩
      have hA1 := hA.same (hb1.block G hGl)
      have r0 := hA1.p0
      have r3 := hA1.p3
      have r4 := hA1.p4
      go_wp2_with fail
      go_ret
      first | exact ⟨rfl, hbG.trans (hb1.mono hGs)⟩ | (rw [← hG] at hbG hGs; exact ⟨rfl, hbG.trans (hb1.mono hGs)⟩)
    subst hx
    by_cases hx : nk = 0
    rotate_left 1
    · have g0 : 0 < (nk : Int) := by omega
      have hs : rp = false := HINV.out (fun hh => by have hq := hh.1; exact hx (hq.a9 (by decide)))
      subst hs
      clear HMK HINV hvb HIH HKZ HNK HNV HC
      go_enter Tryd.func26, Tryd.ntmps26
      go_upto_region 1 with fail
      rw [HW.out]
      (try rw [hG])
      go_wp2_with fail
      refine hv.mono ?_
      rintro e w1 ⟨rfl, hb1⟩
      have hA1 := hA.same (hb1.block G hGl)
      have r0 := hA1.p0
      have r3 := hA1.p3
      have r4 := hA1.p4
      go_wp2_with fail
      go_ret
      first | exact ⟨rfl, hbG.trans (hb1.mono hGs)⟩ | (rw [← hG] at hbG hGs; exact ⟨rfl, hbG.trans (hb1.mono hGs)⟩)
    subst hx
    have HHD : Hid (Head dd 5 0 t 0 0) := Lib.hid ⟨by decide, by decide, fun _ => rfl, by decide, by decide, fun h => absurd rfl h, hvb, fun _ => rfl, fun _ => rfl, fun h => absurd h (by decide), fun h => absurd h (by decide)⟩
    have hs : rp = true := HMK.out HHD.out (fun i h => absurd h (by rw [HNV.out]; exact Nat.not_lt_zero i)) (fun q h => absurd h (by rw [HNK.out]; exact Nat.not_lt_zero q))
    subst hs
    clear HMK HINV hvb HIH HKZ HNK HNV HC HHD
    go_enter Tryd.func26, Tryd.ntmps26
    go_upto_region 1 with fail
    rw [HW.out]
    (try rw [hG])
    go_wp2_with fail
    refine hv.mono ?_
    rintro e w1 ⟨rfl, hb1⟩
    have hA1 := hA.same (hb1.block G hGl)
    have r0 := hA1.p0
    have r3 := hA1.p3
    have r4 := hA1.p4
    go_wp2_with fail
    refine wp_loop_rounds 1 ?_
    rw [rounds_succ]
    go_wp2_with fail
    refine wp_loop_rounds 1 ?_
    rw [rounds_succ]
    go_wp2_with fail
    go_ret
    first | exact ⟨rfl, hbG.trans (hb1.mono hGs)⟩ | (rw [← hG] at hbG hGs; exact ⟨rfl, hbG.trans (hb1.mono hGs)⟩)
  · skip
    by_cases hx : n = 0
    rotate_left 1
    · have g0 : (n != 0) = true := by rw [bne_iff_ne]; exact hx
      have hs : rp = false := HINV.out (fun hh => by have hq := hh.1; exact hx (hq.a3 (by decide)))
      subst hs
      clear HMK HINV hvb HIH HKZ HNK HNV HC
      go_enter Tryd.func26, Tryd.ntmps26
      go_upto_region 1 with fail
      rw [HW.out]
      (try rw [hG])
      go_wp2_with fail
      go_ret
      first | exact ⟨rfl, hbG⟩ | (rw [← hG] at hbG; exact ⟨rfl, hbG⟩)
    subst hx
    by_cases hx : t = ⟨#[]⟩
    rotate_left 1
    · have g0 := text_no hx; have g1 := text_some hx
      have hs : rp = false := HINV.out (fun hh => by have hq := hh.1; exact hx (hq.a6 (by decide)))
      subst hs
      clear HMK HINV hvb HIH HKZ HNK HNV HC
      go_enter Tryd.func26, Tryd.ntmps26
      go_upto_region 1 with fail
      rw [HW.out]
      (try rw [hG])
      go_wp2_with fail
      go_ret
      first | exact ⟨rfl, hbG⟩ | (rw [← hG] at hbG; exact ⟨rfl, hbG⟩)
    subst hx
    obtain rfl : vb = true := by rw [← hvb]; rfl
    by_cases hx : nk = 0
    rotate_left 1
    · have g0 : 0 < (nk : Int) := by omega
      have hs : rp = false := HINV.out (fun hh => by have hq := hh.1; exact hx (hq.a9 (by decide)))
      subst hs
      clear HMK HINV hvb HIH HKZ HNK HNV HC
      go_enter Tryd.func26, Tryd.ntmps26
      go_upto_region 1 with fail
      rw [HW.out]
      (try rw [hG])
      go_wp2_with fail
      refine hv.mono ?_
      rintro e w1 ⟨rfl, hb1⟩
      have hA1 := hA.same (hb1.block G hGl)
      have r0 := hA1.p0
      have r3 := hA1.p3
      have r4 := hA1.p4
      go_wp2_with fail
      go_ret
      first | exact ⟨rfl, hbG.trans (hb1.mono hGs)⟩ | (rw [← hG] at hbG hGs; exact ⟨rfl, hbG.trans (hb1.mono hGs)⟩)
    subst hx
    by_cases hx : dd < 24
    rotate_left 1
    · have g0 : 24 ≤ (dd : Int) := by omega
      have hs : rp = false := HINV.out (fun hh => by have hq := hh.1; exact hx (hq.a11 (by decide)))
      subst hs
      clear HMK HINV hvb HIH HKZ HNK HNV HC
      go_enter Tryd.func26, Tryd.ntmps26
      go_upto_region 1 with fail
      rw [HW.out]
      (try rw [hG])
      go_wp2_with fail
      refine hv.mono ?_
      rintro e w1 ⟨rfl, hb1⟩
      have hA1 := hA.same (hb1.block G hGl)
      have r0 := hA1.p0
      have r3 := hA1.p3
      have r4 := hA1.p4
      go_wp2_with fail
      go_ret
      first | exact ⟨rfl, hbG.trans (hb1.mono hGs)⟩ | (rw [← hG] at hbG hGs; exact ⟨rfl, hbG.trans (hb1.mono hGs)⟩)
    have g24 : (dd : Int) < 24 := by omega
    have HDD := Lib.hid hx
    clear hx
    have HHD : Hid (Head dd 6 0 ⟨#[]⟩ 0 nv) := Lib.hid ⟨by decide, by decide, fun _ => rfl, by decide, by decide, fun _ => rfl, hvb, fun h => absurd h (by decide), fun _ => rfl, fun h => absurd h (by decide), fun _ => HDD.out⟩
    have HKF : Hid (KeysFine a.keys) := Lib.hid (fun q h => absurd h (by rw [HNK.out]; exact Nat.not_lt_zero q))
    clear hvb
    go_enter Tryd.func26, Tryd.ntmps26
    go_upto_region 1 with fail
    rw [HW.out]
    (try rw [hG])
    go_wp2_with fail
    refine hv.mono ?_
    rintro e w1 ⟨rfl, hb1⟩
    have hA1 := hA.same (hb1.block G hGl)
    have r0 := hA1.p0
    have r3 := hA1.p3
    have r4 := hA1.p4
    go_wp2_with fail
    clear p0 p1 p2 hv r0
    go_loopg [5] nv (fun m v wr => ∃ i : Nat, m = nv - i ∧ v = .int .i64 i ∧ i ≤ nv ∧ Below W.heap.size W wr ∧ Hid (∀ z (h1 : z < a.kids.length), z < i → RightIn (dd + 1) a.kids[z]))
    case atStart => exact ⟨0, rfl, rfl, Nat.zero_le _, hb1, Lib.hid (fun z _ h => absurd h (Nat.not_lt_zero z))⟩
    case round =>
      clear hA1 r3 r4 hb1
      obtain ⟨i, rfl, rfl, hi, hb, HK⟩ := hrel
      have hA2 := hA.same (hb.block G hGl)
      have r3 := hA2.p3
      have q4 := hA2.p4
      by_cases hlt : i < nv
      · have hlt2 : i < a.kids.length := by rw [HNV.out]; exact hlt
        have gi : (i : Int) < nv := by omega
        obtain ⟨g, ov, x0, x1, x2, x3, x4, e1, s0, s1, s2, s3, s4, hx⟩ := kids_at8 (node_below hb HC.out) i hlt2
        rw [e1] at q4
        have hright := HIH.out i hlt2 (dd + 1) wr x0 x1 x2 x3 x4 (by omega) hx
        rw [show ((dd + 1 : Nat) : Int) = (dd : Int) + 1 by omega] at hright
        clear e1 hx
        by_cases hrt : RightIn (dd + 1) a.kids[i]
        · rw [rightP_yes hrt] at hright
          have HK2 : Hid (∀ z (h1 : z < a.kids.length), z < i + 1 → RightIn (dd + 1) a.kids[z]) := Lib.hid (fun z z1 hz => by
            rcases Nat.lt_or_ge z i with h | h
            · exact HK.out z z1 h
            · obtain rfl : z = i := by omega
              exact hrt)
          clear hrt HK
          go_wp2_with fail
          refine hright.mono ?_
          rintro e w2 ⟨rfl, hb2⟩
          go_wp2_with fail
          go_roundg (nv - (i + 1))
          case measure => omega
          case rel => exact ⟨i + 1, rfl, by go_num, by omega, hb.trans (hb2.mono hb.size), HK2⟩
        · rw [rightP_no hrt] at hright
          have hs : rp = false := HINV.out (fun hh => hrt (hh.2.1 i hlt2))
          subst hs
          clear HMK HINV hrt HK
          go_wp2_with fail
          refine hright.mono ?_
          rintro e w2 ⟨rfl, hb2⟩
          have hb3 := hb.trans (hb2.mono hb.size)
          go_wp2_with fail
          go_ret
          first | exact ⟨rfl, hbG.trans (hb3.mono hGs)⟩ | (rw [← hG] at hbG hGs; exact ⟨rfl, hbG.trans (hb3.mono hGs)⟩)
      · have gi : decide ((i : Int) < (nv : Int)) = false := by rw [decide_eq_false_iff_not]; omega
        have HKS : Hid (∀ i (h : i < a.kids.length), RightIn (dd + 1) a.kids[i]) := Lib.hid (fun z z1 => HK.out z z1 (by have := HNV.out; omega))
        have hs : rp = true := HMK.out HHD.out HKS.out HKF.out
        subst hs
        clear HMK HINV HHD HKS HK
        go_wp2_with fail
        refine wp_loop_rounds 1 ?_
        rw [rounds_succ]
        go_wp2_with fail
        go_ret
        first | exact ⟨rfl, hbG.trans (hb.mono hGs)⟩ | (rw [← hG] at hbG hGs; exact ⟨rfl, hbG.trans (hb.mono hGs)⟩)
  · skip
    by_cases hx : n = 0
    rotate_left 1
    · have g0 : (n != 0) = true := by rw [bne_iff_ne]; exact hx
      have hs : rp = false := HINV.out (fun hh => by have hq := hh.1; exact hx (hq.a3 (by decide)))
      subst hs
      clear HMK HINV hvb HIH HKZ HNK HNV HC
      go_enter Tryd.func26, Tryd.ntmps26
      go_upto_region 1 with fail
      rw [HW.out]
      (try rw [hG])
      go_wp2_with fail
      go_ret
      first | exact ⟨rfl, hbG⟩ | (rw [← hG] at hbG; exact ⟨rfl, hbG⟩)
    subst hx
    by_cases hx : t = ⟨#[]⟩
    rotate_left 1
    · have g0 := text_no hx; have g1 := text_some hx
      have hs : rp = false := HINV.out (fun hh => by have hq := hh.1; exact hx (hq.a6 (by decide)))
      subst hs
      clear HMK HINV hvb HIH HKZ HNK HNV HC
      go_enter Tryd.func26, Tryd.ntmps26
      go_upto_region 1 with fail
      rw [HW.out]
      (try rw [hG])
      go_wp2_with fail
      go_ret
      first | exact ⟨rfl, hbG⟩ | (rw [← hG] at hbG; exact ⟨rfl, hbG⟩)
    subst hx
    obtain rfl : vb = true := by rw [← hvb]; rfl
    by_cases hx : nk = nv
    rotate_left 1
    · have g0 : ((nk : Int) != (nv : Int)) = true := by rw [bne_iff_ne]; omega
      have hs : rp = false := HINV.out (fun hh => by have hq := hh.1; exact hx (hq.a10 rfl))
      subst hs
      clear HMK HINV hvb HIH HKZ HNK HNV HC
      go_enter Tryd.func26, Tryd.ntmps26
      go_upto_region 1 with fail
      rw [HW.out]
      (try rw [hG])
      go_wp2_with fail
      refine hv.mono ?_
      rintro e w1 ⟨rfl, hb1⟩
      have hA1 := hA.same (hb1.block G hGl)
      have r0 := hA1.p0
      have r3 := hA1.p3
      have r4 := hA1.p4
      go_wp2_with fail
      go_ret
      first | exact ⟨rfl, hbG.trans (hb1.mono hGs)⟩ | (rw [← hG] at hbG hGs; exact ⟨rfl, hbG.trans (hb1.mono hGs)⟩)
    subst hx
    by_cases hx : dd < 24
    rotate_left 1
    · have g0 : 24 ≤ (dd : Int) := by omega
      have hs : rp = false := HINV.out (fun hh => by have hq := hh.1; exact hx (hq.a11 (by decide)))
      subst hs
      clear HMK HINV hvb HIH HKZ HNK HNV HC
      go_enter Tryd.func26, Tryd.ntmps26
      go_upto_region 1 with fail
      rw [HW.out]
      (try rw [hG])
      go_wp2_with fail
      refine hv.mono ?_
      rintro e w1 ⟨rfl, hb1⟩
      have hA1 := hA.same (hb1.block G hGl)
      have r0 := hA1.p0
      have r3 := hA1.p3
      have r4 := hA1.p4
      go_wp2_with fail
      go_ret
      first | exact ⟨rfl, hbG.trans (hb1.mono hGs)⟩ | (rw [← hG] at hbG hGs; exact ⟨rfl, hbG.trans (hb1.mono hGs)⟩)
    have g24 : (dd : Int) < 24 := by omega
    have HDD := Lib.hid hx
    clear hx
    have HHD : Hid (Head dd 7 0 ⟨#[]⟩ nk nk) := Lib.hid ⟨by decide, by decide, fun _ => rfl, by decide, by decide, fun _ => rfl, hvb, fun h => absurd h (by decide), fun h => absurd rfl h, fun _ => rfl, fun _ => HDD.out⟩
    clear hvb
    go_enter Tryd.func26, Tryd.ntmps26
    go_upto_region 1 with fail
    rw [HW.out]
    (try rw [hG])
    go_wp2_with fail
    refine hv.mono ?_
    rintro e w1 ⟨rfl, hb1⟩
    have hA1 := hA.same (hb1.block G hGl)
    have r0 := hA1.p0
    have r3 := hA1.p3
    have r4 := hA1.p4
    go_wp2_with fail
    clear p0 p1 p2 hv r0
    go_loopg [5] nk (fun m v wr => ∃ i : Nat, m = nk - i ∧ v = .int .i64 i ∧ i ≤ nk ∧ Below W.heap.size W wr ∧ Hid (∀ z (h1 : z < a.kids.length), z < i → RightIn (dd + 1) a.kids[z]))
    case atStart => exact ⟨0, rfl, rfl, Nat.zero_le _, hb1, Lib.hid (fun z _ h => absurd h (Nat.not_lt_zero z))⟩
    case round =>
      clear hA1 r3 r4 hb1
      obtain ⟨i, rfl, rfl, hi, hb, HK⟩ := hrel
      have hA2 := hA.same (hb.block G hGl)
      have r3 := hA2.p3
      have q4 := hA2.p4
      by_cases hlt : i < nk
      · have hlt2 : i < a.kids.length := by rw [HNV.out]; exact hlt
        have gi : (i : Int) < nk := by omega
        obtain ⟨g, ov, x0, x1, x2, x3, x4, e1, s0, s1, s2, s3, s4, hx⟩ := kids_at8 (node_below hb HC.out) i hlt2
        rw [e1] at q4
        have hright := HIH.out i hlt2 (dd + 1) wr x0 x1 x2 x3 x4 (by omega) hx
        rw [show ((dd + 1 : Nat) : Int) = (dd : Int) + 1 by omega] at hright
        clear e1 hx
        by_cases hrt : RightIn (dd + 1) a.kids[i]
        · rw [rightP_yes hrt] at hright
          have HK2 : Hid (∀ z (h1 : z < a.kids.length), z < i + 1 → RightIn (dd + 1) a.kids[z]) := Lib.hid (fun z z1 hz => by
            rcases Nat.lt_or_ge z i with h | h
            · exact HK.out z z1 h
            · obtain rfl : z = i := by omega
              exact hrt)
          clear hrt HK
          go_wp2_with fail
          refine hright.mono ?_
          rintro e w2 ⟨rfl, hb2⟩
          go_wp2_with fail
          go_roundg (nk - (i + 1))
          case measure => omega
          case rel => exact ⟨i + 1, rfl, by go_num, by omega, hb.trans (hb2.mono hb.size), HK2⟩
        · rw [rightP_no hrt] at hright
          have hs : rp = false := HINV.out (fun hh => hrt (hh.2.1 i hlt2))
          subst hs
          clear HMK HINV hrt HK
          go_wp2_with fail
          refine hright.mono ?_
          rintro e w2 ⟨rfl, hb2⟩
          have hb3 := hb.trans (hb2.mono hb.size)
          go_wp2_with fail
          go_ret
          first | exact ⟨rfl, hbG.trans (hb3.mono hGs)⟩ | (rw [← hG] at hbG hGs; exact ⟨rfl, hbG.trans (hb3.mono hGs)⟩)
      · have gi : decide ((i : Int) < (nk : Int)) = false := by rw [decide_eq_false_iff_not]; omega
        have HKS : Hid (∀ i (h : i < a.kids.length), RightIn (dd + 1) a.kids[i]) := Lib.hid (fun z z1 => HK.out z z1 (by have := HNV.out; omega))
        go_wp2_with fail
        clear gi hlt hi HK hwr
        go_loopg [6, 7] nk (fun m v _ wr => ∃ q : Nat, m = nk - q ∧ v = .int .i64 q ∧ q ≤ nk ∧ Below W.heap.size W wr ∧ Hid (∀ z (h : z < a.keys.length), z < q → U8.validL a.keys[z].data.toList = true ∧ ∀ y (hy : y < z), a.keys[y] ≠ a.keys[z]))
        case atStart => exact ⟨0, rfl, rfl, Nat.zero_le _, hb, Lib.hid (fun z _ h => absurd h (Nat.not_lt_zero z))⟩
        case round =>
          clear hA2 r3 q4 hb
          obtain ⟨q, rfl, rfl, hq, hb, HF⟩ := hrel
          have hA2 := hA.same (hb.block G hGl)
          have r3 := hA2.p3
          have r3b := hA2.p3
          by_cases hlt : q < nk
          · have hltk : q < a.keys.length := by rw [HNK.out]; exact hlt
            have gq : (q : Int) < nk := by omega
            obtain ⟨kg, ko, ke, kt⟩ := keys_at (node_below hb HC.out) q hltk
            rw [ke] at r3
            have hval := U8.rvalid_any a.keys[q] (by have := HKZ.out q hltk; omega) wr
            obtain ⟨kb, hkb⟩ : ∃ kb, a.keys[q] = kb := ⟨_, rfl⟩
            rw [hkb] at kt hval
            have HKE := Lib.hid hkb
            have HKG := Lib.hid ke
            clear hkb r3b ke
            obtain ⟨vk, hvk⟩ : ∃ vk, U8.validL kb.data.toList = vk := ⟨_, rfl⟩
            rw [hvk] at hval
            have HVK := Lib.hid hvk
            clear hvk
            cases vk
            · have hs : rp = false := HINV.out (fun hh => by have h9 := (hh.2.2 q hltk).1; rw [HKE.out, HVK.out] at h9; exact absurd h9 (by decide))
              subst hs
              clear HMK HINV
              go_wp2_with fail
              refine hval.mono ?_
              rintro e w3 ⟨rfl, hb3⟩
              have hb4 := hb.trans (hb3.mono hb.size)
              go_wp2_with fail
              go_ret
              first | exact ⟨rfl, hbG.trans (hb4.mono hGs)⟩ | (rw [← hG] at hbG hGs; exact ⟨rfl, hbG.trans (hb4.mono hGs)⟩)
            go_wp2_with fail
            refine hval.mono ?_
            rintro e w3 ⟨rfl, hb3⟩
            have hb4 := hb.trans (hb3.mono hb.size)
            go_wp2_with fail
            go_loopg [7] q (fun m v wr => ∃ y : Nat, m = q - y ∧ v = .int .i64 y ∧ y ≤ q ∧ Below W.heap.size W wr ∧ Hid (∀ z (h : z < a.keys.length), z < y → a.keys[z] ≠ kb))
            case atStart => exact ⟨0, rfl, rfl, Nat.zero_le _, hb4, Lib.hid (fun z _ h => absurd h (Nat.not_lt_zero z))⟩
            case round =>
              clear hA2 r3 hb hb3 hb4 kt hval
              obtain ⟨y, rfl, rfl, hy, hb, HY⟩ := hrel
              have hA2 := hA.same (hb.block G hGl)
              have r3 := hA2.p3
              by_cases hlty : y < q
              · have gy : (y : Int) < q := by omega
                have hly : y < a.keys.length := by omega
                obtain ⟨zg, zo, ze, kq⟩ := keys_at (node_below hb HC.out) q hltk
                obtain ⟨yg, yo, ye, ky⟩ := keys_at (node_below hb HC.out) y hly
                rw [ze] at ye r3
                injection ye with ye1
                injection ye1 with yea yeb _
                subst yea yeb
                rw [HKE.out] at kq
                obtain ⟨kx, hkx⟩ : ∃ kx, a.keys[y] = kx := ⟨_, rfl⟩
                rw [hkx] at ky
                clear ze
                by_cases heq : kx = kb
                · have hs : rp = false := HINV.out (fun hh => (hh.2.2 q hltk).2 y hlty (by rw [hkx, HKE.out, heq]))
                  subst hs
                  have hne := text_yes heq
                  clear HMK HINV heq hkx HY
                  go_wp2_with fail
                  go_quiet (fail)
                  go_wp2_with fail
                  go_ret
                  first | exact ⟨rfl, hbG.trans ((bdn hb _).mono hGs)⟩ | (rw [← hG] at hbG hGs; exact ⟨rfl, hbG.trans ((bdn hb _).mono hGs)⟩)
                have hne := text_no heq
                have HY2 : Hid (∀ z (h : z < a.keys.length), z < y + 1 → a.keys[z] ≠ kb) := Lib.hid (fun z z1 hz => by
                  rcases Nat.lt_or_ge z y with h | h
                  · exact HY.out z z1 h
                  · obtain rfl : z = y := by omega
                    rw [hkx]; exact heq)
                clear heq hkx HY
                go_wp2_with fail
                go_quiet (fail)
                go_wp2_with fail
                go_roundg (q - (y + 1))
                case measure => omega
                case rel => exact ⟨y + 1, rfl, by go_num, by omega, bdn hb _, HY2⟩
              · have gy : decide ((y : Int) < (q : Int)) = false := by rw [decide_eq_false_iff_not]; omega
                have HF2 : Hid (∀ z (h : z < a.keys.length), z < q + 1 → U8.validL a.keys[z].data.toList = true ∧ ∀ y (hy : y < z), a.keys[y] ≠ a.keys[z]) := Lib.hid (fun z z1 hz => by
                  rcases Nat.lt_or_ge z q with h | h
                  · exact HF.out z z1 h
                  · obtain rfl : z = q := by omega
                    refine ⟨by rw [HKE.out]; exact HVK.out, fun y2 hy2 => ?_⟩
                    rw [HKE.out]
                    exact HY.out y2 (by omega) (by omega))
                clear HF HY
                go_wp2_with fail
                go_roundg (nk - (q + 1))
                case measure => omega
                case rel => exact ⟨q + 1, rfl, by go_num, by omega, hb, HF2⟩
          · have gq : decide ((q : Int) < (nk : Int)) = false := by rw [decide_eq_false_iff_not]; omega
            have hs : rp = true := HMK.out HHD.out HKS.out (fun z z1 => HF.out z z1 (by have := HNK.out; omega))
            subst hs
            clear HMK HINV
            go_wp2_with fail
            go_ret
            first | exact ⟨rfl, hbG.trans (hb.mono hGs)⟩ | (rw [← hG] at hbG hGs; exact ⟨rfl, hbG.trans (hb.mono hGs)⟩)
theorem right_in (a : J) (h : Tame a) : RightIs a := by
  induction h with
  | mk k n t keys kids hk hv ht hks _ ih => exact right_step _ (fun i hi => ih i hi) (by show keys.length ≤ 1000000; omega) (by show kids.length ≤ 1000000; omega) ht hks
end Go.Proofs.YtoofcclcimkipaaDoor.J8
