/-
  The law PointSigns returns true, of any number. Condition: the library's tables and errors read as its text lays them.
-/
import Derived.Test.YtoofcclcimkipaaDoorP9Gets
namespace Go.Proofs.YtoofcclcimkipaaDoor.J9
open Go Go.RowKit Go.Joins Kit J7 Nds J8

def sgA : ByteArray := ⟨#[97, 47, 98]⟩
def sgB : ByteArray := ⟨#[126]⟩
def sgC : ByteArray := ⟨#[]⟩
def sgD : ByteArray := ⟨#[42]⟩
def sgJ (n : Int) : J := objK [sgA, sgB, sgC, sgD] [numJ n, numJ 2, numJ 3, numJ 4]
theorem sg_kids {n : Int} {P : J → Prop} (h : ∀ v, v = n ∨ v = 2 ∨ v = 3 ∨ v = 4 → P (numJ v)) : ∀ k ∈ [numJ n, numJ 2, numJ 3, numJ 4], P k := fun k hk => by
  simp only [List.mem_cons, List.not_mem_nil, or_false] at hk
  rcases hk with rfl | rfl | rfl | rfl
  · exact h n (Or.inl rfl)
  · exact h 2 (Or.inr (Or.inl rfl))
  · exact h 3 (Or.inr (Or.inr (Or.inl rfl)))
  · exact h 4 (Or.inr (Or.inr (Or.inr rfl)))
theorem sg_keys : KeysFine [sgA, sgB, sgC, sgD] := by
  unfold KeysFine
  decide
theorem sg_right {n : Int} (h0 : -32768 ≤ n) (h1 : n ≤ 32767) : RightIn 0 (sgJ n) := right_objK (by decide) rfl sg_keys (sg_kids (fun v hv => right_num (by omega) (by omega)))
theorem sg_tame (n : Int) : Tame (sgJ n) := tame_objK (by decide) (fun k hk => by
  simp only [List.mem_cons, List.not_mem_nil, or_false] at hk
  rcases hk with rfl | rfl | rfl | rfl <;> decide) (by show 4 ≤ 65536; decide) (sg_kids (fun v _ => tame_num v))
theorem sg_cnt (n : Int) : cnt (sgJ n) ≤ 2000 := by
  unfold sgJ objK numJ
  simp only [cnt, cnts]
  decide
theorem sg_point {n v : Int} (h0 : -32768 ≤ n) (h1 : n ≤ 32767) {x key : ByteArray} {i : Nat} (hx : x.data.toList = pathL [key]) (hz : x.size ≤ 1000) (hf : J8.Found (sgJ n) key i) (hv : (sgJ n).kids[i]'hf.hv = numJ v) : pointP (sgJ n) x = (.mk 4 v ⟨#[]⟩ [] [], 0) := by
  refine point_0 (rightP_yes (sg_right h0 h1)) (partsP_path hx hz) ?_
  rw [follow_key hf, followP, hv]
  rfl
theorem sg_found (n : Int) {key : ByteArray} {i : Nat} (hi : i < 4) (he : [sgA, sgB, sgC, sgD][i]'hi = key) (hm : ∀ j (h : j < i), [sgA, sgB, sgC, sgD][j]'(Nat.lt_trans h hi) ≠ key) : J8.Found (sgJ n) key i := ⟨rfl, hi, hi, he, hm⟩
theorem sg_fA (n : Int) : J8.Found (sgJ n) sgA 0 := sg_found n (by decide) rfl (fun j h => absurd h (Nat.not_lt_zero j))
theorem sg_fB (n : Int) : J8.Found (sgJ n) sgB 1 := sg_found n (by decide) rfl (by decide)
theorem sg_fC (n : Int) : J8.Found (sgJ n) sgC 2 := sg_found n (by decide) rfl (by decide)
theorem sg_fD (n : Int) : J8.Found (sgJ n) sgD 3 := sg_found n (by decide) rfl (by decide)

set_option maxHeartbeats 8000000 in
set_option maxRecDepth 100000 in
theorem pointSigns_walk (n : Int) (h0 : -32768 ≤ n) (h1 : n ≤ 32767) (w : World) (hE : EnvP w) :
    Calls Tryd.prog 7 #[.int .i16 n] w fun e w' => e = .returned (.bool true) ∧ Below w.heap.size w w' := by
  have HP0 := Lib.hid (sg_point (v := n) (x := ⟨#[47, 97, 126, 49, 98]⟩) h0 h1 rfl (by decide) (sg_fA n) rfl)
  have HP1 := Lib.hid (sg_point (v := 2) (x := ⟨#[47, 126, 48]⟩) h0 h1 rfl (by decide) (sg_fB n) rfl)
  have HP2 := Lib.hid (sg_point (v := 3) (x := ⟨#[47]⟩) h0 h1 rfl (by decide) (sg_fC n) rfl)
  have HP3 := Lib.hid (sg_point (v := 4) (x := ⟨#[47, 42]⟩) h0 h1 rfl (by decide) (sg_fD n) rfl)
  have HT := Lib.hid (sg_tame n)
  have HCN := Lib.hid (sg_cnt n)
  have hb1 : Below w.heap.size w (w.alloc (.cells #[.string ⟨#[97, 47, 98]⟩, .string ⟨#[126]⟩, .string ⟨#[]⟩, .string ⟨#[42]⟩] 9)) := (Below.refl _ w).alloc (Nat.le_refl _) _
  have HB1 := Lib.hid hb1
  have HK1 := Lib.hid (Kit.fresh_block w #[.string ⟨#[97, 47, 98]⟩, .string ⟨#[126]⟩, .string ⟨#[]⟩, .string ⟨#[42]⟩] 9)
  have HE0 := Lib.hid hE
  clear hb1 hE
  go_enter Tryd.func7, Tryd.ntmps7
  go_wp2_with fail
  refine (num9c n _).mono ?_
  rintro e w2 ⟨rfl, hb2⟩
  go_wp2_with fail
  refine (num9c 2 _).mono ?_
  rintro e w3 ⟨rfl, hb3⟩
  go_wp2_with fail
  refine (num9c 3 _).mono ?_
  rintro e w4 ⟨rfl, hb4⟩
  go_wp2_with fail
  refine (num9c 4 _).mono ?_
  rintro e w5 ⟨rfl, hb5⟩
  have hb25 := hb2.trans ((hb3.trans ((hb4.trans (hb5.mono hb4.size)).mono hb3.size)).mono hb2.size)
  have hb05 := HB1.out.trans (hb25.mono HB1.out.size)
  have hlt : w.heap.size < w5.heap.size := by
    have h := hb25.size
    simp at h
    omega
  have hk5 : w5.heap[w.heap.size]? = some (.cells #[.string ⟨#[97, 47, 98]⟩, .string ⟨#[126]⟩, .string ⟨#[]⟩, .string ⟨#[42]⟩] 9 (0, 0)) := (hb25.block _ (by simp)).trans HK1.out
  obtain ⟨W, hW, hbW, hsz, k1, k2⟩ := two_new w5 #[.int .i64 4, .int .i64 n, .string ⟨#[]⟩, .slice none 0 0, .slice none 0 0, .int .i64 4, .int .i64 2, .string ⟨#[]⟩, .slice none 0 0, .slice none 0 0, .int .i64 4, .int .i64 3, .string ⟨#[]⟩, .slice none 0 0, .slice none 0 0, .int .i64 4, .int .i64 4, .string ⟨#[]⟩, .slice none 0 0, .slice none 0 0] #[.int .i64 7, .int .i64 0, .string ⟨#[]⟩, .slice (some ⟨w.heap.size, 0, none⟩) 4 4, .slice (some ⟨w5.heap.size, 0, none⟩) 4 4] 25 25
  have hat : NodeAt (fun _ => True) W (sgJ n) (.agg #[.int .i64 7, .int .i64 0, .string ⟨#[]⟩, .slice (some ⟨w.heap.size, 0, none⟩) 4 4, .slice (some ⟨w5.heap.size, 0, none⟩) 4 4]) :=
    node_made (cells_block ((hbW.block _ hlt).trans hk5) rfl) (cells_block k1 rfl) (kids_more (num_at W n) (kids_more (num_at W 2) (kids_more (num_at W 3) (kids_single (num_at W 4)))))
  have hB : Bx (w5.heap.size + 1) (.int .i64 7) (.int .i64 0) (.string ⟨#[]⟩) (.slice (some ⟨w.heap.size, 0, none⟩) 4 4) (.slice (some ⟨w5.heap.size, 0, none⟩) 4 4) W := ⟨k2⟩
  have hbw : Below w.heap.size w W := hb05.trans (hbW.mono hb05.size)
  have HW := Lib.hid hW
  have HBW : Hid (∀ w', Below W.heap.size W w' → Below w.heap.size w w') := Lib.hid (fun w' h => hbw.trans (h.mono hbw.size))
  have HE : Hid (∀ w', Below W.heap.size W w' → EnvP w') := Lib.hid (fun w' h => (HE0.out.next hbw).next h)
  obtain ⟨H, hH⟩ : ∃ H, w5.heap.size = H := ⟨_, rfl⟩
  obtain ⟨G, hG⟩ : ∃ G, w.heap.size = G := ⟨_, rfl⟩
  rw [hH, hG] at hB hat
  have HNN : Hid (∀ w', Below W.heap.size W w' → NodeIn w' (sgJ n) (.agg #[.int .i64 7, .int .i64 0, .string ⟨#[]⟩, .slice (some ⟨G, 0, none⟩) 4 4, .slice (some ⟨H, 0, none⟩) 4 4]) ∧ Bx (H + 1) (.int .i64 7) (.int .i64 0) (.string ⟨#[]⟩) (.slice (some ⟨G, 0, none⟩) 4 4) (.slice (some ⟨H, 0, none⟩) 4 4) w') := Lib.hid (fun w' h => ⟨node_below h (in_of_at hat), hB.same (h.block _ hB.lt)⟩)
  have HG := Lib.hid hG
  have HH := Lib.hid hH
  clear hH hG hb2 hb3 hb4 hb5 hb25 hb05 hlt hk5 hW hbW hsz k1 k2 hat hB hbw
  go_upto_region 2 with fail
  rw [HW.out]
  (try rw [HH.out])
  (try rw [HG.out])
  have hbU : Below W.heap.size W W := Below.refl _ _
  have hg := get_shape HP0.out HT.out HCN.out W (HE.out W hbU) (HNN.out W hbU).1
  have h0 := (HNN.out W hbU).2
  have p0 := h0.p0
  have p1 := h0.p1
  have p2 := h0.p2
  have p3 := h0.p3
  have p4 := h0.p4
  clear h0 hbU
  go_wp2_with fail
  refine hg.mono ?_
  rintro e u0 ⟨a3, m3, a4, m4, rfl, hb⟩
  obtain ⟨V0, hV, hbV, hsV, hbxV⟩ := bx_later u0 (.int .i64 4) (.int .i64 n) (.string ⟨#[]⟩) (.slice a3 0 m3) (.slice a4 0 m4)
  obtain ⟨G0, hG0⟩ : ∃ G, u0.heap.size = G := ⟨_, rfl⟩
  rw [hG0] at hbxV
  have HV0 := Lib.hid hV
  have HBX0 := Lib.hid hbxV
  have HBV0 : Hid (∀ w', Below V0.heap.size V0 w' → Below W.heap.size W w') := Lib.hid (fun w' h => hb.trans ((hbV.trans (h.mono hbV.size)).mono hb.size))
  have HBW0 : Hid (∀ w', Below V0.heap.size V0 w' → Below W.heap.size W w') := Lib.hid (fun w' h => HBV0.out w' h)
  clear hg hb hV hbV hsV hbxV p0 p1 p2 p3 p4
  go_upto_region 3 with fail
  rw [HV0.out]
  (try rw [hG0])
  clear hG0
  have hbU : Below W.heap.size W V0 := HBW0.out _ (Below.refl _ _)
  have hg := get_shape HP1.out HT.out HCN.out V0 (HE.out V0 hbU) (HNN.out V0 hbU).1
  have h0 := (HNN.out V0 hbU).2
  have p0 := h0.p0
  have p1 := h0.p1
  have p2 := h0.p2
  have p3 := h0.p3
  have p4 := h0.p4
  clear h0 hbU
  go_wp2_with fail
  refine hg.mono ?_
  rintro e u1 ⟨a3, m3, a4, m4, rfl, hb⟩
  obtain ⟨V1, hV, hbV, hsV, hbxV⟩ := bx_later u1 (.int .i64 4) (.int .i64 2) (.string ⟨#[]⟩) (.slice a3 0 m3) (.slice a4 0 m4)
  obtain ⟨G1, hG1⟩ : ∃ G, u1.heap.size = G := ⟨_, rfl⟩
  rw [hG1] at hbxV
  have HV1 := Lib.hid hV
  have HBX1 := Lib.hid hbxV
  have HBV1 : Hid (∀ w', Below V1.heap.size V1 w' → Below V0.heap.size V0 w') := Lib.hid (fun w' h => hb.trans ((hbV.trans (h.mono hbV.size)).mono hb.size))
  have HBW1 : Hid (∀ w', Below V1.heap.size V1 w' → Below W.heap.size W w') := Lib.hid (fun w' h => HBW0.out w' (HBV1.out w' h))
  clear hg hb hV hbV hsV hbxV p0 p1 p2 p3 p4
  go_upto_region 4 with fail
  rw [HV1.out]
  (try rw [hG1])
  clear hG1
  have hbU : Below W.heap.size W V1 := HBW1.out _ (Below.refl _ _)
  have hg := get_shape HP2.out HT.out HCN.out V1 (HE.out V1 hbU) (HNN.out V1 hbU).1
  have h0 := (HNN.out V1 hbU).2
  have p0 := h0.p0
  have p1 := h0.p1
  have p2 := h0.p2
  have p3 := h0.p3
  have p4 := h0.p4
  clear h0 hbU
  go_wp2_with fail
  refine hg.mono ?_
  rintro e u2 ⟨a3, m3, a4, m4, rfl, hb⟩
  obtain ⟨V2, hV, hbV, hsV, hbxV⟩ := bx_later u2 (.int .i64 4) (.int .i64 3) (.string ⟨#[]⟩) (.slice a3 0 m3) (.slice a4 0 m4)
  obtain ⟨G2, hG2⟩ : ∃ G, u2.heap.size = G := ⟨_, rfl⟩
  rw [hG2] at hbxV
  have HV2 := Lib.hid hV
  have HBX2 := Lib.hid hbxV
  have HBV2 : Hid (∀ w', Below V2.heap.size V2 w' → Below V1.heap.size V1 w') := Lib.hid (fun w' h => hb.trans ((hbV.trans (h.mono hbV.size)).mono hb.size))
  have HBW2 : Hid (∀ w', Below V2.heap.size V2 w' → Below W.heap.size W w') := Lib.hid (fun w' h => HBW1.out w' (HBV2.out w' h))
  clear hg hb hV hbV hsV hbxV p0 p1 p2 p3 p4
  go_upto_region 5 with fail
  rw [HV2.out]
  (try rw [hG2])
  clear hG2
  have hbU : Below W.heap.size W V2 := HBW2.out _ (Below.refl _ _)
  have hg := get_shape HP3.out HT.out HCN.out V2 (HE.out V2 hbU) (HNN.out V2 hbU).1
  have h0 := (HNN.out V2 hbU).2
  have p0 := h0.p0
  have p1 := h0.p1
  have p2 := h0.p2
  have p3 := h0.p3
  have p4 := h0.p4
  clear h0 hbU
  go_wp2_with fail
  refine hg.mono ?_
  rintro e u3 ⟨a3, m3, a4, m4, rfl, hb⟩
  obtain ⟨V3, hV, hbV, hsV, hbxV⟩ := bx_later u3 (.int .i64 4) (.int .i64 4) (.string ⟨#[]⟩) (.slice a3 0 m3) (.slice a4 0 m4)
  obtain ⟨G3, hG3⟩ : ∃ G, u3.heap.size = G := ⟨_, rfl⟩
  rw [hG3] at hbxV
  have HV3 := Lib.hid hV
  have HBX3 := Lib.hid hbxV
  have HBV3 : Hid (∀ w', Below V3.heap.size V3 w' → Below V2.heap.size V2 w') := Lib.hid (fun w' h => hb.trans ((hbV.trans (h.mono hbV.size)).mono hb.size))
  have HBW3 : Hid (∀ w', Below V3.heap.size V3 w' → Below W.heap.size W w') := Lib.hid (fun w' h => HBW2.out w' (HBV3.out w' h))
  clear hg hb hV hbV hsV hbxV p0 p1 p2 p3 p4
  go_upto_region 6 with fail
  rw [HV3.out]
  (try rw [hG3])
  clear hG3
  have r0 := (HBX0.out V3 (HBV1.out _ (HBV2.out _ (HBV3.out _ (Below.refl _ _))))).p1
  have r1 := (HBX1.out V3 (HBV2.out _ (HBV3.out _ (Below.refl _ _)))).p1
  have r2 := (HBX2.out V3 (HBV3.out _ (Below.refl _ _))).p1
  have r3 := (HBX3.out V3 (Below.refl _ _)).p1
  clear HP0 HP1 HP2 HP3 HT HCN
  go_wp2_with fail
  refine (L3.num_any 0 _).mono ?_
  rintro e t1 ⟨rfl, rfl⟩
  go_wp2_with fail
  refine (L3.num_any 0 _).mono ?_
  rintro e t1 ⟨rfl, rfl⟩
  go_wp2_with fail
  refine (L3.num_any 0 _).mono ?_
  rintro e t1 ⟨rfl, rfl⟩
  go_wp2_with fail
  refine (L3.num_any 0 _).mono ?_
  rintro e t1 ⟨rfl, rfl⟩
  go_wp2_with fail
  refine (awake9 (HE.out V3 (HBW3.out _ (Below.refl _ _)))).mono ?_
  rintro e t2 ⟨rfl, hb6⟩
  go_wp2_with fail
  go_ret
  (try rw [← HG.out])
  exact ⟨rfl, HBW.out t2 (HBW3.out _ hb6)⟩
end Go.Proofs.YtoofcclcimkipaaDoor.J9
