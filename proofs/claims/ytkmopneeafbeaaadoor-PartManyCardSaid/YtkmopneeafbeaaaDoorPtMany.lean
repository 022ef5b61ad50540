/-
  The law PartMany returns true, where Tree is right. Condition: the bound of the library's search is some number.
-/
import Derived.Test.YtkmopneeafbeaaaDoorPtTop
import Derived.Test.YtkmopneeafbeaaaDoorPtManyP
import Derived.Test.YtkmopneeafbeaaaDoorU8Kit
import Derived.Deep.LoopGhost
namespace Go.Proofs.YtkmopneeafbeaaaDoor.Pt
open Go Go.RowKit Go.Joins Kit F0

/-- A part in a variable of its own. -/
def VarAt (Q : Nat) (q : P) (w : World) : Prop := ∃ x0 a1 l1 m1 x2 x3 x4 x5 x6 a7 m7, Bx Q (.string x0) (.slice a1 l1 m1) (.string x2) (.bool x3) (.int .i64 x4) (.int .i64 x5) (.int .i64 x6) (.slice a7 q.kids.length m7) w ∧
  PartAt (fun g => g ≠ Q) w q (.agg #[.string x0, .slice a1 l1 m1, .string x2, .bool x3, .int .i64 x4, .int .i64 x5, .int .i64 x6, .slice a7 q.kids.length m7])
theorem part_forms2 {Q : Nat → Prop} {w : World} {j : P} {c0 c1 c2 c3 c4 c5 c6 c7 : Value} (h : PartAt Q w j (.agg #[c0, c1, c2, c3, c4, c5, c6, c7])) :
    ∃ x0 a1 l1 m1 x2 x3 x4 x5 x6 a7 m7, c0 = .string x0 ∧ c1 = .slice a1 l1 m1 ∧ c2 = .string x2 ∧ c3 = .bool x3 ∧ c4 = .int .i64 x4 ∧ c5 = .int .i64 x5 ∧ c6 = .int .i64 x6 ∧ c7 = .slice a7 j.kids.length m7 := by
  obtain ⟨ap, mp, ak, mk, e, _⟩ := part_cells h
  injection e with e
  injection e with e
  injection e with e0 e
  injection e with e1 e
  injection e with e2 e
  injection e with e3 e
  injection e with e4 e
  injection e with e5 e
  injection e with e6 e
  injection e with e7 e
  exact ⟨_, _, _, _, _, _, _, _, _, _, _, e0, e1, e2, e3, e4, e5, e6, e7⟩
theorem kept_new {Q : Nat → Prop} {w w' : World} (h : Below w.heap.size w w') : Kept Q (fun g => g ≠ w.heap.size) w w' := kept_block fun g _ _ _ _ hb => by
  have hl := (Array.getElem?_eq_some_iff.1 hb).1
  exact ⟨by omega, h.block g hl⟩
theorem VarAt.below {Q : Nat} {q : P} {w w' : World} (h : VarAt Q q w) (hb : Below w.heap.size w w') : VarAt Q q w' := by
  obtain ⟨x0, a1, l1, m1, x2, x3, x4, x5, x6, a7, m7, h1, h2⟩ := h
  exact ⟨x0, a1, l1, m1, x2, x3, x4, x5, x6, a7, m7, h1.below hb, PartAt.keep (kept_below hb) h2⟩
/-- The i-th kid put into the variable. -/
theorem VarAt.down {Q : Nat} {k : P} {w : World} {c0 c1 c2 c3 c4 c5 c6 c7 y0 y1 y2 y3 y4 y5 y6 y7 : Value} (hB : Bx Q c0 c1 c2 c3 c4 c5 c6 c7 w) (hk : PartAt (fun g => g ≠ Q) w k (.agg #[y0, y1, y2, y3, y4, y5, y6, y7])) :
    VarAt Q k ((((((((w.setCell ⟨Q, 0, none⟩ y0).setCell ⟨Q, 1, none⟩ y1).setCell ⟨Q, 2, none⟩ y2).setCell ⟨Q, 3, none⟩ y3).setCell ⟨Q, 4, none⟩ y4).setCell ⟨Q, 5, none⟩ y5).setCell ⟨Q, 6, none⟩ y6).setCell ⟨Q, 7, none⟩ y7) := by
  obtain ⟨x0, a1, l1, m1, x2, x3, x4, x5, x6, a7, m7, rfl, rfl, rfl, rfl, rfl, rfl, rfl, rfl⟩ := part_forms2 hk
  refine ⟨x0, a1, l1, m1, x2, x3, x4, x5, x6, a7, m7, hB.setAll _ _ _ _ _ _ _ _, ?_⟩
  have n : ¬ (fun g => g ≠ Q) Q := fun h => h rfl
  exact PartAt.keep (kept_set (Q := fun g => g ≠ Q) (g := Q) (o := 7) n) (PartAt.keep (kept_set (Q := fun g => g ≠ Q) (g := Q) (o := 6) n) (PartAt.keep (kept_set (Q := fun g => g ≠ Q) (g := Q) (o := 5) n) (PartAt.keep (kept_set (Q := fun g => g ≠ Q) (g := Q) (o := 4) n) (PartAt.keep (kept_set (Q := fun g => g ≠ Q) (g := Q) (o := 3) n) (PartAt.keep (kept_set (Q := fun g => g ≠ Q) (g := Q) (o := 2) n) (PartAt.keep (kept_set (Q := fun g => g ≠ Q) (g := Q) (o := 1) n) (PartAt.keep (kept_set (Q := fun g => g ≠ Q) (g := Q) (o := 0) n) hk)))))))
theorem min2 (P : Program) (a b : Nat) : ∀ (ts : Array TypeId) (t : TypeId) (W : World), (Builtin.min_ ts t #[.int .i64 (a : Int), .int .i64 (b : Int)]).run P W = .ok (.int .i64 ((min a b : Nat) : Int)) W := fun ts t W => by
  simp [Builtin.min_, Builtin.min2]
  split <;> omega

set_option maxHeartbeats 4000000 in
set_option maxRecDepth 100000 in
theorem partMany_of (hT : TreeOk) (n m : Nat) (hn : n < 256) (hm : m < 256) (w : World) (hE : Srch.Env w) :
    Calls Tryd.prog 7 #[.int .u8 (n : Int), .int .u8 (m : Int)] w fun e w' => e = .returned (.bool true) ∧ Below w.heap.size w w' := by
  have HE := Lib.hid hE
  have HT := Lib.hid hT
  clear hE hT
  obtain ⟨k, hk⟩ : ∃ k, n % 50 = k := ⟨_, rfl⟩
  obtain ⟨d, hd⟩ : ∃ d, 1 + m % 10 = d := ⟨_, rfl⟩
  have hk50 : k < 50 := by omega
  have hd1 : 0 < d := by omega
  have hd11 : d < 11 := by omega
  have e1 : (n : Int) % 50 = (k : Int) := by omega
  have e2 : 1 + (m : Int) % 10 = (d : Int) := by omega
  have e1t : Int.tmod (n : Int) 50 = (k : Int) := by rw [Int.tmod_eq_emod_of_nonneg (by omega)]; exact e1
  clear hk hd
  go_enter Tryd.func7, Tryd.ntmps7
  go_wp2_with fail
  clear e1 e2 e1t
  go_loopg [7, 8] k (fun g sv iv wr => ∃ (i : Nat) (S : ByteArray), g = k - i ∧ i ≤ k ∧ iv = .int .i64 (i : Int) ∧ sv = .string S ∧ S.size ≤ 39 + 7 * i ∧ Hid (S.data.toList = manyT i) ∧ Hid (Below w.heap.size w wr))
  case atStart => exact ⟨0, _, rfl, Nat.zero_le _, rfl, rfl, by decide, Lib.hid rfl, Lib.hid (Below.refl _ _)⟩
  case round =>
    obtain ⟨i, S, rfl, hi, rfl, rfl, hS, HS, HBR⟩ := hrel
    by_cases hlt : i < k
    · have gi : (i : Int) < (k : Int) := by omega
      go_wp2_with fail
      go_roundg (k - (i + 1))
      case measure => omega
      case rel =>
        refine ⟨i + 1, _, rfl, by omega, by go_num, rfl, ?_, Lib.hid ?_, HBR⟩
        · rw [ByteArray.size_append]
          show S.size + 7 ≤ _
          omega
        · rw [manyT, ← HS.out]
          simp [manyP]
    · have gi : ¬ (i : Int) < (k : Int) := by omega
      have hik : i = k := by omega
      subst hik
      go_wp2_with fail
      refine (HT.out S wr (by omega) (HE.out.next HBR.out)).mono ?_
      rintro e w1 ⟨c0, c1, c2, c3, c4, c5, c6, c7, rfl, hp, hb1⟩
      obtain ⟨x0, a1, l1, m1, x2, x3, x4, x5, x6, a7, m7, rfl, rfl, rfl, rfl, rfl, rfl, rfl, rfl⟩ := part_forms2 hp
      obtain ⟨K29, hK⟩ : ∃ x, min i 29 = x := ⟨_, rfl⟩
      rw [HS.out, many_kids i hk50, hK] at hp ⊢
      have HB1 := Lib.hid (HBR.out.trans (hb1.mono HBR.out.size))
      have HK := Lib.hid hK
      have hbx := Bx.made w1 (.string x0) (.slice a1 l1 m1) (.string x2) (.bool x3) (.int .i64 x4) (.int .i64 x5) (.int .i64 x6) (.slice a7 K29 m7)
      have hb2 : Below w1.heap.size w1 (w1.alloc (.cells #[.string x0, .slice a1 l1 m1, .string x2, .bool x3, .int .i64 x4, .int .i64 x5, .int .i64 x6, .slice a7 K29 m7] 31)) := (Below.refl _ w1).alloc (Nat.le_refl _) _
      obtain ⟨W2, hW2⟩ : ∃ W2, w1.alloc (.cells #[.string x0, .slice a1 l1 m1, .string x2, .bool x3, .int .i64 x4, .int .i64 x5, .int .i64 x6, .slice a7 K29 m7] 31) = W2 := ⟨_, rfl⟩
      rw [hW2] at hbx hb2
      have HW2 := Lib.hid hW2
      have HB2 := Lib.hid (HB1.out.trans (hb2.mono HB1.out.size))
      obtain ⟨G1, hG1⟩ : ∃ G, w1.heap.size = G := ⟨_, rfl⟩
      rw [hG1] at hbx
      have HP1 := Lib.hid hbx
      clear hp hb1 hbx hb2 hW2 hK hS HS
      go_wp2_with fail
      rw [HW2.out]
      (try rw [hG1])
      clear hG1
      go_loopg [10, 11] d (fun g sv iv wr => ∃ (i : Nat) (S : ByteArray), g = d - i ∧ i ≤ d ∧ iv = .int .i64 (i : Int) ∧ sv = .string S ∧ S.size = 45 * i ∧ Hid (S.data.toList = deepT i) ∧ Hid (Below W2.heap.size W2 wr))
      case atStart => exact ⟨0, _, rfl, Nat.zero_le _, rfl, rfl, rfl, Lib.hid rfl, Lib.hid (Below.refl _ _)⟩
      case round =>
        obtain ⟨j, S2, rfl, hj, rfl, rfl, hS2, HS2, HBJ⟩ := hrel
        by_cases hltj : j < d
        · have gj : (j : Int) < (d : Int) := by omega
          have hc := U8.run_lit2 98 (97 + (j : Int)) (by omega) (by omega) (by omega) (by omega) wr
          obtain ⟨BT, hBT⟩ : ∃ BT : ByteArray, (⟨[U8.b8 98, U8.b8 (97 + (j : Int))].toArray⟩ : ByteArray) = BT := ⟨_, rfl⟩
          rw [hBT] at hc
          have hbts : BT.size = 2 := by rw [← hBT]; rfl
          have HBT : Hid (BT.data.toList = [98, UInt8.ofNat (97 + j)]) := Lib.hid (by
            rw [← hBT]
            show [U8.b8 98, U8.b8 (97 + (j : Int))] = _
            unfold U8.b8
            rw [show (97 + (j : Int)).toNat = 97 + j by omega]
            rfl)
          have hcv : (97 + (j : Int)) % 256 = 97 + (j : Int) := by omega
          have HBN : Hid (Below W2.heap.size W2 (wr.alloc (.cells #[.int .u8 98, .int .u8 (97 + (j : Int))] 5))) := Lib.hid (HBJ.out.alloc HBJ.out.size _)
          clear hBT
          go_wp2_with fail
          go_roundg (d - (j + 1))
          case measure => omega
          case rel =>
            refine ⟨j + 1, _, rfl, by omega, by go_num, rfl, ?_, Lib.hid ?_, HBN⟩
            · simp only [ByteArray.size_append]
              show S2.size + 36 + BT.size + 4 + BT.size + 1 = _
              omega
            · rw [deepT, ← HS2.out]
              simp [deepP, HBT.out]
        · have gj : ¬ (j : Int) < (d : Int) := by omega
          have hjd : j = d := by omega
          subst hjd
          have HC2 : Hid (Below w.heap.size w wr) := Lib.hid (HB2.out.trans (HBJ.out.mono HB2.out.size))
          have HP2 := Lib.hid (HP1.out.below HBJ.out)
          go_wp2_with fail
          refine (HT.out _ wr (by rw [ByteArray.size_append]; show S2.size + 2 ≤ _; omega) (HE.out.next HC2.out)).mono ?_
          rintro e w5 ⟨d0, d1, d2, d3, d4, d5, d6, d7, rfl, hp, hb5⟩
          obtain ⟨q, hq⟩ : ∃ q, treeL (S2 ++ ⟨#[10, 120]⟩).data.toList = q := ⟨_, rfl⟩
          rw [hq] at hp
          have HCH : Hid (chainB (min j 6) q = true) := Lib.hid (by
            rw [← hq, show (S2 ++ ⟨#[10, 120]⟩).data.toList = deepT j ++ [10, 120] by rw [← HS2.out]; simp]
            exact deep_kids j hd11 hd1)
          clear hq
          obtain ⟨y0, b1, n1, o1, y2, y3, y4, y5, y6, b7, o7, rfl, rfl, rfl, rfl, rfl, rfl, rfl, rfl⟩ := part_forms2 hp
          go_wp2_with fail
          obtain ⟨D, hD⟩ : ∃ D, min j 6 = D := ⟨_, rfl⟩
          rw [hD] at HCH
          have HD := Lib.hid hD
          have hD6 : D ≤ 6 := by rw [← hD]; exact Nat.min_le_right _ _
          have HB5 := Lib.hid (HC2.out.trans (hb5.mono HC2.out.size))
          have HP5 := Lib.hid (HP2.out.below hb5)
          have hva : VarAt w5.heap.size q (w5.alloc (.cells #[.string y0, .slice b1 n1 o1, .string y2, .bool y3, .int .i64 y4, .int .i64 y5, .int .i64 y6, .slice b7 q.kids.length o7] 31)) := ⟨y0, b1, n1, o1, y2, y3, y4, y5, y6, b7, o7, Bx.made w5 _ _ _ _ _ _ _ _, PartAt.keep (kept_new ((Below.refl _ w5).alloc (Nat.le_refl _) _)) hp⟩
          have hb6 : Below w5.heap.size w5 (w5.alloc (.cells #[.string y0, .slice b1 n1 o1, .string y2, .bool y3, .int .i64 y4, .int .i64 y5, .int .i64 y6, .slice b7 q.kids.length o7] 31)) := (Below.refl _ w5).alloc (Nat.le_refl _) _
          obtain ⟨W6, hW6⟩ : ∃ W6, w5.alloc (.cells #[.string y0, .slice b1 n1 o1, .string y2, .bool y3, .int .i64 y4, .int .i64 y5, .int .i64 y6, .slice b7 q.kids.length o7] 31) = W6 := ⟨_, rfl⟩
          rw [hW6] at hva hb6
          have HW6 := Lib.hid hW6
          have HB6 := Lib.hid (HB5.out.trans (hb6.mono HB5.out.size))
          have HP6 := Lib.hid (HP5.out.below hb6)
          have HGQ : Hid (G1 ≠ w5.heap.size ∧ w.heap.size ≤ w5.heap.size) := Lib.hid ⟨by have := HP5.out.lt; omega, HB5.out.size⟩
          obtain ⟨Q, hQ⟩ : ∃ Q, w5.heap.size = Q := ⟨_, rfl⟩
          rw [hQ] at hva HGQ
          have HV6 := Lib.hid hva
          clear hW6 hva hb6 hp hb5 hD
          rw [HW6.out]
          (try rw [hQ])
          clear hQ
          go_loopg [14] D (fun g dv wr => ∃ (a : Nat) (p : P), g = D - a ∧ a ≤ D ∧ dv = .int .i64 (a : Int) ∧ Hid (chainB (D - a) p = true) ∧ Hid (VarAt Q p wr) ∧ Hid (Below w.heap.size w wr) ∧ Hid (Bx G1 (.string x0) (.slice a1 l1 m1) (.string x2) (.bool x3) (.int .i64 x4) (.int .i64 x5) (.int .i64 x6) (.slice a7 K29 m7) wr))
          case atStart => exact ⟨0, q, rfl, Nat.zero_le _, rfl, HCH, HV6, HB6, HP6⟩
          case round =>
            obtain ⟨a, p, rfl, ha, rfl, HCA, HVA, HBA, HPA⟩ := hrel
            obtain ⟨z0, e1, f1, g1, z2, z3, z4, z5, z6, e7, g7, hbx, hpt⟩ := HVA.out
            have p7 := hbx.p7
            by_cases hlta : a < D
            · have ga6 : (a : Int) ≤ 5 := by omega
              obtain ⟨r, hr⟩ : ∃ r, D - a = r + 1 := ⟨D - a - 1, by omega⟩
              rw [hr] at HCA
              obtain ⟨kd, hkd, hck⟩ := chain_succ HCA.out
              obtain ⟨ap, mp, ak, mk, e, -, cs, hk1, hk2⟩ := part_cells hpt
              injection e with e
              injection e with e
              injection e with _ e
              injection e with _ e
              injection e with _ e
              injection e with _ e
              injection e with _ e
              injection e with _ e
              injection e with _ e
              injection e with e7' e
              injection e7' with q1 q2 q3
              subst q1 q3
              rw [hkd] at hk1 hk2 p7
              obtain ⟨gk, ok, v0, v1, v2, v3, v4, v5, v6, v7, rfl, hgk, r0, r1, r2, r3, r4, r5, r6, r7, hK⟩ := kid_cells hk1 hk2 0 (by simp)
              simp only [Nat.zero_mul, Nat.add_zero] at r0 r1 r2 r3 r4 r5 r6 r7
              have HKP : Hid (PartAt (fun g => g ≠ Q) wr kd (.agg #[v0, v1, v2, v3, v4, v5, v6, v7])) := Lib.hid hK
              have HDN := Lib.hid (VarAt.down hbx HKP.out)
              obtain ⟨t0, t1, t2, t3, t4, t5, t6, t7, t8, t9, t10, rfl, rfl, rfl, rfl, rfl, rfl, rfl, rfl⟩ := part_forms2 hK
              have hl1 : ([kd] : List P).length = 1 := rfl
              rw [hl1] at p7
              have k0 := hbx.p0
              have k1 := hbx.p1
              have k2 := hbx.p2
              have k3 := hbx.p3
              have k4 := hbx.p4
              have k5 := hbx.p5
              have k6 := hbx.p6
              have f0 := hbx.free 0
              have f1' := hbx.free 1
              have f2 := hbx.free 2
              have f3 := hbx.free 3
              have f4 := hbx.free 4
              have f5 := hbx.free 5
              have f6 := hbx.free 6
              have f7 := hbx.free 7
              have HCK := Lib.hid hck
              have HHR := Lib.hid hr
              clear hK hk1 hk2 hpt hbx hck hr hkd hl1 HKP
              go_wp2_with fail
              go_roundg (D - (a + 1))
              case measure => omega
              case rel =>
                refine ⟨a + 1, kd, rfl, by omega, by go_num, Lib.hid ?_, HDN, Lib.hid ?_, Lib.hid ?_⟩
                · rw [show D - (a + 1) = r by have := HHR.out; omega]
                  exact HCK.out
                · exact (((((((HBA.out.setCell (p := ⟨Q, 0, none⟩) HGQ.out.2 _).setCell (p := ⟨Q, 1, none⟩) HGQ.out.2 _).setCell (p := ⟨Q, 2, none⟩) HGQ.out.2 _).setCell (p := ⟨Q, 3, none⟩) HGQ.out.2 _).setCell (p := ⟨Q, 4, none⟩) HGQ.out.2 _).setCell (p := ⟨Q, 5, none⟩) HGQ.out.2 _).setCell (p := ⟨Q, 6, none⟩) HGQ.out.2 _).setCell (p := ⟨Q, 7, none⟩) HGQ.out.2 _
                · refine HPA.out.same ?_
                  rw [Below.heap_setCell _ _ _ _ HGQ.out.1, Below.heap_setCell _ _ _ _ HGQ.out.1, Below.heap_setCell _ _ _ _ HGQ.out.1, Below.heap_setCell _ _ _ _ HGQ.out.1, Below.heap_setCell _ _ _ _ HGQ.out.1, Below.heap_setCell _ _ _ _ HGQ.out.1, Below.heap_setCell _ _ _ _ HGQ.out.1, Below.heap_setCell _ _ _ _ HGQ.out.1]
            · have haD : a = D := by omega
              subst haD
              rw [Nat.sub_self] at HCA
              have hn1 := chain_zero HCA.out
              obtain ⟨L, hL⟩ : ∃ L, p.kids.length = L := ⟨_, rfl⟩
              rw [hL] at p7 hn1
              have gl : ((L : Int) == 1) = false := by rw [beq_eq_false_iff_ne]; omega
              have gl2 : ¬ (L : Int) = 1 := by omega
              have w7 := HPA.out.p7
              have hm1 : ∀ (ts : Array TypeId) (t : TypeId) (W : World), (Builtin.min_ ts t #[.int .i64 (i : Int), .int .i64 29]).run Tryd.prog W = .ok (.int .i64 (K29 : Int)) W := fun ts t W => by rw [← HK.out]; exact min2 _ i 29 ts t W
              have hm2 : ∀ (ts : Array TypeId) (t : TypeId) (W : World), (Builtin.min_ ts t #[.int .i64 (j : Int), .int .i64 6]).run Tryd.prog W = .ok (.int .i64 (a : Int)) W := fun ts t W => by rw [← HD.out]; exact min2 _ j 6 ts t W
              clear hn1 hL hbx hpt
              go_wp2_with fail
              refine (awake_any HT.out wr (HE.out.next HBA.out)).mono ?_
              rintro e w9 ⟨rfl, hb9⟩
              go_wp2
              go_ret
              exact ⟨rfl, HBA.out.trans (hb9.mono HBA.out.size)⟩
end Go.Proofs.YtkmopneeafbeaaaDoor.Pt
