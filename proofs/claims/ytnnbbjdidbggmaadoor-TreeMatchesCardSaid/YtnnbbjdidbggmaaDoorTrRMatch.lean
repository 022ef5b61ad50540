/-
  The reference's Match tells whether a pattern stands for all of a path. Conditions: pattern and path have at most 2^20 bytes.
-/
import Derived.Test.YtnnbbjdidbggmaaDoorTrMem
import Derived.Deep.OwnRows
namespace Go.Proofs.YtnnbbjdidbggmaaDoor.Tr
open Go Go.RowKit Go.Joins Kit

theorem infoB : (Tryd.prog.info? 4).map (fun i => (i.zero, i.size, i.bytes)) = some (some (.bool false), 1, 1) := by kernel_rfl
theorem take_at (l : List UInt8) (k : Nat) (h : k < l.length) : l.take (k + 1) = l.take k ++ [l[k]] := List.take_succ_eq_append_getElem h
/-- What the row says when it is done as far as place i. -/
def Done (P S : List UInt8) (i : Nat) (g : Nat → Value) : Prop := ∀ j, j ≤ i → g j = .bool (mat (P.take j) S)
theorem ref_step {P S : List UInt8} {i : Nat} {g : Nat → Value} {b : Bool} (hb : mat (P.take (i + 1)) S = b) (h : Done P S i g) : Done P S (i + 1) (fun j => if j = i + 1 then .bool b else g j) := by
  intro j hj
  by_cases e : j = i + 1
  · subst e
    simp [hb]
  · simp only [e, if_false]
    exact h j (by omega)
theorem ref_start {P : List UInt8} {i : Nat} (hi : i ≤ P.length) (hw : ∀ c ∈ P.take i, c = 42 ∨ c = 37) (hn : ∀ h : i < P.length, lit P[i]) (j : Nat) (hj : j ≤ P.length) : mat (P.take j) [] = decide (j ≤ i) := by
  apply bool_iff
  rw [all_signs, decide_eq_true_iff]
  constructor
  · intro h
    rcases Nat.lt_or_ge i j with hij | hij
    · have hip : i < P.length := by omega
      have hm : P[i] ∈ P.take j := by
        rw [List.mem_iff_getElem]
        exact ⟨i, by rw [List.length_take]; omega, by rw [List.getElem_take]⟩
      rcases h _ hm with e | e
      · exact absurd e (hn hip).1
      · exact absurd e (hn hip).2
    · exact hij
  · intro h c hc
    exact hw c (List.mem_of_mem_take (by rw [List.take_take, Nat.min_eq_left h]; exact hc))

set_option maxHeartbeats 4000000 in
set_option maxRecDepth 100000 in
theorem rmatch_any (P S : ByteArray) (w : World) (hP : P.size ≤ 1048576) (hS : S.size ≤ 1048576) :
    Calls Tryd.prog 9 #[.string P, .string S] w fun e w' => e = .returned (.bool (mat P.data.toList S.data.toList)) ∧ Below w.heap.size w w' := by
  have hmk := run_make_row' (P := Tryd.prog) 40 4 (.bool false) 1 Tryd.underlying40 infoB rfl .i64 .i64 (P.size + 1) (by omega) (by omega)
  rw [show ((P.size + 1 : Nat) : Int) = (P.size : Int) + 1 by omega] at hmk
  have HR0 := Lib.hid (World.rowIs_made w (.bool false) (P.size + 1) 4)
  have HB0 := Lib.hid ((Below.refl _ w).alloc (Nat.le_refl _) (.cells (madeCells #[.bool false] (P.size + 1)) 4))
  obtain ⟨W0, hW0⟩ : ∃ W0, w.alloc (.cells (madeCells #[.bool false] (P.size + 1)) 4) = W0 := ⟨_, rfl⟩
  rw [hW0] at HR0 HB0
  have xz := HR0.out.cell (i := 0) (by omega)
  have xf := HR0.out.frozen 0
  have HPL : Hid (P.data.toList.length = P.size) := Lib.hid (Lib.size_eq P).symm
  have hmk0 := hmk w
  rw [hW0] at hmk0
  go_enter Tryd.func9, Tryd.ntmps9
  go_wp2_with fail
  have HR1 := Lib.hid (HR0.out.set 0 (.bool true))
  have HB1 := Lib.hid (HB0.out.setCell (p := ⟨w.heap.size, 0, none⟩) (Nat.le_refl _) (.bool true))
  obtain ⟨W1, hW1⟩ : ∃ W1, W0.setCell ⟨w.heap.size, 0, none⟩ (.bool true) = W1 := ⟨_, rfl⟩
  rw [hW1] at HR1 HB1 ⊢
  clear xz xf hmk0 hW0 hW1
  go_loopw [6] (fun i wr => ∃ k : Nat, k ≤ P.size ∧ i = .int .i64 (k : Int) ∧ wr.rowIs w.heap.size 4 (P.size + 1) (fun j => .bool (decide (j ≤ k))) ∧ Hid (∀ c ∈ P.data.toList.take k, c = 42 ∨ c = 37) ∧ Hid (Below w.heap.size w wr)) (fun i _ => P.size - (intOf i).toNat)
  case atStart => exact ⟨0, Nat.zero_le _, rfl, HR1.out.congr (fun j hj => by by_cases e : j = 0 <;> simp [e]), Lib.hid (fun c hc => by simp at hc), HB1⟩
  case round =>
    clear HR1 HB1
    obtain ⟨k, hk, rfl, hr, hw, hb⟩ := hrel
    have HR := Lib.hid hr
    by_cases hlt : k < P.size
    · have g1 : (k : Int) < P.size := by omega
      obtain ⟨c, hc⟩ : ∃ c, P[k] = c := ⟨_, rfl⟩
      have HCL : Hid (P.data.toList[k]'(by rw [← Lib.size_eq]; exact hlt) = c) := Lib.hid (by rw [← hc]; exact byte_get P k hlt)
      have HNX : Hid ((c = 42 ∨ c = 37) → ∀ z ∈ P.data.toList.take (k + 1), z = 42 ∨ z = 37) := Lib.hid (fun h z hz => by
        rw [take_at _ _ (by rw [← Lib.size_eq]; exact hlt)] at hz
        rcases List.mem_append.1 hz with hz | hz
        · exact hw.out z hz
        · rw [List.mem_singleton] at hz
          rw [hz, HCL.out]
          exact h)
      have y1 := hr.cell (i := k + 1) (by omega)
      have y2 := hr.frozen (k + 1)
      clear hr
      rcases byte_cases c with rfl | rfl | hl
      · have HN2 := Lib.hid (HNX.out (Or.inl rfl))
        clear HNX
        go_wp2_with fail
        go_roundw
        case rel => exact ⟨k + 1, by omega, by go_num, (HR.out.set (k + 1) (.bool true)).congr (fun j hj => by by_cases e : j = k + 1 <;> simp [e] <;> omega), HN2, Lib.hid (hb.out.setCell (p := ⟨w.heap.size, k + 1, none⟩) (Nat.le_refl _) _)⟩
        case measure => simp [intOf]; omega
      · have HN2 := Lib.hid (HNX.out (Or.inr rfl))
        clear HNX
        go_wp2_with fail
        go_roundw
        case rel => exact ⟨k + 1, by omega, by go_num, (HR.out.set (k + 1) (.bool true)).congr (fun j hj => by by_cases e : j = k + 1 <;> simp [e] <;> omega), HN2, Lib.hid (hb.out.setCell (p := ⟨w.heap.size, k + 1, none⟩) (Nat.le_refl _) _)⟩
        case measure => simp [intOf]; omega
      · have hn1 : ((c.toNat : Int) == 42) = false := by
          rw [beq_eq_false_iff_ne]
          intro e
          exact hl.1 (UInt8.toNat_inj.1 (by show c.toNat = 42; omega))
        have hn2 : ((c.toNat : Int) == 37) = false := by
          rw [beq_eq_false_iff_ne]
          intro e
          exact hl.2 (UInt8.toNat_inj.1 (by show c.toNat = 37; omega))
        have HST : Hid (Done P.data.toList (S.data.toList.take 0) P.size (fun j => .bool (decide (j ≤ k)))) := Lib.hid (fun j hj => by
          show Value.bool _ = Value.bool _
          rw [List.take_zero, ref_start (i := k) (by rw [← Lib.size_eq]; omega) hw.out (fun h => by rw [HCL.out]; exact hl) j (by rw [← Lib.size_eq]; exact hj)])
        clear hl HNX
        go_wp2_with fail
        clear hw
        go_loopw [5, 7] (fun m k wr => ∃ (M : Nat) (q : Nat) (f : Nat → Value), m = .slice (some ⟨M, 0, none⟩) (P.size + 1) (P.size + 1) ∧ k = .int .i64 (q : Int) ∧ q ≤ S.size ∧ w.heap.size ≤ M ∧ wr.rowIs M 4 (P.size + 1) f ∧ Hid (Done P.data.toList (S.data.toList.take q) P.size f) ∧ Hid (Below w.heap.size w wr)) (fun _ k _ => S.size - (intOf k).toNat)
        case atStart => exact ⟨w.heap.size, 0, _, rfl, rfl, Nat.zero_le _, Nat.le_refl _, HR.out, HST, hb⟩
        case round =>
          clear HR HST hb
          obtain ⟨M, q, f, rfl, rfl, hq, hM, hr, hd, hb⟩ := hrel
          by_cases hlq : q < S.size
          · have g3 : (q : Int) < S.size := by omega
            have HWM : w.heap.size ≤ wr.heap.size := hb.out.size
            have HR0 := Lib.hid (World.rowIs_made wr (.bool false) (P.size + 1) 4)
            have HRM0 := Lib.hid (hr.alloc (.cells (madeCells #[.bool false] (P.size + 1)) 4))
            have HB0 := Lib.hid (hb.out.alloc HWM (.cells (madeCells #[.bool false] (P.size + 1)) 4))
            have hMlt := hr.lt
            obtain ⟨N, hN⟩ : ∃ N, wr.heap.size = N := ⟨_, rfl⟩
            rw [hN] at HR0 HWM hMlt
            obtain ⟨d, hdd⟩ : ∃ d, S[q] = d := ⟨_, rfl⟩
            have HSQ : Hid (S.data.toList.take (q + 1) = S.data.toList.take q ++ [d]) := Lib.hid (by
              rw [take_at _ _ (by rw [← Lib.size_eq]; exact hlq), ← hdd]
              rfl)
            clear hr hb
            go_wp2_with fail
            go_loopw [9] (fun i wr => ∃ (k : Nat) (g : Nat → Value), i = .int .i64 (k : Int) ∧ k ≤ P.size ∧ wr.rowIs N 4 (P.size + 1) g ∧ Hid (Done P.data.toList (S.data.toList.take (q + 1)) k g) ∧ Hid (∀ j, k < j → g j = .bool false) ∧ wr.rowIs M 4 (P.size + 1) f ∧ Hid (Below w.heap.size w wr)) (fun i _ => P.size - (intOf i).toNat)
            case atStart => exact ⟨0, _, rfl, Nat.zero_le _, HR0.out, Lib.hid (fun j hj => by rw [show j = 0 by omega, HSQ.out, List.take_zero, nil_cons]), Lib.hid (fun j hj => rfl), HRM0.out, HB0⟩
            case round =>
              clear HR0 HRM0 HB0
              obtain ⟨i, g, rfl, hi, hrn, hg, hz, hrm, hb⟩ := hrel
              have HRN := Lib.hid hrn
              have HRM := Lib.hid hrm
              by_cases hip : i < P.size
              · have g5 : (i : Int) < P.size := by omega
                obtain ⟨c, hc⟩ : ∃ c, P[i] = c := ⟨_, rfl⟩
                have HPT : Hid (P.data.toList.take (i + 1) = P.data.toList.take i ++ [c]) := Lib.hid (by
                  rw [take_at _ _ (by rw [← Lib.size_eq]; exact hip), ← hc]
                  rfl)
                have HSTP : Hid (∀ b, mat (P.data.toList.take (i + 1)) (S.data.toList.take (q + 1)) = b → Done P.data.toList (S.data.toList.take (q + 1)) (i + 1) (fun j => if j = i + 1 then .bool b else g j)) := Lib.hid (fun b h => ref_step h hg.out)
                have HNM : Hid (M ≠ N) := Lib.hid (by omega)
                have HZ2 : Hid (∀ b j, i + 1 < j → (if j = i + 1 then Value.bool b else g j) = .bool false) := Lib.hid (fun b j hj => by rw [if_neg (by omega)]; exact hz.out j (by omega))
                have n1 := hrn.cell (i := i + 1) (by omega)
                have n2 := hrn.frozen (i + 1)
                have n0 := hrn.cell (i := i) (by omega)
                have m0 := hrm.cell (i := i) (by omega)
                have m1 := hrm.cell (i := i + 1) (by omega)
                rw [hg.out i (Nat.le_refl _)] at n0
                rw [hz.out (i + 1) (by omega)] at n1
                rw [hd.out i (by omega)] at m0
                rw [hd.out (i + 1) (by omega)] at m1
                rw [HSQ.out, HPT.out] at HSTP
                have e1 := HPT.out
                rw [e1] at m1
                obtain ⟨A, hA⟩ : ∃ A, mat (P.data.toList.take i) (S.data.toList.take q) = A := ⟨_, rfl⟩
                obtain ⟨B, hB⟩ : ∃ B, mat (P.data.toList.take i ++ [c]) (S.data.toList.take q) = B := ⟨_, rfl⟩
                obtain ⟨C, hC⟩ : ∃ C, mat (P.data.toList.take i) (S.data.toList.take (q + 1)) = C := ⟨_, rfl⟩
                rw [hA] at m0
                rw [hB] at m1
                rw [hC] at n0
                rw [HSQ.out] at hC
                have HS1 : Hid (mat (P.data.toList.take i ++ [42]) (S.data.toList.take q ++ [d]) = (A || mat (P.data.toList.take i ++ [42]) (S.data.toList.take q) || C)) := Lib.hid (by rw [end_star_cons, hA, hC])
                have HS2 : Hid (mat (P.data.toList.take i ++ [37]) (S.data.toList.take q ++ [d]) = ((A || mat (P.data.toList.take i ++ [37]) (S.data.toList.take q)) && d != 47 || C)) := Lib.hid (by rw [end_pct_cons, hA, hC])
                have HS3 : Hid (lit c → mat (P.data.toList.take i ++ [c]) (S.data.toList.take q ++ [d]) = (A && c == d)) := Lib.hid (fun h => by rw [end_lit_cons h, hA])
                have HBB := Lib.hid hB
                clear e1 hA hB hC hrn hrm
                rcases byte_cases c with rfl | rfl | hl
                · rw [HBB.out] at HS1
                  clear HS2 HS3
                  rcases (show A = true ∨ (A = false ∧ B = true) ∨ (A = false ∧ B = false) by cases A <;> cases B <;> simp) with rfl | ⟨rfl, rfl⟩ | ⟨rfl, rfl⟩
                  · go_wp2_with fail
                    have HR' := HRN.out.set (i + 1) (.bool true)
                    have HM' := HRM.out.setOther (a := ⟨N, i + 1, none⟩) HNM.out (.bool true)
                    go_roundw
                    case rel => exact ⟨i + 1, _, by go_num, by omega, HR', Lib.hid (by rw [HSQ.out]; exact HSTP.out _ (HS1.out.trans rfl)), Lib.hid (HZ2.out _), HM', Lib.hid ((hb.out.setCell (p := ⟨N, i + 1, none⟩) HWM _))⟩
                    case measure => simp [intOf]; omega
                  · go_wp2_with fail
                    have HR' := HRN.out.set (i + 1) (.bool true)
                    have HM' := HRM.out.setOther (a := ⟨N, i + 1, none⟩) HNM.out (.bool true)
                    go_roundw
                    case rel => exact ⟨i + 1, _, by go_num, by omega, HR', Lib.hid (by rw [HSQ.out]; exact HSTP.out _ (HS1.out.trans rfl)), Lib.hid (HZ2.out _), HM', Lib.hid ((hb.out.setCell (p := ⟨N, i + 1, none⟩) HWM _))⟩
                    case measure => simp [intOf]; omega
                  · cases C
                    · go_wp2_with fail
                      have HR' := HRN.out.set (i + 1) (.bool false)
                      have HM' := HRM.out.setOther (a := ⟨N, i + 1, none⟩) HNM.out (.bool false)
                      go_roundw
                      case rel => exact ⟨i + 1, _, by go_num, by omega, HR', Lib.hid (by rw [HSQ.out]; exact HSTP.out _ (HS1.out.trans rfl)), Lib.hid (HZ2.out _), HM', Lib.hid ((hb.out.setCell (p := ⟨N, i + 1, none⟩) HWM _))⟩
                      case measure => simp [intOf]; omega
                    · go_wp2_with fail
                      have HR' := HRN.out.set (i + 1) (.bool true)
                      have HM' := HRM.out.setOther (a := ⟨N, i + 1, none⟩) HNM.out (.bool true)
                      go_roundw
                      case rel => exact ⟨i + 1, _, by go_num, by omega, HR', Lib.hid (by rw [HSQ.out]; exact HSTP.out _ (HS1.out.trans rfl)), Lib.hid (HZ2.out _), HM', Lib.hid ((hb.out.setCell (p := ⟨N, i + 1, none⟩) HWM _))⟩
                      case measure => simp [intOf]; omega
                · rw [HBB.out] at HS2
                  clear HS1 HS3
                  by_cases h47 : d = 47
                  · subst h47
                    cases C
                    · rcases (show A = true ∨ (A = false ∧ B = true) ∨ (A = false ∧ B = false) by cases A <;> cases B <;> simp) with rfl | ⟨rfl, rfl⟩ | ⟨rfl, rfl⟩
                      · go_wp2_with fail
                        have HR' := HRN.out.set (i + 1) (.bool false)
                        have HM' := HRM.out.setOther (a := ⟨N, i + 1, none⟩) HNM.out (.bool false)
                        go_roundw
                        case rel => exact ⟨i + 1, _, by go_num, by omega, HR', Lib.hid (by rw [HSQ.out]; exact HSTP.out _ (HS2.out.trans rfl)), Lib.hid (HZ2.out _), HM', Lib.hid ((hb.out.setCell (p := ⟨N, i + 1, none⟩) HWM _))⟩
                        case measure => simp [intOf]; omega
                      · go_wp2_with fail
                        have HR' := HRN.out.set (i + 1) (.bool false)
                        have HM' := HRM.out.setOther (a := ⟨N, i + 1, none⟩) HNM.out (.bool false)
                        go_roundw
                        case rel => exact ⟨i + 1, _, by go_num, by omega, HR', Lib.hid (by rw [HSQ.out]; exact HSTP.out _ (HS2.out.trans rfl)), Lib.hid (HZ2.out _), HM', Lib.hid ((hb.out.setCell (p := ⟨N, i + 1, none⟩) HWM _))⟩
                        case measure => simp [intOf]; omega
                      · go_wp2_with fail
                        have HR' := HRN.out.set (i + 1) (.bool false)
                        have HM' := HRM.out.setOther (a := ⟨N, i + 1, none⟩) HNM.out (.bool false)
                        go_roundw
                        case rel => exact ⟨i + 1, _, by go_num, by omega, HR', Lib.hid (by rw [HSQ.out]; exact HSTP.out _ (HS2.out.trans rfl)), Lib.hid (HZ2.out _), HM', Lib.hid ((hb.out.setCell (p := ⟨N, i + 1, none⟩) HWM _))⟩
                        case measure => simp [intOf]; omega
                    · rcases (show A = true ∨ (A = false ∧ B = true) ∨ (A = false ∧ B = false) by cases A <;> cases B <;> simp) with rfl | ⟨rfl, rfl⟩ | ⟨rfl, rfl⟩
                      · go_wp2_with fail
                        have HR' := HRN.out.set (i + 1) (.bool true)
                        have HM' := HRM.out.setOther (a := ⟨N, i + 1, none⟩) HNM.out (.bool true)
                        go_roundw
                        case rel => exact ⟨i + 1, _, by go_num, by omega, HR', Lib.hid (by rw [HSQ.out]; exact HSTP.out _ (HS2.out.trans rfl)), Lib.hid (HZ2.out _), HM', Lib.hid ((hb.out.setCell (p := ⟨N, i + 1, none⟩) HWM _))⟩
                        case measure => simp [intOf]; omega
                      · go_wp2_with fail
                        have HR' := HRN.out.set (i + 1) (.bool true)
                        have HM' := HRM.out.setOther (a := ⟨N, i + 1, none⟩) HNM.out (.bool true)
                        go_roundw
                        case rel => exact ⟨i + 1, _, by go_num, by omega, HR', Lib.hid (by rw [HSQ.out]; exact HSTP.out _ (HS2.out.trans rfl)), Lib.hid (HZ2.out _), HM', Lib.hid ((hb.out.setCell (p := ⟨N, i + 1, none⟩) HWM _))⟩
                        case measure => simp [intOf]; omega
                      · go_wp2_with fail
                        have HR' := HRN.out.set (i + 1) (.bool true)
                        have HM' := HRM.out.setOther (a := ⟨N, i + 1, none⟩) HNM.out (.bool true)
                        go_roundw
                        case rel => exact ⟨i + 1, _, by go_num, by omega, HR', Lib.hid (by rw [HSQ.out]; exact HSTP.out _ (HS2.out.trans rfl)), Lib.hid (HZ2.out _), HM', Lib.hid ((hb.out.setCell (p := ⟨N, i + 1, none⟩) HWM _))⟩
                        case measure => simp [intOf]; omega
                  · have hd7 : ((d.toNat : Int) != 47) = true := by
                      rw [bne_iff_ne]
                      intro e
                      exact h47 (UInt8.toNat_inj.1 (by show d.toNat = 47; omega))
                    have e7 : (d != 47) = true := by rw [bne_iff_ne]; exact h47
                    rw [e7] at HS2
                    clear h47 e7
                    rcases (show A = true ∨ (A = false ∧ B = true) ∨ (A = false ∧ B = false) by cases A <;> cases B <;> simp) with rfl | ⟨rfl, rfl⟩ | ⟨rfl, rfl⟩
                    · go_wp2_with fail
                      have HR' := HRN.out.set (i + 1) (.bool true)
                      have HM' := HRM.out.setOther (a := ⟨N, i + 1, none⟩) HNM.out (.bool true)
                      go_roundw
                      case rel => exact ⟨i + 1, _, by go_num, by omega, HR', Lib.hid (by rw [HSQ.out]; exact HSTP.out _ (HS2.out.trans rfl)), Lib.hid (HZ2.out _), HM', Lib.hid ((hb.out.setCell (p := ⟨N, i + 1, none⟩) HWM _))⟩
                      case measure => simp [intOf]; omega
                    · go_wp2_with fail
                      have HR' := HRN.out.set (i + 1) (.bool true)
                      have HM' := HRM.out.setOther (a := ⟨N, i + 1, none⟩) HNM.out (.bool true)
                      go_roundw
                      case rel => exact ⟨i + 1, _, by go_num, by omega, HR', Lib.hid (by rw [HSQ.out]; exact HSTP.out _ (HS2.out.trans rfl)), Lib.hid (HZ2.out _), HM', Lib.hid ((hb.out.setCell (p := ⟨N, i + 1, none⟩) HWM _))⟩
                      case measure => simp [intOf]; omega
                    · cases C
                      · go_wp2_with fail
                        have HR' := HRN.out.set (i + 1) (.bool false)
                        have HM' := HRM.out.setOther (a := ⟨N, i + 1, none⟩) HNM.out (.bool false)
                        go_roundw
                        case rel => exact ⟨i + 1, _, by go_num, by omega, HR', Lib.hid (by rw [HSQ.out]; exact HSTP.out _ (HS2.out.trans rfl)), Lib.hid (HZ2.out _), HM', Lib.hid ((hb.out.setCell (p := ⟨N, i + 1, none⟩) HWM _))⟩
                        case measure => simp [intOf]; omega
                      · go_wp2_with fail
                        have HR' := HRN.out.set (i + 1) (.bool true)
                        have HM' := HRM.out.setOther (a := ⟨N, i + 1, none⟩) HNM.out (.bool true)
                        go_roundw
                        case rel => exact ⟨i + 1, _, by go_num, by omega, HR', Lib.hid (by rw [HSQ.out]; exact HSTP.out _ (HS2.out.trans rfl)), Lib.hid (HZ2.out _), HM', Lib.hid ((hb.out.setCell (p := ⟨N, i + 1, none⟩) HWM _))⟩
                        case measure => simp [intOf]; omega
                · have HS4 := Lib.hid (HS3.out hl)
                  have hn1 : ((c.toNat : Int) == 42) = false := by
                    rw [beq_eq_false_iff_ne]
                    intro e
                    exact hl.1 (UInt8.toNat_inj.1 (by show c.toNat = 42; omega))
                  have hn2 : ((c.toNat : Int) == 37) = false := by
                    rw [beq_eq_false_iff_ne]
                    intro e
                    exact hl.2 (UInt8.toNat_inj.1 (by show c.toNat = 37; omega))
                  clear HS1 HS2 HS3 hl
                  cases A
                  · go_wp2_with fail
                    go_region
                    go_wp2_with fail
                    have HR' := HRN.out.set (i + 1) (.bool false)
                    have HM' := HRM.out.setOther (a := ⟨N, i + 1, none⟩) HNM.out (.bool false)
                    go_roundw
                    case rel => exact ⟨i + 1, _, by go_num, by omega, HR'.drew, Lib.hid (by rw [HSQ.out]; exact HSTP.out _ (HS4.out.trans rfl)), Lib.hid (HZ2.out _), HM'.drew, Lib.hid ((hb.out.setCell (p := ⟨N, i + 1, none⟩) HWM _).drew)⟩
                    case measure => simp [intOf]; omega
                  · by_cases hcd : c = d
                    · subst hcd
                      rw [beq_self_eq_true] at HS4
                      go_wp2_with fail
                      go_region
                      go_wp2_with fail
                      have HR' := HRN.out.set (i + 1) (.bool true)
                      have HM' := HRM.out.setOther (a := ⟨N, i + 1, none⟩) HNM.out (.bool true)
                      go_roundw
                      case rel => exact ⟨i + 1, _, by go_num, by omega, HR'.drew, Lib.hid (by rw [HSQ.out]; exact HSTP.out _ (HS4.out.trans rfl)), Lib.hid (HZ2.out _), HM'.drew, Lib.hid ((hb.out.setCell (p := ⟨N, i + 1, none⟩) HWM _).drew)⟩
                      case measure => simp [intOf]; omega
                    · have hne : ((c.toNat : Int) == (d.toNat : Int)) = false := by
                        rw [beq_eq_false_iff_ne]
                        intro e
                        exact hcd (UInt8.toNat_inj.1 (by omega))
                      rw [beq_eq_false_iff_ne.2 hcd] at HS4
                      clear hcd
                      go_wp2_with fail
                      go_region
                      go_wp2_with fail
                      have HR' := HRN.out.set (i + 1) (.bool false)
                      have HM' := HRM.out.setOther (a := ⟨N, i + 1, none⟩) HNM.out (.bool false)
                      go_roundw
                      case rel => exact ⟨i + 1, _, by go_num, by omega, HR'.drew, Lib.hid (by rw [HSQ.out]; exact HSTP.out _ (HS4.out.trans rfl)), Lib.hid (HZ2.out _), HM'.drew, Lib.hid ((hb.out.setCell (p := ⟨N, i + 1, none⟩) HWM _).drew)⟩
                      case measure => simp [intOf]; omega
              · obtain rfl : i = P.size := by omega
                have g5 : ¬ (P.size : Int) < P.size := by omega
                clear hrn hrm
                go_wp2_with fail
                go_roundw
                case rel => exact ⟨N, q + 1, g, rfl, by go_num, by omega, HWM, HRN.out, hg, hb⟩
                case measure => simp [intOf]; omega
          · obtain rfl : q = S.size := by omega
            have g3 : ¬ (S.size : Int) < S.size := by omega
            have x0 := hr.cell (i := P.size) (by omega)
            rw [hd.out P.size (Nat.le_refl _), List.take_of_length_le (by rw [← Lib.size_eq]; exact Nat.le_refl _), List.take_of_length_le (by rw [← Lib.size_eq]; exact Nat.le_refl _)] at x0
            go_wp2_with fail
            go_ret
            exact ⟨rfl, hb.out⟩
    · obtain rfl : k = P.size := by omega
      have g1 : ¬ (P.size : Int) < P.size := by omega
      have HST : Hid (Done P.data.toList (S.data.toList.take 0) P.size (fun j => .bool (decide (j ≤ P.size)))) := Lib.hid (fun j hj => by
        show Value.bool _ = Value.bool _
        rw [List.take_zero, ref_start (i := P.size) (by rw [← Lib.size_eq]; exact Nat.le_refl _) hw.out (fun h => absurd h (by rw [← Lib.size_eq]; omega)) j (by rw [← Lib.size_eq]; exact hj)])
      clear hr
      go_wp2_with fail
      clear hw
      go_loopw [5, 7] (fun m k wr => ∃ (M : Nat) (q : Nat) (f : Nat → Value), m = .slice (some ⟨M, 0, none⟩) (P.size + 1) (P.size + 1) ∧ k = .int .i64 (q : Int) ∧ q ≤ S.size ∧ w.heap.size ≤ M ∧ wr.rowIs M 4 (P.size + 1) f ∧ Hid (Done P.data.toList (S.data.toList.take q) P.size f) ∧ Hid (Below w.heap.size w wr)) (fun _ k _ => S.size - (intOf k).toNat)
      case atStart => exact ⟨w.heap.size, 0, _, rfl, rfl, Nat.zero_le _, Nat.le_refl _, HR.out, HST, hb⟩
      case round =>
        clear HR HST hb
        obtain ⟨M, q, f, rfl, rfl, hq, hM, hr, hd, hb⟩ := hrel
        by_cases hlq : q < S.size
        · have g3 : (q : Int) < S.size := by omega
          have HWM : w.heap.size ≤ wr.heap.size := hb.out.size
          have HR0 := Lib.hid (World.rowIs_made wr (.bool false) (P.size + 1) 4)
          have HRM0 := Lib.hid (hr.alloc (.cells (madeCells #[.bool false] (P.size + 1)) 4))
          have HB0 := Lib.hid (hb.out.alloc HWM (.cells (madeCells #[.bool false] (P.size + 1)) 4))
          have hMlt := hr.lt
          obtain ⟨N, hN⟩ : ∃ N, wr.heap.size = N := ⟨_, rfl⟩
          rw [hN] at HR0 HWM hMlt
          obtain ⟨d, hdd⟩ : ∃ d, S[q] = d := ⟨_, rfl⟩
          have HSQ : Hid (S.data.toList.take (q + 1) = S.data.toList.take q ++ [d]) := Lib.hid (by
            rw [take_at _ _ (by rw [← Lib.size_eq]; exact hlq), ← hdd]
            rfl)
          clear hr hb
          go_wp2_with fail
          go_loopw [9] (fun i wr => ∃ (k : Nat) (g : Nat → Value), i = .int .i64 (k : Int) ∧ k ≤ P.size ∧ wr.rowIs N 4 (P.size + 1) g ∧ Hid (Done P.data.toList (S.data.toList.take (q + 1)) k g) ∧ Hid (∀ j, k < j → g j = .bool false) ∧ wr.rowIs M 4 (P.size + 1) f ∧ Hid (Below w.heap.size w wr)) (fun i _ => P.size - (intOf i).toNat)
          case atStart => exact ⟨0, _, rfl, Nat.zero_le _, HR0.out, Lib.hid (fun j hj => by rw [show j = 0 by omega, HSQ.out, List.take_zero, nil_cons]), Lib.hid (fun j hj => rfl), HRM0.out, HB0⟩
          case round =>
            clear HR0 HRM0 HB0
            obtain ⟨i, g, rfl, hi, hrn, hg, hz, hrm, hb⟩ := hrel
            have HRN := Lib.hid hrn
            have HRM := Lib.hid hrm
            by_cases hip : i < P.size
            · have g5 : (i : Int) < P.size := by omega
              obtain ⟨c, hc⟩ : ∃ c, P[i] = c := ⟨_, rfl⟩
              have HPT : Hid (P.data.toList.take (i + 1) = P.data.toList.take i ++ [c]) := Lib.hid (by
                rw [take_at _ _ (by rw [← Lib.size_eq]; exact hip), ← hc]
                rfl)
              have HSTP : Hid (∀ b, mat (P.data.toList.take (i + 1)) (S.data.toList.take (q + 1)) = b → Done P.data.toList (S.data.toList.take (q + 1)) (i + 1) (fun j => if j = i + 1 then .bool b else g j)) := Lib.hid (fun b h => ref_step h hg.out)
              have HNM : Hid (M ≠ N) := Lib.hid (by omega)
              have HZ2 : Hid (∀ b j, i + 1 < j → (if j = i + 1 then Value.bool b else g j) = .bool false) := Lib.hid (fun b j hj => by rw [if_neg (by omega)]; exact hz.out j (by omega))
              have n1 := hrn.cell (i := i + 1) (by omega)
              have n2 := hrn.frozen (i + 1)
              have n0 := hrn.cell (i := i) (by omega)
              have m0 := hrm.cell (i := i) (by omega)
              have m1 := hrm.cell (i := i + 1) (by omega)
              rw [hg.out i (Nat.le_refl _)] at n0
              rw [hz.out (i + 1) (by omega)] at n1
              rw [hd.out i (by omega)] at m0
              rw [hd.out (i + 1) (by omega)] at m1
              rw [HSQ.out, HPT.out] at HSTP
              have e1 := HPT.out
              rw [e1] at m1
              obtain ⟨A, hA⟩ : ∃ A, mat (P.data.toList.take i) (S.data.toList.take q) = A := ⟨_, rfl⟩
              obtain ⟨B, hB⟩ : ∃ B, mat (P.data.toList.take i ++ [c]) (S.data.toList.take q) = B := ⟨_, rfl⟩
              obtain ⟨C, hC⟩ : ∃ C, mat (P.data.toList.take i) (S.data.toList.take (q + 1)) = C := ⟨_, rfl⟩
              rw [hA] at m0
              rw [hB] at m1
              rw [hC] at n0
              rw [HSQ.out] at hC
              have HS1 : Hid (mat (P.data.toList.take i ++ [42]) (S.data.toList.take q ++ [d]) = (A || mat (P.data.toList.take i ++ [42]) (S.data.toList.take q) || C)) := Lib.hid (by rw [end_star_cons, hA, hC])
              have HS2 : Hid (mat (P.data.toList.take i ++ [37]) (S.data.toList.take q ++ [d]) = ((A || mat (P.data.toList.take i ++ [37]) (S.data.toList.take q)) && d != 47 || C)) := Lib.hid (by rw [end_pct_cons, hA, hC])
              have HS3 : Hid (lit c → mat (P.data.toList.take i ++ [c]) (S.data.toList.take q ++ [d]) = (A && c == d)) := Lib.hid (fun h => by rw [end_lit_cons h, hA])
              have HBB := Lib.hid hB
              clear e1 hA hB hC hrn hrm
              rcases byte_cases c with rfl | rfl | hl
              · rw [HBB.out] at HS1
                clear HS2 HS3
                rcases (show A = true ∨ (A = false ∧ B = true) ∨ (A = false ∧ B = false) by cases A <;> cases B <;> simp) with rfl | ⟨rfl, rfl⟩ | ⟨rfl, rfl⟩
                · go_wp2_with fail
                  have HR' := HRN.out.set (i + 1) (.bool true)
                  have HM' := HRM.out.setOther (a := ⟨N, i + 1, none⟩) HNM.out (.bool true)
                  go_roundw
                  case rel => exact ⟨i + 1, _, by go_num, by omega, HR', Lib.hid (by rw [HSQ.out]; exact HSTP.out _ (HS1.out.trans rfl)), Lib.hid (HZ2.out _), HM', Lib.hid ((hb.out.setCell (p := ⟨N, i + 1, none⟩) HWM _))⟩
                  case measure => simp [intOf]; omega
                · go_wp2_with fail
                  have HR' := HRN.out.set (i + 1) (.bool true)
                  have HM' := HRM.out.setOther (a := ⟨N, i + 1, none⟩) HNM.out (.bool true)
                  go_roundw
                  case rel => exact ⟨i + 1, _, by go_num, by omega, HR', Lib.hid (by rw [HSQ.out]; exact HSTP.out _ (HS1.out.trans rfl)), Lib.hid (HZ2.out _), HM', Lib.hid ((hb.out.setCell (p := ⟨N, i + 1, none⟩) HWM _))⟩
                  case measure => simp [intOf]; omega
                · cases C
                  · go_wp2_with fail
                    have HR' := HRN.out.set (i + 1) (.bool false)
                    have HM' := HRM.out.setOther (a := ⟨N, i + 1, none⟩) HNM.out (.bool false)
                    go_roundw
                    case rel => exact ⟨i + 1, _, by go_num, by omega, HR', Lib.hid (by rw [HSQ.out]; exact HSTP.out _ (HS1.out.trans rfl)), Lib.hid (HZ2.out _), HM', Lib.hid ((hb.out.setCell (p := ⟨N, i + 1, none⟩) HWM _))⟩
                    case measure => simp [intOf]; omega
                  · go_wp2_with fail
                    have HR' := HRN.out.set (i + 1) (.bool true)
                    have HM' := HRM.out.setOther (a := ⟨N, i + 1, none⟩) HNM.out (.bool true)
                    go_roundw
                    case rel => exact ⟨i + 1, _, by go_num, by omega, HR', Lib.hid (by rw [HSQ.out]; exact HSTP.out _ (HS1.out.trans rfl)), Lib.hid (HZ2.out _), HM', Lib.hid ((hb.out.setCell (p := ⟨N, i + 1, none⟩) HWM _))⟩
                    case measure => simp [intOf]; omega
              · rw [HBB.out] at HS2
                clear HS1 HS3
                by_cases h47 : d = 47
                · subst h47
                  cases C
                  · rcases (show A = true ∨ (A = false ∧ B = true) ∨ (A = false ∧ B = false) by cases A <;> cases B <;> simp) with rfl | ⟨rfl, rfl⟩ | ⟨rfl, rfl⟩
                    · go_wp2_with fail
                      have HR' := HRN.out.set (i + 1) (.bool false)
                      have HM' := HRM.out.setOther (a := ⟨N, i + 1, none⟩) HNM.out (.bool false)
                      go_roundw
                      case rel => exact ⟨i + 1, _, by go_num, by omega, HR', Lib.hid (by rw [HSQ.out]; exact HSTP.out _ (HS2.out.trans rfl)), Lib.hid (HZ2.out _), HM', Lib.hid ((hb.out.setCell (p := ⟨N, i + 1, none⟩) HWM _))⟩
                      case measure => simp [intOf]; omega
                    · go_wp2_with fail
                      have HR' := HRN.out.set (i + 1) (.bool false)
                      have HM' := HRM.out.setOther (a := ⟨N, i + 1, none⟩) HNM.out (.bool false)
                      go_roundw
                      case rel => exact ⟨i + 1, _, by go_num, by omega, HR', Lib.hid (by rw [HSQ.out]; exact HSTP.out _ (HS2.out.trans rfl)), Lib.hid (HZ2.out _), HM', Lib.hid ((hb.out.setCell (p := ⟨N, i + 1, none⟩) HWM _))⟩
                      case measure => simp [intOf]; omega
                    · go_wp2_with fail
                      have HR' := HRN.out.set (i + 1) (.bool false)
                      have HM' := HRM.out.setOther (a := ⟨N, i + 1, none⟩) HNM.out (.bool false)
                      go_roundw
                      case rel => exact ⟨i + 1, _, by go_num, by omega, HR', Lib.hid (by rw [HSQ.out]; exact HSTP.out _ (HS2.out.trans rfl)), Lib.hid (HZ2.out _), HM', Lib.hid ((hb.out.setCell (p := ⟨N, i + 1, none⟩) HWM _))⟩
                      case measure => simp [intOf]; omega
                  · rcases (show A = true ∨ (A = false ∧ B = true) ∨ (A = false ∧ B = false) by cases A <;> cases B <;> simp) with rfl | ⟨rfl, rfl⟩ | ⟨rfl, rfl⟩
                    · go_wp2_with fail
                      have HR' := HRN.out.set (i + 1) (.bool true)
                      have HM' := HRM.out.setOther (a := ⟨N, i + 1, none⟩) HNM.out (.bool true)
                      go_roundw
                      case rel => exact ⟨i + 1, _, by go_num, by omega, HR', Lib.hid (by rw [HSQ.out]; exact HSTP.out _ (HS2.out.trans rfl)), Lib.hid (HZ2.out _), HM', Lib.hid ((hb.out.setCell (p := ⟨N, i + 1, none⟩) HWM _))⟩
                      case measure => simp [intOf]; omega
                    · go_wp2_with fail
                      have HR' := HRN.out.set (i + 1) (.bool true)
                      have HM' := HRM.out.setOther (a := ⟨N, i + 1, none⟩) HNM.out (.bool true)
                      go_roundw
                      case rel => exact ⟨i + 1, _, by go_num, by omega, HR', Lib.hid (by rw [HSQ.out]; exact HSTP.out _ (HS2.out.trans rfl)), Lib.hid (HZ2.out _), HM', Lib.hid ((hb.out.setCell (p := ⟨N, i + 1, none⟩) HWM _))⟩
                      case measure => simp [intOf]; omega
                    · go_wp2_with fail
                      have HR' := HRN.out.set (i + 1) (.bool true)
                      have HM' := HRM.out.setOther (a := ⟨N, i + 1, none⟩) HNM.out (.bool true)
                      go_roundw
                      case rel => exact ⟨i + 1, _, by go_num, by omega, HR', Lib.hid (by rw [HSQ.out]; exact HSTP.out _ (HS2.out.trans rfl)), Lib.hid (HZ2.out _), HM', Lib.hid ((hb.out.setCell (p := ⟨N, i + 1, none⟩) HWM _))⟩
                      case measure => simp [intOf]; omega
                · have hd7 : ((d.toNat : Int) != 47) = true := by
                    rw [bne_iff_ne]
                    intro e
                    exact h47 (UInt8.toNat_inj.1 (by show d.toNat = 47; omega))
                  have e7 : (d != 47) = true := by rw [bne_iff_ne]; exact h47
                  rw [e7] at HS2
                  clear h47 e7
                  rcases (show A = true ∨ (A = false ∧ B = true) ∨ (A = false ∧ B = false) by cases A <;> cases B <;> simp) with rfl | ⟨rfl, rfl⟩ | ⟨rfl, rfl⟩
                  · go_wp2_with fail
                    have HR' := HRN.out.set (i + 1) (.bool true)
                    have HM' := HRM.out.setOther (a := ⟨N, i + 1, none⟩) HNM.out (.bool true)
                    go_roundw
                    case rel => exact ⟨i + 1, _, by go_num, by omega, HR', Lib.hid (by rw [HSQ.out]; exact HSTP.out _ (HS2.out.trans rfl)), Lib.hid (HZ2.out _), HM', Lib.hid ((hb.out.setCell (p := ⟨N, i + 1, none⟩) HWM _))⟩
                    case measure => simp [intOf]; omega
                  · go_wp2_with fail
                    have HR' := HRN.out.set (i + 1) (.bool true)
                    have HM' := HRM.out.setOther (a := ⟨N, i + 1, none⟩) HNM.out (.bool true)
                    go_roundw
                    case rel => exact ⟨i + 1, _, by go_num, by omega, HR', Lib.hid (by rw [HSQ.out]; exact HSTP.out _ (HS2.out.trans rfl)), Lib.hid (HZ2.out _), HM', Lib.hid ((hb.out.setCell (p := ⟨N, i + 1, none⟩) HWM _))⟩
                    case measure => simp [intOf]; omega
                  · cases C
                    · go_wp2_with fail
                      have HR' := HRN.out.set (i + 1) (.bool false)
                      have HM' := HRM.out.setOther (a := ⟨N, i + 1, none⟩) HNM.out (.bool false)
                      go_roundw
                      case rel => exact ⟨i + 1, _, by go_num, by omega, HR', Lib.hid (by rw [HSQ.out]; exact HSTP.out _ (HS2.out.trans rfl)), Lib.hid (HZ2.out _), HM', Lib.hid ((hb.out.setCell (p := ⟨N, i + 1, none⟩) HWM _))⟩
                      case measure => simp [intOf]; omega
                    · go_wp2_with fail
                      have HR' := HRN.out.set (i + 1) (.bool true)
                      have HM' := HRM.out.setOther (a := ⟨N, i + 1, none⟩) HNM.out (.bool true)
                      go_roundw
                      case rel => exact ⟨i + 1, _, by go_num, by omega, HR', Lib.hid (by rw [HSQ.out]; exact HSTP.out _ (HS2.out.trans rfl)), Lib.hid (HZ2.out _), HM', Lib.hid ((hb.out.setCell (p := ⟨N, i + 1, none⟩) HWM _))⟩
                      case measure => simp [intOf]; omega
              · have HS4 := Lib.hid (HS3.out hl)
                have hn1 : ((c.toNat : Int) == 42) = false := by
                  rw [beq_eq_false_iff_ne]
                  intro e
                  exact hl.1 (UInt8.toNat_inj.1 (by show c.toNat = 42; omega))
                have hn2 : ((c.toNat : Int) == 37) = false := by
                  rw [beq_eq_false_iff_ne]
                  intro e
                  exact hl.2 (UInt8.toNat_inj.1 (by show c.toNat = 37; omega))
                clear HS1 HS2 HS3 hl
                cases A
                · go_wp2_with fail
                  go_region
                  go_wp2_with fail
                  have HR' := HRN.out.set (i + 1) (.bool false)
                  have HM' := HRM.out.setOther (a := ⟨N, i + 1, none⟩) HNM.out (.bool false)
                  go_roundw
                  case rel => exact ⟨i + 1, _, by go_num, by omega, HR'.drew, Lib.hid (by rw [HSQ.out]; exact HSTP.out _ (HS4.out.trans rfl)), Lib.hid (HZ2.out _), HM'.drew, Lib.hid ((hb.out.setCell (p := ⟨N, i + 1, none⟩) HWM _).drew)⟩
                  case measure => simp [intOf]; omega
                · by_cases hcd : c = d
                  · subst hcd
                    rw [beq_self_eq_true] at HS4
                    go_wp2_with fail
                    go_region
                    go_wp2_with fail
                    have HR' := HRN.out.set (i + 1) (.bool true)
                    have HM' := HRM.out.setOther (a := ⟨N, i + 1, none⟩) HNM.out (.bool true)
                    go_roundw
                    case rel => exact ⟨i + 1, _, by go_num, by omega, HR'.drew, Lib.hid (by rw [HSQ.out]; exact HSTP.out _ (HS4.out.trans rfl)), Lib.hid (HZ2.out _), HM'.drew, Lib.hid ((hb.out.setCell (p := ⟨N, i + 1, none⟩) HWM _).drew)⟩
                    case measure => simp [intOf]; omega
                  · have hne : ((c.toNat : Int) == (d.toNat : Int)) = false := by
                      rw [beq_eq_false_iff_ne]
                      intro e
                      exact hcd (UInt8.toNat_inj.1 (by omega))
                    rw [beq_eq_false_iff_ne.2 hcd] at HS4
                    clear hcd
                    go_wp2_with fail
                    go_region
                    go_wp2_with fail
                    have HR' := HRN.out.set (i + 1) (.bool false)
                    have HM' := HRM.out.setOther (a := ⟨N, i + 1, none⟩) HNM.out (.bool false)
                    go_roundw
                    case rel => exact ⟨i + 1, _, by go_num, by omega, HR'.drew, Lib.hid (by rw [HSQ.out]; exact HSTP.out _ (HS4.out.trans rfl)), Lib.hid (HZ2.out _), HM'.drew, Lib.hid ((hb.out.setCell (p := ⟨N, i + 1, none⟩) HWM _).drew)⟩
                    case measure => simp [intOf]; omega
            · obtain rfl : i = P.size := by omega
              have g5 : ¬ (P.size : Int) < P.size := by omega
              clear hrn hrm
              go_wp2_with fail
              go_roundw
              case rel => exact ⟨N, q + 1, g, rfl, by go_num, by omega, HWM, HRN.out, hg, hb⟩
              case measure => simp [intOf]; omega
        · obtain rfl : q = S.size := by omega
          have g3 : ¬ (S.size : Int) < S.size := by omega
          have x0 := hr.cell (i := P.size) (by omega)
          rw [hd.out P.size (Nat.le_refl _), List.take_of_length_le (by rw [← Lib.size_eq]; exact Nat.le_refl _), List.take_of_length_le (by rw [← Lib.size_eq]; exact Nat.le_refl _)] at x0
          go_wp2_with fail
          go_ret
          exact ⟨rfl, hb.out⟩
end Go.Proofs.YtnnbbjdidbggmaaDoor.Tr
