/-
  The reference's Values: the word and the parameters of a header's value, the parameters in a slice of its own. Conditions: the text has at most 2^30 bytes.
-/
import Derived.Test.YtkmopneeafbeaaaDoorPtRVal
import Derived.Test.YtkmopneeafbeaaaDoorRfFold
import Derived.Test.YtkmopneeafbeaaaDoorBuf
import Derived.Test.YtkmopneeafbeaaaDoorBuf2
import Derived.Deep.CutBlock
namespace Go.Proofs.YtkmopneeafbeaaaDoor.Pt
open Go Go.RowKit Go.Joins Kit F0

theorem rfold2 (l : List UInt8) (w : World) (hs : l.length ≤ 140737488351232) :
    Calls Tryd.prog 23 #[.string ⟨l.toArray⟩] w fun e w' => e = .returned (.string ⟨(Tx.foldL l).toArray⟩) ∧ Below w.heap.size w w' := Rf.fold_call ⟨l.toArray⟩ w (by rw [Lib.size_mk]; omega)
theorem ext_sp (s : ByteArray) (k t : Nat) : (s.extract k t).data.toList = (s.data.toList.take t).drop k := by rw [← Lib.toList_data, Lib.extract_toList, List.drop_take]

theorem fset1 {w : World} {G : Nat} {a b : Value} (d : Value) (h : w.heap[G]? = some (.cells #[a, b] 44 (0, 0))) : (w.setCell ⟨G, 1, none⟩ d).heap[G]? = some (.cells #[a, d] 44 (0, 0)) := by
  simp [World.setCell, Array.getElem?_modify, h]

set_option maxHeartbeats 4000000 in
set_option maxRecDepth 100000 in
theorem rvalues_any (s : ByteArray) (w : World) (hs : s.size ≤ 1073741824) :
    Calls Tryd.prog 11 #[.string s] w fun e w' => ∃ v, e = .returned (.tuple #[sV (valuesL s.data.toList).1, v]) ∧ RowF w.heap.size v (valuesL s.data.toList).2 w' ∧ Below w.heap.size w w' := by
  obtain ⟨VL, hVL⟩ : ∃ VL, valuesL s.data.toList = VL := ⟨_, rfl⟩
  rw [hVL]
  have HVL := Lib.hid hVL
  have HSL := Lib.hid (Lib.size_eq s)
  clear hVL
  go_enter Tryd.func11, Tryd.ntmps11
  go_wp2_with fail
  refine (until_any s [59] (Or.inl rfl) 0 (Nat.zero_le _) w (by omega)).mono ?_
  rintro e w1 ⟨rfl, k0, hk0, hk1, rfl, hno, hat⟩
  have HU := Lib.hid (UntL.mk' hk0 hk1 hno hat)
  have HVP := Lib.hid (values_par HU.out)
  have HX := Lib.hid (ext_sp s 0 k0)
  clear hno hat
  have hk1' : (k0 : Int) ≤ (s.size : Int) := by omega
  go_wp2_with fail
  refine (rtrim_any (s.extract 0 k0) w (by rw [ByteArray.size_extract]; omega)).mono ?_
  rintro e w1 ⟨rfl, rfl⟩
  rw [HX.out, List.drop_zero]
  have HTL : Hid ((trimL (s.data.toList.take k0)).length ≤ 1073741824) := Lib.hid (by
    have h1 := trimL_le (s.data.toList.take k0)
    rw [List.length_take, ← Lib.size_eq] at h1
    omega)
  unfold sV
  go_wp2_with fail
  refine (rfold2 (trimL (s.data.toList.take k0)) w (by have := HTL.out; omega)).mono ?_
  rintro e w1 ⟨rfl, hb1⟩
  have HW : Hid (VL = (smallL (s.data.toList.take k0), parO s.data.toList k0)) := Lib.hid (by rw [← HVL.out, HVP.out, List.drop_zero])
  have HSM : Hid (Tx.foldL (trimL (s.data.toList.take k0)) = VL.1) := Lib.hid (by rw [HW.out]; rfl)
  rw [HSM.out]
  obtain ⟨W1, hW1⟩ : ∃ W1 : ByteArray, (⟨VL.1.toArray⟩ : ByteArray) = W1 := ⟨_, rfl⟩
  rw [hW1]
  have HB1 := Lib.hid hb1
  have H0 : Hid (k0 < s.size → s.data.toList[k0]? = some 59) := Lib.hid (fun h => by
    have h2 : k0 < s.data.toList.length := by rw [← Lib.size_eq]; exact h
    have := HU.out.at_ h2
    rw [List.mem_singleton] at this
    rw [List.getElem?_eq_getElem h2, this])
  have HPA : Hid ([] ++ parO s.data.toList k0 = VL.2) := Lib.hid (by rw [HW.out]; rfl)
  have HW1 := Lib.hid hW1
  clear hW1 hb1
  go_wp2_with fail
  go_loopw [4, 6] (fun kv fv wr => ∃ (k : Nat) (fs : List Fl), kv = .int .i64 (k : Int) ∧ k ≤ s.size ∧ fs.length ≤ k ∧ Hid (k < s.size → s.data.toList[k]? = some 59) ∧ Hid (fs ++ parO s.data.toList k = VL.2) ∧ RowF w.heap.size fv fs wr ∧ Below w.heap.size w wr) (fun kv _ _ => s.size - (intOf kv).toNat)
  case atStart => exact ⟨k0, [], rfl, hk1, Nat.zero_le _, H0, HPA, RowF.new _ _, HB1.out⟩
  case round =>
    obtain ⟨k, fs, rfl, hk, hfl, hsemi, hpar, hrow, hb⟩ := hrel
    obtain ⟨va, vc, rfl⟩ := hrow.form
    have HR := Lib.hid (And.intro hrow hb)
    clear hrow hb
    by_cases hlt : k < s.size
    · have g1 : (k : Int) < (s.size : Int) := by omega
      go_upto_block 2 with fail
      go_cut [7] from 24 to 41 (fun j wx => ∃ i : Nat, j = .int .i64 (i : Int) ∧ i ≤ s.size ∧ Hid (BlkTo s.data.toList (k + 1) i) ∧ Hid (NoBlk s.data.toList i) ∧ wr = wx)
      case first =>
        go_wp2_with fail
        go_loop [7] (fun j => ∃ i : Nat, j = .int .i64 (i : Int) ∧ i ≤ s.size ∧ Hid (BlkTo s.data.toList (k + 1) i)) (fun j => s.size - (intOf j).toNat)
        case atStart => exact ⟨k + 1, by go_num, (show k + 1 ≤ s.size by omega), Lib.hid (BlkTo.start _ _ (by rw [← Lib.size_eq]; exact (show k + 1 ≤ s.size by omega)))⟩
        case round =>
          obtain ⟨i, rfl, hi, hbk⟩ := hrel
          by_cases hil : i < s.size
          · have g3 : (i : Int) < (s.size : Int) := by omega
            have HIL : Hid (i < s.data.toList.length ∧ True) := Lib.hid ⟨by rw [← Lib.size_eq]; exact hil, trivial⟩
            have HBG : Hid (s.data.toList[i]'(HIL.out.1) = s[i]) := Lib.hid (Kit.byte_get s i hil)
            cases hbc : blk s[i]
            · have HNB : Hid (NoBlk s.data.toList i) := Lib.hid (fun h => by rw [HBG.out]; exact hbc)
              rw [blk_eq] at hbc
              have n1 : s[i].toNat ≠ 32 := fun e => by rw [show s[i] = 32 from UInt8.toNat_inj.1 e] at hbc; cases hbc
              have n2 : s[i].toNat ≠ 9 := fun e => by rw [show s[i] = 9 from UInt8.toNat_inj.1 e] at hbc; cases hbc
              have q1 : ((s[i].toNat : Int) == 32) = false := by rw [beq_eq_false_iff_ne]; omega
              have q2 : ((s[i].toNat : Int) == 9) = false := by rw [beq_eq_false_iff_ne]; omega
              have q3 : ¬ (s[i].toNat : Int) = 32 := by omega
              clear hbc n1 n2
              go_wp2_with fail
              go_meet
              exact ⟨i, rfl, hi, hbk, HNB, rfl⟩
            · have HBK : Hid (BlkTo s.data.toList (k + 1) (i + 1)) := Lib.hid (hbk.out.step HIL.out.1 (by rw [HBG.out]; exact hbc))
              rw [blk_eq, Bool.or_eq_true, beq_iff_eq, beq_iff_eq] at hbc
              by_cases h32 : s[i] = 32
              · have q1 : ((s[i].toNat : Int) == 32) = true := by rw [h32]; rfl
                have q3 : (s[i].toNat : Int) = 32 := by rw [h32]; rfl
                clear hbc h32
                go_wp2_with fail
                go_round
                case rel => exact ⟨i + 1, by go_num, by omega, HBK⟩
                case measure => simp [intOf]; omega
              · have h9 : s[i] = 9 := by
                  rcases hbc with e | e
                  · exact absurd e h32
                  · exact e
                have n1 : s[i].toNat ≠ 32 := fun e => h32 (UInt8.toNat_inj.1 e)
                have q1 : ((s[i].toNat : Int) == 32) = false := by rw [beq_eq_false_iff_ne]; omega
                have q2 : ((s[i].toNat : Int) == 9) = true := by rw [h9]; rfl
                have q3 : ¬ (s[i].toNat : Int) = 32 := by omega
                clear h32 hbc n1 h9
                go_wp2_with fail
                go_round
                case rel => exact ⟨i + 1, by go_num, by omega, HBK⟩
                case measure => simp [intOf]; omega
          · have g3 : ¬ (i : Int) < (s.size : Int) := by omega
            have HNB : Hid (NoBlk s.data.toList i) := Lib.hid (fun h => by rw [← Lib.size_eq] at h; exact absurd h hil)
            go_wp2_with fail
            go_meet
            exact ⟨i, rfl, hi, hbk, HNB, rfl⟩
      case rest =>
        obtain ⟨i, rfl, hi, HBK, HNB, rfl⟩ := hcut
        have HIK : Hid (k + 1 ≤ i) := Lib.hid HBK.out.1
        go_wp2_with fail
        refine (until_any s [61, 59] (Or.inr (Or.inl rfl)) i hi wr (by omega)).mono ?_
        rintro e w2 ⟨rfl, e0, he0, he1, rfl, hno, hat⟩
        have HU := Lib.hid (UntL.mk' he0 he1 hno hat)
        have HX := Lib.hid (ext_sp s i e0)
        have HNM := Lib.hid (NameTo.mk' HBK.out HU.out)
        have HAT : Hid (∀ h : e0 < s.size, s[e0] = 61 ∨ s[e0] = 59) := Lib.hid (fun h => by have := hat h; simpa using this)
        clear hno hat
        have hie : (i : Int) ≤ (e0 : Int) := by omega
        have hes : (e0 : Int) ≤ (s.size : Int) := by omega
        obtain ⟨X, hX⟩ : ∃ X, s.extract i e0 = X := ⟨_, rfl⟩
        rw [hX] at HX
        have hXs : X.size ≤ 1073741824 := by rw [← hX, ByteArray.size_extract]; omega
        obtain ⟨A, hA⟩ : ∃ A, (s.data.toList.take e0).drop i = A := ⟨_, rfl⟩
        rw [hA] at HX HNM
        clear hA
        go_wp2_with fail
        refine (rtrim_any X wr (by omega)).mono ?_
        rintro e w2 ⟨rfl, rfl⟩
        rw [HX.out]
        have HTL : Hid ((trimL A).length ≤ 1073741824) := Lib.hid (by
          have h1 := trimL_le A
          rw [← HX.out, ← Lib.size_eq] at h1
          rw [← HX.out]
          omega)
        unfold sV
        go_wp2_with fail
        refine (rfold2 (trimL A) wr (by have := HTL.out; omega)).mono ?_
        rintro e w2 ⟨rfl, hb2⟩
        obtain ⟨nm, hnm⟩ : ∃ nm, Tx.foldL (trimL A) = nm := ⟨_, rfl⟩
        have HNM2 : Hid (NameTo s.data.toList k e0 nm) := Lib.hid (by rw [← hnm]; exact HNM.out)
        rw [hnm]
        clear hnm hX
        have HB2 := Lib.hid hb2
        clear hb2 HNM HTL
        have HBLK := Lib.hid (Kit.fresh_block w2 #[.string ⟨nm.toArray⟩, .string ⟨#[]⟩] 44)
        have HBA : Hid (Below w2.heap.size w2 (w2.alloc (.cells #[.string ⟨nm.toArray⟩, .string ⟨#[]⟩] 44))) := Lib.hid ((Below.refl _ w2).alloc (Nat.le_refl _) _)
        obtain ⟨W3, hW3⟩ : ∃ W3, w2.alloc (.cells #[.string ⟨nm.toArray⟩, .string ⟨#[]⟩] 44) = W3 := ⟨_, rfl⟩
        rw [hW3] at HBLK HBA
        have HW3 := Lib.hid hW3
        clear hW3
        go_upto_region 11 with fail
        rw [HW3.out]
        obtain ⟨G, hG⟩ : ∃ G, w2.heap.size = G := ⟨_, rfl⟩
        rw [hG] at HBLK HBA ⊢
        have HG := Lib.hid hG
        clear hG
        have hke : k < e0 := HNM2.out.lt
        go_cut [62] from 53 to 61 (fun tv wx => ∃ B : Bool, tv = .bool B ∧ Hid (B = true → ∃ h : e0 < s.size, s[e0] = 61) ∧ Hid (B = false → ∀ h : e0 < s.size, s[e0] = 59) ∧ W3 = wx)
        case first =>
          by_cases hel : e0 < s.size
          · have g2 : (e0 : Int) < (s.size : Int) := by omega
            rcases HAT.out hel with h61 | h59
            · have q1 : ((s[e0].toNat : Int) == 61) = true := by rw [h61]; rfl
              have q2 : (s[e0].toNat : Int) = 61 := by rw [h61]; rfl
              have HH := Lib.hid h61
              clear h61
              go_wp2_with fail
              go_meet
              exact ⟨true, rfl, Lib.hid (fun _ => ⟨hel, HH.out⟩), Lib.hid (fun h => by cases h), rfl⟩
            · have q1 : ((s[e0].toNat : Int) == 61) = false := by rw [h59]; rfl
              have q2 : ¬ (s[e0].toNat : Int) = 61 := by rw [h59]; decide
              have HH := Lib.hid h59
              clear h59
              go_wp2_with fail
              go_meet
              exact ⟨false, rfl, Lib.hid (fun h => by cases h), Lib.hid (fun _ _ => HH.out), rfl⟩
          · have g2 : ¬ (e0 : Int) < (s.size : Int) := by omega
            go_wp2_with fail
            go_meet
            exact ⟨false, rfl, Lib.hid (fun h => by cases h), Lib.hid (fun _ h => absurd h hel), rfl⟩
        case rest =>
        obtain ⟨B, rfl, HBT, HBF, rfl⟩ := hcut
        go_upto_if 62 with fail
        go_cut [4, 7, 10] from 63 to 144 (fun kv _ _ wx => ∃ (k2 : Nat) (vl : List UInt8), kv = .int .i64 (k2 : Int) ∧ k < k2 ∧ k2 ≤ s.size ∧ Hid (Nx s.data.toList k k2 nm vl) ∧ Hid (wx.heap[G]? = some (.cells #[.string ⟨nm.toArray⟩, .string ⟨vl.toArray⟩] 44 (0, 0))) ∧ Hid (Below G w2 wx))
        case first =>
          cases B
          · by_cases hel : e0 < s.size
            · have HEL : Hid (e0 < s.data.toList.length ∧ True) := Lib.hid ⟨by rw [← Lib.size_eq]; exact hel, trivial⟩
              have HE59 : Hid (s.data.toList[e0]'(HEL.out.1) = 59) := Lib.hid (by rw [Kit.byte_get s e0 hel]; exact HBF.out rfl hel)
              go_wp2_with fail
              go_meet
              exact ⟨e0, [], rfl, hke, he1, Lib.hid (nx_semi HNM2.out HEL.out.1 HE59.out), HBLK, HBA⟩
            · have HEE : Hid (e0 = s.data.toList.length) := Lib.hid (by rw [← Lib.size_eq]; omega)
              go_wp2_with fail
              go_meet
              exact ⟨e0, [], rfl, hke, he1, Lib.hid (nx_end HNM2.out HEE.out), HBLK, HBA⟩
          · obtain ⟨hel, h61⟩ := HBT.out rfl
            have g2 : (e0 : Int) < (s.size : Int) := by omega
            have HEL : Hid (e0 < s.data.toList.length ∧ True) := Lib.hid ⟨by rw [← Lib.size_eq]; exact hel, trivial⟩
            have HE61 : Hid (s.data.toList[e0]'(HEL.out.1) = 61) := Lib.hid (by rw [Kit.byte_get s e0 hel]; exact h61)
            clear h61
            go_upto_block 4 with fail
            go_cut [7] from 65 to 82 (fun j wx => ∃ i : Nat, j = .int .i64 (i : Int) ∧ i ≤ s.size ∧ Hid (BlkTo s.data.toList (e0 + 1) i) ∧ Hid (NoBlk s.data.toList i) ∧ W3 = wx)
            case first =>
              go_wp2_with fail
              go_loop [7] (fun j => ∃ i : Nat, j = .int .i64 (i : Int) ∧ i ≤ s.size ∧ Hid (BlkTo s.data.toList (e0 + 1) i)) (fun j => s.size - (intOf j).toNat)
              case atStart => exact ⟨e0 + 1, by go_num, (show e0 + 1 ≤ s.size by omega), Lib.hid (BlkTo.start _ _ (by rw [← Lib.size_eq]; exact (show e0 + 1 ≤ s.size by omega)))⟩
              case round =>
                obtain ⟨i, rfl, hi, hbk⟩ := hrel
                by_cases hil : i < s.size
                · have g3 : (i : Int) < (s.size : Int) := by omega
                  have HIL : Hid (i < s.data.toList.length ∧ True) := Lib.hid ⟨by rw [← Lib.size_eq]; exact hil, trivial⟩
                  have HBG : Hid (s.data.toList[i]'(HIL.out.1) = s[i]) := Lib.hid (Kit.byte_get s i hil)
                  cases hbc : blk s[i]
                  · have HNB : Hid (NoBlk s.data.toList i) := Lib.hid (fun h => by rw [HBG.out]; exact hbc)
                    rw [blk_eq] at hbc
                    have n1 : s[i].toNat ≠ 32 := fun e => by rw [show s[i] = 32 from UInt8.toNat_inj.1 e] at hbc; cases hbc
                    have n2 : s[i].toNat ≠ 9 := fun e => by rw [show s[i] = 9 from UInt8.toNat_inj.1 e] at hbc; cases hbc
                    have q1 : ((s[i].toNat : Int) == 32) = false := by rw [beq_eq_false_iff_ne]; omega
                    have q2 : ((s[i].toNat : Int) == 9) = false := by rw [beq_eq_false_iff_ne]; omega
                    have q3 : ¬ (s[i].toNat : Int) = 32 := by omega
                    clear hbc n1 n2
                    go_wp2_with fail
                    go_meet
                    exact ⟨i, rfl, hi, hbk, HNB, rfl⟩
                  · have HBK : Hid (BlkTo s.data.toList (e0 + 1) (i + 1)) := Lib.hid (hbk.out.step HIL.out.1 (by rw [HBG.out]; exact hbc))
                    rw [blk_eq, Bool.or_eq_true, beq_iff_eq, beq_iff_eq] at hbc
                    by_cases h32 : s[i] = 32
                    · have q1 : ((s[i].toNat : Int) == 32) = true := by rw [h32]; rfl
                      have q3 : (s[i].toNat : Int) = 32 := by rw [h32]; rfl
                      clear hbc h32
                      go_wp2_with fail
                      go_round
                      case rel => exact ⟨i + 1, by go_num, by omega, HBK⟩
                      case measure => simp [intOf]; omega
                    · have h9 : s[i] = 9 := by
                        rcases hbc with e | e
                        · exact absurd e h32
                        · exact e
                      have n1 : s[i].toNat ≠ 32 := fun e => h32 (UInt8.toNat_inj.1 e)
                      have q1 : ((s[i].toNat : Int) == 32) = false := by rw [beq_eq_false_iff_ne]; omega
                      have q2 : ((s[i].toNat : Int) == 9) = true := by rw [h9]; rfl
                      have q3 : ¬ (s[i].toNat : Int) = 32 := by omega
                      clear h32 hbc n1 h9
                      go_wp2_with fail
                      go_round
                      case rel => exact ⟨i + 1, by go_num, by omega, HBK⟩
                      case measure => simp [intOf]; omega
                · have g3 : ¬ (i : Int) < (s.size : Int) := by omega
                  have HNB : Hid (NoBlk s.data.toList i) := Lib.hid (fun h => by rw [← Lib.size_eq] at h; exact absurd h hil)
                  go_wp2_with fail
                  go_meet
                  exact ⟨i, rfl, hi, hbk, HNB, rfl⟩
            case rest =>
              obtain ⟨i2, rfl, hi2, HBK2, HNB2, rfl⟩ := hcut
              have HIE : Hid (e0 + 1 ≤ i2) := Lib.hid HBK2.out.1
              obtain ⟨hit, hhit⟩ : ∃ b : Bool, decide (∃ h : i2 < s.size, s[i2] = 34) = b := ⟨_, rfl⟩
              cases hit
              · have hno34 : ∀ h : i2 < s.size, s[i2] ≠ 34 := fun h e => by
                  have := of_decide_eq_false hhit
                  exact this ⟨h, e⟩
                have HN34 := Lib.hid hno34
                clear hhit
                have HWAY : Hid (∀ (k2 : Nat) (hk2 : UntL s.data.toList [59] i2 k2 ((s.data.toList.take k2).drop i2)), Nx s.data.toList k k2 nm (trimL ((s.data.toList.take k2).drop i2))) := Lib.hid (fun k2 hk2 => by
                  by_cases h : i2 < s.size
                  · have h2 : i2 < s.data.toList.length := by rw [← Lib.size_eq]; exact h
                    exact nx_value HNM2.out HEL.out.1 HE61.out HBK2.out HNB2.out h2 (by rw [Kit.byte_get s i2 h]; exact HN34.out h) hk2
                  · have h2 : i2 = s.data.toList.length := by rw [← Lib.size_eq]; omega
                    have h3 : k2 = s.data.toList.length := by have a1 := hk2.ge; have a2 := hk2.le; omega
                    have h4 : (s.data.toList.take k2).drop i2 = [] := List.drop_of_length_le (by rw [List.length_take]; omega)
                    rw [h4, h3]
                    exact nx_empty HNM2.out HEL.out.1 HE61.out HBK2.out h2)
                have HSTEP : Hid (∀ (k2 : Nat), UntL s.data.toList [59] i2 k2 ((s.data.toList.take k2).drop i2) → k < k2) := Lib.hid (fun k2 hk2 => by
                  have a1 := hk2.ge
                  have a2 := HIE.out
                  omega)
                by_cases hil2 : i2 < s.size
                · have g4 : (i2 : Int) < (s.size : Int) := by omega
                  have n1 : s[i2].toNat ≠ 34 := fun e => hno34 hil2 (UInt8.toNat_inj.1 e)
                  have q3 : ((s[i2].toNat : Int) == 34) = false := by rw [beq_eq_false_iff_ne]; omega
                  have q4 : ¬ (s[i2].toNat : Int) = 34 := by omega
                  clear n1 hno34
                  go_wp2_with fail
                  refine (until_any s [59] (Or.inl rfl) i2 hi2 W3 (by omega)).mono ?_
                  rintro e w4 ⟨rfl, k2, hk20, hk21, rfl, hno, hat⟩
                  have HU2 := Lib.hid (UntL.mk' hk20 hk21 hno hat)
                  have HX2 := Lib.hid (ext_sp s i2 k2)
                  clear hno hat
                  have hk2a : (i2 : Int) ≤ (k2 : Int) := by omega
                  have hk2b : (k2 : Int) ≤ (s.size : Int) := by omega
                  go_wp2_with fail
                  refine (rtrim_any (s.extract i2 k2) W3 (by rw [ByteArray.size_extract]; omega)).mono ?_
                  rintro e w4 ⟨rfl, rfl⟩
                  rw [HX2.out]
                  obtain ⟨vl, hvl⟩ : ∃ vl, trimL ((s.data.toList.take k2).drop i2) = vl := ⟨_, rfl⟩
                  have HNX := Lib.hid (HWAY.out k2 HU2.out)
                  rw [hvl] at HNX ⊢
                  clear hvl
                  have hkk := HSTEP.out k2 HU2.out
                  have HBL := Lib.hid (fset1 (.string ⟨vl.toArray⟩) HBLK.out)
                  have HBW := Lib.hid (HBA.out.setCell (p := ⟨G, 1, none⟩) (Nat.le_refl _) (.string ⟨vl.toArray⟩))
                  have c1 : W3.cell? ⟨G, 1, none⟩ = some (.string ⟨#[]⟩) := by rw [Lib.cell_of_heap HBLK.out]; rfl
                  have f1 := Lib.frozen_of_heap HBLK.out 1
                  unfold sV
                  go_wp2_with fail
                  go_meet
                  exact ⟨k2, vl, rfl, hkk, hk21, HNX, HBL, HBW⟩
                · have g4 : ¬ (i2 : Int) < (s.size : Int) := by omega
                  clear hno34
                  go_wp2_with fail
                  refine (until_any s [59] (Or.inl rfl) i2 hi2 W3 (by omega)).mono ?_
                  rintro e w4 ⟨rfl, k2, hk20, hk21, rfl, hno, hat⟩
                  have HU2 := Lib.hid (UntL.mk' hk20 hk21 hno hat)
                  have HX2 := Lib.hid (ext_sp s i2 k2)
                  clear hno hat
                  have hk2a : (i2 : Int) ≤ (k2 : Int) := by omega
                  have hk2b : (k2 : Int) ≤ (s.size : Int) := by omega
                  go_wp2_with fail
                  refine (rtrim_any (s.extract i2 k2) W3 (by rw [ByteArray.size_extract]; omega)).mono ?_
                  rintro e w4 ⟨rfl, rfl⟩
                  rw [HX2.out]
                  obtain ⟨vl, hvl⟩ : ∃ vl, trimL ((s.data.toList.take k2).drop i2) = vl := ⟨_, rfl⟩
                  have HNX := Lib.hid (HWAY.out k2 HU2.out)
                  rw [hvl] at HNX ⊢
                  clear hvl
                  have hkk := HSTEP.out k2 HU2.out
                  have HBL := Lib.hid (fset1 (.string ⟨vl.toArray⟩) HBLK.out)
                  have HBW := Lib.hid (HBA.out.setCell (p := ⟨G, 1, none⟩) (Nat.le_refl _) (.string ⟨vl.toArray⟩))
                  have c1 : W3.cell? ⟨G, 1, none⟩ = some (.string ⟨#[]⟩) := by rw [Lib.cell_of_heap HBLK.out]; rfl
                  have f1 := Lib.frozen_of_heap HBLK.out 1
                  unfold sV
                  go_wp2_with fail
                  go_meet
                  exact ⟨k2, vl, rfl, hkk, hk21, HNX, HBL, HBW⟩
              · obtain ⟨hil2, h34⟩ := of_decide_eq_true hhit
                clear hhit
                have g4 : (i2 : Int) < (s.size : Int) := by omega
                have q3 : ((s[i2].toNat : Int) == 34) = true := by rw [h34]; rfl
                have q4 : (s[i2].toNat : Int) = 34 := by rw [h34]; rfl
                have HI2 : Hid (i2 < s.data.toList.length ∧ True) := Lib.hid ⟨by rw [← Lib.size_eq]; exact hil2, trivial⟩
                have H34 : Hid (s.data.toList[i2]'(HI2.out.1) = 34) := Lib.hid (by rw [Kit.byte_get s i2 hil2]; exact h34)
                clear h34
                go_upto_block 6 with fail
                go_cut [7, 10] from 95 to 125 (fun j bv wx => ∃ (i3 : Nat) (l : List UInt8), j = .int .i64 (i3 : Int) ∧ i3 ≤ s.size ∧ Hid (i2 + 1 ≤ i3) ∧ Hid (UnqTo s.data.toList (i2 + 1) i3 l) ∧ Hid (∀ h : i3 < s.data.toList.length, s.data.toList[i3] = 34) ∧ Buf W3 bv l wx)
                case first =>
                  go_wp2_with fail
                  go_loopw [7, 10] (fun j bv wr => ∃ (i : Nat) (l : List UInt8), j = .int .i64 (i : Int) ∧ i ≤ s.size ∧ l.length ≤ i ∧ Hid (UnqTo s.data.toList (i2 + 1) i l) ∧ Buf W3 bv l wr) (fun j _ _ => s.size - (intOf j).toNat)
                  case atStart => exact ⟨i2 + 1, [], by go_num, hil2, Nat.zero_le _, Lib.hid (UnqTo.start _ _ (by rw [← Lib.size_eq]; exact hil2)), Buf.empty (Below.refl _ _)⟩
                  case round =>
                    obtain ⟨i, l, rfl, hi, hll, hun, hB⟩ := hrel
                    clear q3 q4
                    have HGE : Hid (i2 + 1 ≤ i) := Lib.hid hun.out.1
                    by_cases hil : i < s.size
                    · have g3 : (i : Int) < (s.size : Int) := by omega
                      have HIL : Hid (i < s.data.toList.length ∧ True) := Lib.hid ⟨by rw [← Lib.size_eq]; exact hil, trivial⟩
                      have HBG : Hid (s.data.toList[i]'(HIL.out.1) = s[i]) := Lib.hid (Kit.byte_get s i hil)
                      by_cases h34 : s[i] = 34
                      · have HD : Hid (∀ h : i < s.data.toList.length, s.data.toList[i] = 34) := Lib.hid (fun h => by rw [Kit.byte_get s i hil]; exact h34)
                        have q3 : ((s[i].toNat : Int) != 34) = false := by rw [h34]; rfl
                        have q4 : (s[i].toNat : Int) = 34 := by rw [h34]; rfl
                        clear h34
                        go_wp2_with fail
                        go_meet
                        exact ⟨i, l, rfl, hi, HGE, hun, HD, hB⟩
                      · have n1 : s[i].toNat ≠ 34 := fun e => h34 (UInt8.toNat_inj.1 e)
                        have H34 : Hid (s.data.toList[i]'(HIL.out.1) ≠ 34) := Lib.hid (by rw [HBG.out]; exact h34)
                        have q3 : ((s[i].toNat : Int) != 34) = true := by simp only [bne_iff_ne, ne_eq]; omega
                        have q4 : ¬ (s[i].toNat : Int) = 34 := by omega
                        clear h34 n1
                        by_cases h92 : s[i] = 92
                        · by_cases hn : i + 1 < s.size
                          · have g5 : (i : Int) + 1 < (s.size : Int) := by omega
                            have HNL : Hid (i + 1 < s.data.toList.length ∧ True) := Lib.hid ⟨by rw [← Lib.size_eq]; exact hn, trivial⟩
                            have HN1 : Hid (UnqTo s.data.toList (i2 + 1) (i + 2) (l ++ [s[i + 1]])) := Lib.hid (by
                              have := hun.out.esc HNL.out.1 (by rw [HBG.out]; exact h92)
                              rw [Kit.byte_get s (i + 1) hn] at this
                              exact this)
                            have q5 : ((s[i].toNat : Int) == 92) = true := by rw [h92]; rfl
                            have q6 : (s[i].toNat : Int) = 92 := by rw [h92]; rfl
                            clear h92
                            have hl5 : l.length + 1 ≤ 140737488355328 := by omega
                            go_wp2_with (at_builtin; refine Buf.app rfl _ _ rfl W3 _ _ _ hB _ [s[i + 1]] 1 1 rfl rfl rfl rfl hl5 ?_)
                            intro v2 w4 hB2
                            clear hB
                            go_wp2_with fail
                            go_roundw
                            case rel => exact ⟨i + 2, l ++ [s[i + 1]], by go_num, by omega, by rw [List.length_append, List.length_singleton]; omega, HN1, hB2⟩
                            case measure => simp [intOf]; omega
                          · have g5 : ¬ (i : Int) + 1 < (s.size : Int) := by omega
                            have HN1 : Hid (UnqTo s.data.toList (i2 + 1) (i + 1) (l ++ [s[i]])) := Lib.hid (by
                              have := hun.out.byte HIL.out.1 H34.out (Or.inr (by rw [← Lib.size_eq]; omega))
                              rw [HBG.out] at this
                              exact this)
                            have q5 : ((s[i].toNat : Int) == 92) = true := by rw [h92]; rfl
                            have q6 : (s[i].toNat : Int) = 92 := by rw [h92]; rfl
                            clear h92
                            have hl5 : l.length + 1 ≤ 140737488355328 := by omega
                            go_wp2_with (at_builtin; refine Buf.app rfl _ _ rfl W3 _ _ _ hB _ [s[i]] 1 1 rfl ?pc2 rfl rfl hl5 ?_)
                            case pc2 => simp [Lib.byteCells, q6]
                            intro v2 w4 hB2
                            clear hB
                            go_wp2_with fail
                            go_roundw
                            case rel => exact ⟨i + 1, l ++ [s[i]], by go_num, by omega, by rw [List.length_append, List.length_singleton]; omega, HN1, hB2⟩
                            case measure => simp [intOf]; omega
                        · have HN1 : Hid (UnqTo s.data.toList (i2 + 1) (i + 1) (l ++ [s[i]])) := Lib.hid (by
                            have := hun.out.byte HIL.out.1 H34.out (Or.inl (by rw [HBG.out]; exact h92))
                            rw [HBG.out] at this
                            exact this)
                          have n2 : s[i].toNat ≠ 92 := fun e => h92 (UInt8.toNat_inj.1 e)
                          have q5 : ((s[i].toNat : Int) == 92) = false := by rw [beq_eq_false_iff_ne]; omega
                          have q6 : ¬ (s[i].toNat : Int) = 92 := by omega
                          clear h92 n2
                          have hl5 : l.length + 1 ≤ 140737488355328 := by omega
                          go_wp2_with (at_builtin; refine Buf.app rfl _ _ rfl W3 _ _ _ hB _ [s[i]] 1 1 rfl rfl rfl rfl hl5 ?_)
                          intro v2 w4 hB2
                          clear hB
                          go_wp2_with fail
                          go_roundw
                          case rel => exact ⟨i + 1, l ++ [s[i]], by go_num, by omega, by rw [List.length_append, List.length_singleton]; omega, HN1, hB2⟩
                          case measure => simp [intOf]; omega
                    · have g3 : ¬ (i : Int) < (s.size : Int) := by omega
                      have HD : Hid (∀ h : i < s.data.toList.length, s.data.toList[i] = 34) := Lib.hid (fun h => by rw [← Lib.size_eq] at h; exact absurd h hil)
                      go_wp2_with fail
                      go_meet
                      exact ⟨i, l, rfl, hi, HGE, hun, HD, hB⟩
                case rest =>
                  clear q3 q4
                  obtain ⟨i3, vl, rfl, hi3, HI3, HUN, HD34, hB⟩ := hcut
                  obtain ⟨m, hm⟩ : ∃ m, min (i3 + 1) s.size = m := ⟨_, rfl⟩
                  have hms : m ≤ s.size := by omega
                  have HM : Hid (min (i3 + 1) s.data.toList.length = m) := Lib.hid (by rw [← Lib.size_eq]; exact hm)
                  have HMI : Hid (min ((i3 : Int) + 1) (s.size : Int) = (m : Int)) := Lib.hid (by omega)
                  have HM3 : Hid (i2 + 1 ≤ m) := Lib.hid (by have := HI3.out; omega)
                  have hmin : ∀ (ts : Array TypeId) (t : TypeId) (W : World), (Builtin.min_ ts t #[.int .i64 ((i3 : Int) + 1), .int .i64 (s.size : Int)]).run Tryd.prog W = .ok (.int .i64 (m : Int)) W := fun ts t W => by
                    have h9 := HMI.out
                    simp [Builtin.min_, Builtin.min2]
                    split <;> omega
                  have hstr := hB.string
                  have HGL : Hid (G < W3.heap.size) := Lib.hid (Array.getElem?_eq_some_iff.1 HBLK.out).1
                  have hblk4 := (hB.below.block G HGL.out).trans HBLK.out
                  have HBL := Lib.hid (fset1 (.string ⟨vl.toArray⟩) hblk4)
                  have HBW := Lib.hid ((HBA.out.trans (hB.below.mono (Nat.le_of_lt HGL.out))).setCell (p := ⟨G, 1, none⟩) (Nat.le_refl _) (.string ⟨vl.toArray⟩))
                  have c1 : wc.cell? ⟨G, 1, none⟩ = some (.string ⟨#[]⟩) := by rw [Lib.cell_of_heap hblk4]; rfl
                  have f1 := Lib.frozen_of_heap hblk4 1
                  clear hm hblk4 hB
                  go_wp2_with fail
                  refine (until_any s [59] (Or.inl rfl) m hms _ (by omega)).mono ?_
                  rintro e w4 ⟨rfl, k2, hk20, hk21, rfl, hno, hat⟩
                  have HU2 := Lib.hid (UntL.mk' hk20 hk21 hno hat)
                  clear hno hat
                  have HNX : Hid (Nx s.data.toList k k2 nm vl) := Lib.hid (nx_quote HNM2.out HEL.out.1 HE61.out HBK2.out HI2.out.1 H34.out HUN.out HD34.out (by rw [HM.out]; exact HU2.out))
                  have hkk : k < k2 := by have := HIE.out; have := HM3.out; omega
                  go_wp2_with fail
                  go_meet
                  exact ⟨k2, vl, rfl, hkk, hk21, HNX, HBL, HBW⟩
        case rest =>
          obtain ⟨k2, vl, rfl, hkk, hk2, HNX, HBL, HBW⟩ := hcut
          have HHS : Hid (k < s.data.toList.length ∧ True) := Lib.hid ⟨by rw [← Lib.size_eq]; exact hlt, trivial⟩
          have HPS := Lib.hid (par_step HHS.out.1 HNX.out)
          have HSE : Hid (k2 < s.size → s.data.toList[k2]? = some 59) := Lib.hid (fun h => by
            have h2 : k2 < s.data.toList.length := by rw [← Lib.size_eq]; exact h
            rw [List.getElem?_eq_getElem h2, HNX.out.2.2.1 h2])
          have HBB4 : Hid (Below w.heap.size w wc) := Lib.hid (by
            have h1 := HB2.out
            have h2 := HBW.out
            rw [← HG.out] at h2
            exact HR.out.2.trans ((h1.trans (h2.mono h1.size)).mono HR.out.2.size))
          have HROW4 : Hid (RowF w.heap.size (.slice va fs.length vc) fs wc) := Lib.hid ((HR.out.1.below HB2.out).below (by rw [HG.out]; exact HBW.out))
          have c0 : wc.cell? ⟨G, 0, none⟩ = some (.string ⟨nm.toArray⟩) := by rw [Lib.cell_of_heap HBL.out]; rfl
          have c1 : wc.cell? ⟨G, 1, none⟩ = some (.string ⟨vl.toArray⟩) := by rw [Lib.cell_of_heap HBL.out]; rfl
          cases nm with
          | nil =>
            have HQ : Hid (fs ++ parO s.data.toList k2 = VL.2) := Lib.hid (by rw [← hpar.out, HPS.out]; rfl)
            clear hpar
            go_wp2_with fail
            go_roundw
            case rel => exact ⟨k2, fs, rfl, hk2, by omega, HSE, HQ, HROW4.out, HBB4.out⟩
            case measure => simp [intOf]; omega
          | cons c nr =>
            have HQ : Hid ((fs ++ [(c :: nr, vl)]) ++ parO s.data.toList k2 = VL.2) := Lib.hid (by rw [← hpar.out, HPS.out]; simp [keepL])
            clear hpar
            have hfl2 : fs.length ≤ 1099511627776 := by omega
            have hblk5 : (wc.alloc (.cells #[.string ⟨(c :: nr).toArray⟩, .string ⟨vl.toArray⟩] 44)).heap[wc.heap.size]? = some (.cells #[sV ((c :: nr, vl) : Fl).1, sV ((c :: nr, vl) : Fl).2] 44 (0, 0)) := Kit.fresh_block _ _ _
            have hrow5 : RowF w.heap.size (.slice va fs.length vc) fs (wc.alloc (.cells #[.string ⟨(c :: nr).toArray⟩, .string ⟨vl.toArray⟩] 44)) := HROW4.out.below ((Below.refl _ _).alloc (Nat.le_refl _) _)
            have hB5 : w.heap.size ≤ (wc.alloc (.cells #[.string ⟨(c :: nr).toArray⟩, .string ⟨vl.toArray⟩] 44)).heap.size := Nat.le_trans HBB4.out.size (by simp)
            go_wp2_with (at_builtin; refine RowF.app rfl _ _ rfl w.heap.size _ (.slice va fs.length vc) fs hrow5 ((c :: nr, vl) : Fl) wc.heap.size 1 hblk5 rfl rfl hfl2 hB5 ?_)
            intro g c5 w5 hrow6 hg5 hat5
            have hb5 : Below w.heap.size w w5 := (HBB4.out.alloc HBB4.out.size _).grown hg5 hB5 (fun j hj => (hrow5.block hj).1)
            have H6 := Lib.hid (And.intro hrow6 hb5)
            clear hrow5 hrow6 hg5 hat5 hb5 hblk5 hB5
            go_wp2_with fail
            go_roundw
            case rel => exact ⟨k2, fs ++ [((c :: nr, vl) : Fl)], rfl, hk2, by rw [List.length_append, List.length_singleton]; omega, HSE, HQ, H6.out.1, H6.out.2⟩
            case measure => simp [intOf]; omega
    · have g1 : ¬ (k : Int) < (s.size : Int) := by omega
      have hke : k = s.data.toList.length := by rw [← Lib.size_eq]; omega
      have HF : Hid (fs = VL.2) := Lib.hid (by rw [← hpar.out, hke, par_end, List.append_nil])
      clear hke
      go_wp2_with fail
      go_ret2
      refine ⟨.slice va fs.length vc, ?_, ?_, HR.out.2⟩
      · rw [← HW1.out]; rfl
      · rw [← HF.out]; exact HR.out.1
end Go.Proofs.YtkmopneeafbeaaaDoor.Pt
