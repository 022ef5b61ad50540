/-
  The document's answer for package utf7, as the statements have it: Utf7 returns a valid text's name, or that there is none. Condition: the text has at most 2^20 bytes.
-/
import Derived.Test.YtcakcpnmbclieaaDoorU7Val
import Derived.Test.YtcakcpnmbclieaaDoorU8RefValid
import Derived.Test.YtcakcpnmbclieaaDoorB6RefEnc
import Derived.Test.YtcakcpnmbclieaaDoorBuf2
import Derived.Deep.CutRange
namespace Go.Proofs.YtcakcpnmbclieaaDoor.U7
open Go Go.RowKit Go.Joins Kit
open U8 (decL validL validL_some validL_none decL_some decL_nil rget_none rget_some rvalid_any)
open B6 (letL)

def letB (l : List UInt8) : ByteArray := ⟨(letL l).toArray⟩
theorem letB_data (l : List UInt8) : (letB l).data.toList = letL l := by simp [letB]
theorem letters_call (l : List UInt8) (w : World) (hl : l.length ≤ 1099511627) :
    Calls Tryd.prog 25 #[.string ⟨l.toArray⟩] w fun e w' => e = .returned (.string (letB l)) ∧ Below w.heap.size w w' := by
  have := B6.letters_any ⟨l.toArray⟩ w (by show l.toArray.size ≤ _; simpa using hl)
  simpa [letB] using this
theorem com_snoc (t : ByteArray) (j : Nat) (h : j < t.size) : (t.data.toList.take (j + 1)).map com = (t.data.toList.take j).map com ++ [com t[j]] := by
  have hl : j < t.data.toList.length := by rw [← Lib.size_eq]; exact h
  rw [List.take_succ_eq_append_getElem hl, byte_get t j h, List.map_append]
  rfl
theorem step_plain {l : List UInt8} {r n : Nat} (h : decL l = some (r, n)) (hp : plainP r = true) (row out full : List UInt8) (hq : out ++ nameP row (ptsL l) = full) :
    ((out ++ rowL row) ++ litL r) ++ nameP [] (ptsL (l.drop n)) = full := by
  rw [← hq, pts_some h, name_plain row hp, List.append_assoc, List.append_assoc]
theorem step_other {l : List UInt8} {r n : Nat} (h : decL l = some (r, n)) (hp : plainP r = false) (row out full : List UInt8) (hq : out ++ nameP row (ptsL l) = full) :
    out ++ nameP (row ++ u16 r) (ptsL (l.drop n)) = full := by
  rw [← hq, pts_some h, name_other row hp]
theorem step_end (row out full : List UInt8) (hq : out ++ nameP row (ptsL []) = full) : out ++ rowL row = full := by
  rw [← hq, pts_nil, name_nil]
theorem u8_cell {x : Nat} (h : x < 256) : ((UInt8.ofNat x).toNat : Int) = (x : Int) := by simp; omega
theorem and1023 (r : Int) (h0 : 0 ≤ r) (h1 : r < 4611686018427387904) : bits .and .i64 r 1023 = r % 1024 := bits_mask .i64 62 (by decide) U8.wraps_i64 10 (by decide) r h0 (by omega)
theorem pre_len {a b full : List UInt8} (h : a ++ b = full) : a.length ≤ full.length := by rw [← h, List.length_append]; omega

set_option maxHeartbeats 4000000 in
set_option maxRecDepth 100000 in
theorem utf7_any (s : ByteArray) (w : World) (hs : s.size ≤ 1048576) :
    Calls Tryd.prog 11 #[.string s] w fun e w' => e = .returned (encV s.data.toList) ∧ Below w.heap.size w w' := by
  cases hv : validL s.data.toList with
  | false =>
    have hn := Lib.hid (encV_none (enc_not hv))
    have HV := Lib.hid hv
    clear hv
    rw [hn.out]
    go_enter Tryd.func11, Tryd.ntmps11
    go_wp2_with fail
    refine (rvalid_any s (by omega) w).mono ?_
    rintro e w1 ⟨rfl, hb1⟩
    rw [HV.out]
    go_wp2
    go_ret2
    exact ⟨rfl, hb1⟩
  | true =>
    have hn := Lib.hid (encV_some (enc_valid hv))
    have hfl := name_size s.data.toList
    have HV := Lib.hid hv
    obtain ⟨full, hfull⟩ : ∃ full, nameP [] (ptsL s.data.toList) = full := ⟨_, rfl⟩
    rw [hfull] at hn hfl
    rw [← Lib.size_eq] at hfl
    have hst := Lib.hid (show [] ++ nameP [] (ptsL (s.data.toList.drop 0)) = full by rw [List.drop_zero, hfull]; rfl)
    have hv0 := Lib.hid (show validL (s.data.toList.drop 0) = true by rw [List.drop_zero]; exact hv)
    clear hfull hv
    rw [hn.out]
    go_enter Tryd.func11, Tryd.ntmps11
    go_wp2_with fail
    refine (rvalid_any s (by omega) w).mono ?_
    rintro e w1 ⟨rfl, hb1⟩
    rw [HV.out]
    have hT0 : Two w (.slice none 0 0) [] (.slice none 0 0) [] w1 := Two.empty hb1
    go_wp2_with fail
    go_loopw [4, 5, 6] (fun vo vr i wr => ∃ (a : Nat) (out row : List UInt8), a ≤ s.size ∧ i = .int .i64 a ∧ row.length ≤ 4 * a ∧ Hid (out ++ nameP row (ptsL (s.data.toList.drop a)) = full) ∧ Hid (validL (s.data.toList.drop a) = true) ∧ Two w vo out vr row wr) (fun _ _ i _ => s.size + 1 - (intOf i).toNat)
    case atStart => exact ⟨0, [], [], by omega, rfl, by simp, hst, hv0, hT0⟩
    case round =>
      clear hst hv0 hT0 hb1
      obtain ⟨a, out, row, ha, rfl, hrow, hq, hva, hT⟩ := hrel
      have hol := pre_len hq.out
      obtain ⟨ao, cap, rfl⟩ := hT.snd.form
      by_cases hlt : a < s.size
      · have hlt2 : (a : Int) < s.size := by omega
        cases hd : decL (s.data.toList.drop a) with
        | none =>
          have hne : s.data.toList.drop a ≠ [] := U8.drop_ne hlt
          have := hva.out
          rw [validL_none hne hd] at this
          cases this
        | some p =>
          obtain ⟨r, n⟩ := p
          have hro := U8.decL_room hd
          have hrl := U8.decL_lt hd
          have hvn := Lib.hid (show validL (s.data.toList.drop (a + n)) = true by have := hva.out; rwa [validL_some hd, List.drop_drop] at this)
          have HD := Lib.hid hd
          have q0 : ((a : Int) == s.size) = false := by rw [beq_eq_false_iff_ne]; omega
          clear hd
          cases hp : plainP r with
          | true =>
            have hpr := hp
            unfold plainP at hpr
            simp only [Bool.and_eq_true, decide_eq_true_eq] at hpr
            have HP := Lib.hid hp
            have q1 : 32 ≤ (r : Int) := by omega
            have q2 : (r : Int) ≤ 126 := by omega
            have eu : IntKind.u8.wrap (r : Int) = (r : Int) := IntWalk.u8_in _ (by omega)
            clear hp
            go_wp2_with fail
            refine (rget_some HD.out (by omega) wr).mono ?_
            rintro e w2 ⟨rfl, hb2⟩
            replace hT := hT.next hb2
            clear hb2
            go_upto_if 41 with fail
            go_cut [4, 5] from 39 to 65 (fun vo vr wx => Two w vo (out ++ rowL row) vr [] wx)
            case first =>
              by_cases hr : row = []
              · have hTr : Two w u4 (out ++ rowL row) (.slice ao row.length cap) [] w2 := by
                  subst hr
                  rw [row_nil, List.append_nil]
                  exact hT
                have g7 : ¬ 0 < (row.length : Int) := by rw [hr]; simp
                clear hr
                go_wp2
                go_meet
                exact hTr
              · have hl0 : 0 < row.length := List.length_pos_iff.2 hr
                have g7 : 0 < (row.length : Int) := by omega
                have hro := Lib.hid (row_cons hr)
                clear hr
                go_wp2_with (at_builtin; refine Buf.app_at rfl _ _ rfl w _ _ out (hT.fst.allocB _) [38] 1 1 w2.heap.size _ (0, 0) rfl (by decide) rfl (Kit.fresh_block _ _ _) rfl rfl ?ra ?_)
                case ra => omega
                intro g1 c1 w3 hB1 hg1 hat1
                have hT1 := (hT.alloc _).growN hB1 hg1 hat1 (by simp)
                clear hB1 hg1 hat1
                obtain ⟨L1, hL1⟩ : ∃ L, out ++ [38] = L := ⟨_, rfl⟩
                rw [hL1] at hT1
                have HL1 := Lib.hid hL1
                have hl1 : L1.length = out.length + 1 := by rw [← hL1, List.length_append]; rfl
                clear hL1
                have hrun := hT1.snd.string
                go_wp2_with fail
                refine (letters_call row w3 (by omega)).mono ?_
                rintro e w4 ⟨rfl, hb4⟩
                replace hT1 := hT1.next hb4
                clear hrun hb4
                have hts : (letB row).size ≤ 2 * row.length + 2 := by rw [Lib.size_eq, letB_data, B6.letL_length]; omega
                have hro2 := Lib.hid (show rowL row = 38 :: ((letB row).data.toList.map com ++ [45]) by rw [hro.out, letB_data])
                generalize letB row = t at hts hro2 ⊢
                have hT2 : Two w (.slice (some ⟨g1, 0, none⟩) (out.length + 1) c1) (L1 ++ (t.data.toList.take 0).map com) (.slice ao row.length cap) row w4 := by simpa using hT1
                go_wp2_with fail
                go_loopw [4, 10] (fun v i wx => ∃ j : Nat, j ≤ t.size ∧ i = .int .i64 j ∧ Two w v (L1 ++ (t.data.toList.take j).map com) (.slice ao row.length cap) row wx) (fun _ i _ => t.size - (intOf i).toNat)
                case atStart => exact ⟨0, by omega, rfl, hT2⟩
                case round =>
                  clear hT2 hT1 hT
                  obtain ⟨j, hj, rfl, hT3⟩ := hrel
                  obtain ⟨L2, hL2⟩ : ∃ L, L1 ++ (t.data.toList.take j).map com = L := ⟨_, rfl⟩
                  have hl2 : L2.length ≤ L1.length + t.size := by rw [← hL2, List.length_append, List.length_map, List.length_take]; omega
                  rw [hL2] at hT3
                  by_cases hjt : j < t.size
                  · have hnx := Lib.hid (show L2 ++ [com t[j]] = L1 ++ (t.data.toList.take (j + 1)).map com by rw [com_snoc t j hjt, ← hL2, List.append_assoc])
                    have gj : (j : Int) < t.size := by omega
                    clear hL2
                    by_cases hc : t[j].toNat = 47
                    · have hcm := Lib.hid (show com t[j] = 44 by rw [com, if_pos (UInt8.toNat.inj hc)])
                      have q7 : ((t[j].toNat : Int) == 47) = true := by rw [beq_iff_eq]; omega
                      clear hc
                      go_wp2_with (at_builtin; refine Buf.app_at rfl _ _ rfl w _ _ _ (hT3.fst.allocB _) [44] 1 1 wr.heap.size _ (0, 0) rfl (by decide) rfl (Kit.fresh_block _ _ _) rfl rfl ?rb ?_)
                      case rb => omega
                      intro g2 c2 w5 hB2 hg2 hat2
                      have hT4 := (hT3.alloc _).growN hB2 hg2 hat2 (by simp)
                      rw [← hcm.out, hnx.out] at hT4
                      clear hB2 hg2 hat2 hT3
                      go_wp2
                      go_roundw
                      case rel => exact ⟨j + 1, by omega, by go_num, hT4⟩
                      case measure => simp [intOf]; omega
                    · have hcm := Lib.hid (show com t[j] = t[j] by rw [com, if_neg (fun e => hc (by rw [e]; rfl))])
                      have q7 : ((t[j].toNat : Int) == 47) = false := by rw [beq_eq_false_iff_ne]; omega
                      clear hc
                      go_wp2_with (at_builtin; refine Buf.app_at rfl _ _ rfl w _ _ _ (hT3.fst.allocB _) [t[j]] 1 1 wr.heap.size _ (0, 0) rfl (by decide) rfl (Kit.fresh_block _ _ _) rfl rfl ?rc ?_)
                      case rc => omega
                      intro g2 c2 w5 hB2 hg2 hat2
                      have hT4 := (hT3.alloc _).growN hB2 hg2 hat2 (by simp)
                      rw [show [t[j]] = [com t[j]] by rw [hcm.out], hnx.out] at hT4
                      clear hB2 hg2 hat2 hT3
                      go_wp2
                      go_roundw
                      case rel => exact ⟨j + 1, by omega, by go_num, hT4⟩
                      case measure => simp [intOf]; omega
                  · have hfin := Lib.hid (show L2 ++ [45] = out ++ rowL row by rw [hro2.out, ← hL2, ← HL1.out, List.take_of_length_le (by rw [← Lib.size_eq]; omega), List.append_assoc, List.append_assoc]; rfl)
                    have gj : ¬ (j : Int) < t.size := by omega
                    clear hL2
                    go_wp2_with (at_builtin; refine Buf.app_at rfl _ _ rfl w _ _ _ (hT3.fst.allocB _) [45] 1 1 wr.heap.size _ (0, 0) rfl (by decide) rfl (Kit.fresh_block _ _ _) rfl rfl ?rd ?_)
                    case rd => omega
                    intro g2 c2 w5 hB2 hg2 hat2
                    have hT4 := ((hT3.alloc _).growN hB2 hg2 hat2 (by simp)).nils
                    rw [hfin.out] at hT4
                    clear hB2 hg2 hat2 hT3
                    go_wp2
                    go_meet
                    exact hT4
            case rest =>
              clear hT
              obtain ⟨L1, hL1⟩ : ∃ L, out ++ rowL row = L := ⟨_, rfl⟩
              rw [hL1] at hcut
              have hst := Lib.hid (show (L1 ++ litL r) ++ nameP [] (ptsL (s.data.toList.drop (a + n))) = full by have := step_plain HD.out HP.out row out full hq.out; rwa [hL1, List.drop_drop] at this)
              have hl1 : L1.length ≤ full.length := pre_len (List.append_assoc L1 _ _ ▸ hst.out)
              clear hL1
              by_cases h38 : r = 38
              · have q5 : ((r : Int) == 38) = true := by rw [beq_iff_eq]; omega
                have hli := Lib.hid (show litL r = [UInt8.ofNat r] ++ [45] by rw [litL, if_pos h38, h38]; rfl)
                clear h38
                go_wp2_with (at_builtin; refine Buf.app_at rfl _ _ rfl w _ _ _ (hcut.fst.allocB _) [UInt8.ofNat r] 1 1 wc.heap.size _ (0, 0) rfl (by decide) ?ca (Kit.fresh_block _ _ _) rfl rfl ?cb ?_)
                case ca => first | exact congrArg (fun x => [Value.int .u8 x]) (u8_cell (by omega)).symm | rfl
                case cb => omega
                intro g1 c1 w3 hB1 hg1 hat1
                have hT1 := (hcut.alloc _).growN hB1 hg1 hat1 (by simp)
                obtain ⟨L2, hL2⟩ : ∃ L, L1 ++ [UInt8.ofNat r] = L := ⟨_, rfl⟩
                rw [hL2] at hT1
                have hl2 : L2.length = L1.length + 1 := by rw [← hL2, List.length_append]; rfl
                have hst2 := Lib.hid (show (L2 ++ [45]) ++ nameP [] (ptsL (s.data.toList.drop (a + n))) = full by have := hst.out; rwa [hli.out, ← List.append_assoc L1, hL2] at this)
                clear hL2 hB1 hg1 hat1
                go_wp2_with (at_builtin; refine Buf.app_at rfl _ _ rfl w _ _ _ (hT1.fst.allocB _) [45] 1 1 w3.heap.size _ (0, 0) rfl (by decide) rfl (Kit.fresh_block _ _ _) rfl rfl ?cc ?_)
                case cc => omega
                intro g2 c2 w4 hB2 hg2 hat2
                have hT2 := (hT1.alloc _).growN hB2 hg2 hat2 (by simp)
                clear hB2 hg2 hat2
                go_wp2
                go_roundw
                case rel => exact ⟨a + n, _, [], by omega, by go_num, by simp, hst2, hvn, hT2⟩
                case measure => simp [intOf]; omega
              · have q5 : ((r : Int) == 38) = false := by rw [beq_eq_false_iff_ne]; omega
                have hli := Lib.hid (show litL r = [UInt8.ofNat r] by rw [litL, if_neg h38])
                clear h38
                go_wp2_with (at_builtin; refine Buf.app_at rfl _ _ rfl w _ _ _ (hcut.fst.allocB _) [UInt8.ofNat r] 1 1 wc.heap.size _ (0, 0) rfl (by decide) ?da (Kit.fresh_block _ _ _) rfl rfl ?db ?_)
                case da => first | exact congrArg (fun x => [Value.int .u8 x]) (u8_cell (by omega)).symm | rfl
                case db => omega
                intro g1 c1 w3 hB1 hg1 hat1
                have hT1 := (hcut.alloc _).growN hB1 hg1 hat1 (by simp)
                have hst2 := Lib.hid (show (L1 ++ [UInt8.ofNat r]) ++ nameP [] (ptsL (s.data.toList.drop (a + n))) = full by have := hst.out; rwa [hli.out] at this)
                clear hB1 hg1 hat1
                go_wp2
                go_roundw
                case rel => exact ⟨a + n, _, [], by omega, by go_num, by simp, hst2, hvn, hT1⟩
                case measure => simp [intOf]; omega
          | false =>
            have hpr := hp
            unfold plainP at hpr
            have HP := Lib.hid hp
            clear hp
            rcases (show r < 32 ∨ (126 < r ∧ r ≤ 65535) ∨ 65535 < r by
              rcases Nat.lt_or_ge r 32 with h | h
              · exact Or.inl h
              · rcases Nat.lt_or_ge 126 r with h2 | h2
                · omega
                · simp [h, h2] at hpr) with hk | hk | hk
            · clear hpr
              have t0 : (r : Int) < 32 := by omega
              have hu := Lib.hid (show u16 r = [UInt8.ofNat (r / 256), UInt8.ofNat (r % 256)] by rw [u16, if_neg (by omega)])
              have e1 : IntKind.u8.wrap ((r : Int) / 256) = (r : Int) / 256 := IntWalk.u8_in _ (by omega)
              have e2 : IntKind.u8.wrap (r : Int) = (r : Int) % 256 := by rw [IntKind.wrap_u8]
              have t8 : (r : Int) ≤ 65535 := by omega
              go_wp2_with fail
              refine (rget_some HD.out (by omega) wr).mono ?_
              rintro e w2 ⟨rfl, hb2⟩
              replace hT := hT.next hb2
              clear hb2
              go_wp2_with (at_builtin; refine Buf.app_at rfl _ _ rfl w _ _ _ (hT.snd.allocB _) [UInt8.ofNat (r / 256), UInt8.ofNat (r % 256)] 2 2 w2.heap.size _ (0, 0) rfl (by decide) ?ea11 (Kit.fresh_block _ _ _) rfl rfl ?eb11 ?_)
              case ea11 =>
                  show _ = [Value.int .u8 ((UInt8.ofNat (r / 256)).toNat : Int), .int .u8 ((UInt8.ofNat (r % 256)).toNat : Int)]
                  rw [u8_cell (by omega), u8_cell (by omega)]
                  first | rfl | (congr 2 <;> omega)
              case eb11 => omega
              intro g1 c1 w3 hB1 hg1 hat1
              have hT1 := ((hT.swap.alloc _).growN hB1 hg1 hat1 (by simp)).swap
              obtain ⟨R2, hR2⟩ : ∃ L, row ++ [UInt8.ofNat (r / 256), UInt8.ofNat (r % 256)] = L := ⟨_, rfl⟩
              rw [hR2] at hT1
              have hr2 : R2.length = row.length + 2 := by rw [← hR2, List.length_append]; rfl
              have hst2 := Lib.hid (show out ++ nameP R2 (ptsL (s.data.toList.drop (a + n))) = full by have := step_other HD.out HP.out row out full hq.out; rwa [hu.out, hR2, List.drop_drop] at this)
              clear hR2 hB1 hg1 hat1
              go_wp2
              go_roundw
              case rel => exact ⟨a + n, out, R2, by omega, by go_num, by omega, hst2, hvn, hT1⟩
              case measure => simp [intOf]; omega
            · clear hpr
              have t0 : 32 ≤ (r : Int) := by omega
              have t1 : 126 < (r : Int) := by omega
              have hu := Lib.hid (show u16 r = [UInt8.ofNat (r / 256), UInt8.ofNat (r % 256)] by rw [u16, if_neg (by omega)])
              have e1 : IntKind.u8.wrap ((r : Int) / 256) = (r : Int) / 256 := IntWalk.u8_in _ (by omega)
              have e2 : IntKind.u8.wrap (r : Int) = (r : Int) % 256 := by rw [IntKind.wrap_u8]
              have t8 : (r : Int) ≤ 65535 := by omega
              go_wp2_with fail
              refine (rget_some HD.out (by omega) wr).mono ?_
              rintro e w2 ⟨rfl, hb2⟩
              replace hT := hT.next hb2
              clear hb2
              go_wp2_with (at_builtin; refine Buf.app_at rfl _ _ rfl w _ _ _ (hT.snd.allocB _) [UInt8.ofNat (r / 256), UInt8.ofNat (r % 256)] 2 2 w2.heap.size _ (0, 0) rfl (by decide) ?ea21 (Kit.fresh_block _ _ _) rfl rfl ?eb21 ?_)
              case ea21 =>
                  show _ = [Value.int .u8 ((UInt8.ofNat (r / 256)).toNat : Int), .int .u8 ((UInt8.ofNat (r % 256)).toNat : Int)]
                  rw [u8_cell (by omega), u8_cell (by omega)]
                  first | rfl | (congr 2 <;> omega)
              case eb21 => omega
              intro g1 c1 w3 hB1 hg1 hat1
              have hT1 := ((hT.swap.alloc _).growN hB1 hg1 hat1 (by simp)).swap
              obtain ⟨R2, hR2⟩ : ∃ L, row ++ [UInt8.ofNat (r / 256), UInt8.ofNat (r % 256)] = L := ⟨_, rfl⟩
              rw [hR2] at hT1
              have hr2 : R2.length = row.length + 2 := by rw [← hR2, List.length_append]; rfl
              have hst2 := Lib.hid (show out ++ nameP R2 (ptsL (s.data.toList.drop (a + n))) = full by have := step_other HD.out HP.out row out full hq.out; rwa [hu.out, hR2, List.drop_drop] at this)
              clear hR2 hB1 hg1 hat1
              go_wp2
              go_roundw
              case rel => exact ⟨a + n, out, R2, by omega, by go_num, by omega, hst2, hvn, hT1⟩
              case measure => simp [intOf]; omega
            · clear hpr
              have t0 : 32 ≤ (r : Int) := by omega
              have t1 : 126 < (r : Int) := by omega
              have hu := Lib.hid (show u16 r = [UInt8.ofNat ((55296 + (r - 65536) / 1024) / 256), UInt8.ofNat ((55296 + (r - 65536) / 1024) % 256), UInt8.ofNat ((56320 + (r - 65536) % 1024) / 256), UInt8.ofNat ((56320 + (r - 65536) % 1024) % 256)] by rw [u16, if_pos (by omega)])
              have e0 : bits .and .i64 ((r : Int) - 65536) 1023 = ((r : Int) - 65536) % 1024 := and1023 _ (by omega) (by omega)
              have e1 : IntKind.u8.wrap ((55296 + ((r : Int) - 65536) / 1024) / 256) = (55296 + ((r : Int) - 65536) / 1024) / 256 := IntWalk.u8_in _ (by omega)
              have e2 : IntKind.u8.wrap (55296 + ((r : Int) - 65536) / 1024) = (55296 + ((r : Int) - 65536) / 1024) % 256 := by rw [IntKind.wrap_u8]
              have e3 : IntKind.u8.wrap ((56320 + ((r : Int) - 65536) % 1024) / 256) = (56320 + ((r : Int) - 65536) % 1024) / 256 := IntWalk.u8_in _ (by omega)
              have e4 : IntKind.u8.wrap (56320 + ((r : Int) - 65536) % 1024) = (56320 + ((r : Int) - 65536) % 1024) % 256 := by rw [IntKind.wrap_u8]
              have t8 : (65535 : Int) < r := by omega
              go_wp2_with fail
              refine (rget_some HD.out (by omega) wr).mono ?_
              rintro e w2 ⟨rfl, hb2⟩
              replace hT := hT.next hb2
              clear hb2
              go_wp2_with (at_builtin; refine Buf.app_at rfl _ _ rfl w _ _ _ (hT.snd.allocB _) [UInt8.ofNat ((55296 + (r - 65536) / 1024) / 256), UInt8.ofNat ((55296 + (r - 65536) / 1024) % 256), UInt8.ofNat ((56320 + (r - 65536) % 1024) / 256), UInt8.ofNat ((56320 + (r - 65536) % 1024) % 256)] 4 4 w2.heap.size _ (0, 0) rfl (by decide) ?ea22 (Kit.fresh_block _ _ _) rfl rfl ?eb22 ?_)
              case ea22 =>
                  show _ = [Value.int .u8 ((UInt8.ofNat ((55296 + (r - 65536) / 1024) / 256)).toNat : Int), .int .u8 ((UInt8.ofNat ((55296 + (r - 65536) / 1024) % 256)).toNat : Int), .int .u8 ((UInt8.ofNat ((56320 + (r - 65536) % 1024) / 256)).toNat : Int), .int .u8 ((UInt8.ofNat ((56320 + (r - 65536) % 1024) % 256)).toNat : Int)]
                  rw [u8_cell (by omega), u8_cell (by omega), u8_cell (by omega), u8_cell (by omega), show (((55296 + (r - 65536) / 1024) / 256 : Nat) : Int) = (55296 + ((r : Int) - 65536) / 1024) / 256 by omega, show (((55296 + (r - 65536) / 1024) % 256 : Nat) : Int) = (55296 + ((r : Int) - 65536) / 1024) % 256 by omega, show (((56320 + (r - 65536) % 1024) / 256 : Nat) : Int) = (56320 + ((r : Int) - 65536) % 1024) / 256 by omega, show (((56320 + (r - 65536) % 1024) % 256 : Nat) : Int) = (56320 + ((r : Int) - 65536) % 1024) % 256 by omega]
              case eb22 => omega
              intro g1 c1 w3 hB1 hg1 hat1
              have hT1 := ((hT.swap.alloc _).growN hB1 hg1 hat1 (by simp)).swap
              obtain ⟨R2, hR2⟩ : ∃ L, row ++ [UInt8.ofNat ((55296 + (r - 65536) / 1024) / 256), UInt8.ofNat ((55296 + (r - 65536) / 1024) % 256), UInt8.ofNat ((56320 + (r - 65536) % 1024) / 256), UInt8.ofNat ((56320 + (r - 65536) % 1024) % 256)] = L := ⟨_, rfl⟩
              rw [hR2] at hT1
              have hr2 : R2.length = row.length + 4 := by rw [← hR2, List.length_append]; rfl
              have hst2 := Lib.hid (show out ++ nameP R2 (ptsL (s.data.toList.drop (a + n))) = full by have := step_other HD.out HP.out row out full hq.out; rwa [hu.out, hR2, List.drop_drop] at this)
              clear hR2 hB1 hg1 hat1
              go_wp2
              go_roundw
              case rel => exact ⟨a + n, out, R2, by omega, by go_num, by omega, hst2, hvn, hT1⟩
              case measure => simp [intOf]; omega
      · have he : a = s.size := by omega
        subst he
        have hd : decL (s.data.toList.drop s.size) = none := by rw [List.drop_of_length_le (by rw [← Lib.size_eq]; exact Nat.le_refl _)]; rfl
        have hend := Lib.hid (step_end row out full (by have := hq.out; rwa [List.drop_of_length_le (by rw [← Lib.size_eq]; exact Nat.le_refl _)] at this))
        have HD := Lib.hid hd
        clear hd hlt
        go_wp2_with fail
        refine (rget_none HD.out (by omega) wr).mono ?_
        rintro e w2 ⟨rfl, hb2⟩
        replace hT := hT.next hb2
        clear hb2
        go_upto_if 41 with fail
        go_cut [4, 5] from 39 to 65 (fun vo vr wx => Two w vo (out ++ rowL row) vr [] wx)
        case first =>
          by_cases hr : row = []
          · have hTr : Two w u4 (out ++ rowL row) (.slice ao row.length cap) [] w2 := by
              subst hr
              rw [row_nil, List.append_nil]
              exact hT
            have g7 : ¬ 0 < (row.length : Int) := by rw [hr]; simp
            clear hr
            go_wp2
            go_meet
            exact hTr
          · have hl0 : 0 < row.length := List.length_pos_iff.2 hr
            have g7 : 0 < (row.length : Int) := by omega
            have hro := Lib.hid (row_cons hr)
            clear hr
            go_wp2_with (at_builtin; refine Buf.app_at rfl _ _ rfl w _ _ out (hT.fst.allocB _) [38] 1 1 w2.heap.size _ (0, 0) rfl (by decide) rfl (Kit.fresh_block _ _ _) rfl rfl ?ra ?_)
            case ra => omega
            intro g1 c1 w3 hB1 hg1 hat1
            have hT1 := (hT.alloc _).growN hB1 hg1 hat1 (by simp)
            clear hB1 hg1 hat1
            obtain ⟨L1, hL1⟩ : ∃ L, out ++ [38] = L := ⟨_, rfl⟩
            rw [hL1] at hT1
            have HL1 := Lib.hid hL1
            have hl1 : L1.length = out.length + 1 := by rw [← hL1, List.length_append]; rfl
            clear hL1
            have hrun := hT1.snd.string
            go_wp2_with fail
            refine (letters_call row w3 (by omega)).mono ?_
            rintro e w4 ⟨rfl, hb4⟩
            replace hT1 := hT1.next hb4
            clear hrun hb4
            have hts : (letB row).size ≤ 2 * row.length + 2 := by rw [Lib.size_eq, letB_data, B6.letL_length]; omega
            have hro2 := Lib.hid (show rowL row = 38 :: ((letB row).data.toList.map com ++ [45]) by rw [hro.out, letB_data])
            generalize letB row = t at hts hro2 ⊢
            have hT2 : Two w (.slice (some ⟨g1, 0, none⟩) (out.length + 1) c1) (L1 ++ (t.data.toList.take 0).map com) (.slice ao row.length cap) row w4 := by simpa using hT1
            go_wp2_with fail
            go_loopw [4, 10] (fun v i wx => ∃ j : Nat, j ≤ t.size ∧ i = .int .i64 j ∧ Two w v (L1 ++ (t.data.toList.take j).map com) (.slice ao row.length cap) row wx) (fun _ i _ => t.size - (intOf i).toNat)
            case atStart => exact ⟨0, by omega, rfl, hT2⟩
            case round =>
              clear hT2 hT1 hT
              obtain ⟨j, hj, rfl, hT3⟩ := hrel
              obtain ⟨L2, hL2⟩ : ∃ L, L1 ++ (t.data.toList.take j).map com = L := ⟨_, rfl⟩
              have hl2 : L2.length ≤ L1.length + t.size := by rw [← hL2, List.length_append, List.length_map, List.length_take]; omega
              rw [hL2] at hT3
              by_cases hjt : j < t.size
              · have hnx := Lib.hid (show L2 ++ [com t[j]] = L1 ++ (t.data.toList.take (j + 1)).map com by rw [com_snoc t j hjt, ← hL2, List.append_assoc])
                have gj : (j : Int) < t.size := by omega
                clear hL2
                by_cases hc : t[j].toNat = 47
                · have hcm := Lib.hid (show com t[j] = 44 by rw [com, if_pos (UInt8.toNat.inj hc)])
                  have q7 : ((t[j].toNat : Int) == 47) = true := by rw [beq_iff_eq]; omega
                  clear hc
                  go_wp2_with (at_builtin; refine Buf.app_at rfl _ _ rfl w _ _ _ (hT3.fst.allocB _) [44] 1 1 wr.heap.size _ (0, 0) rfl (by decide) rfl (Kit.fresh_block _ _ _) rfl rfl ?rb ?_)
                  case rb => omega
                  intro g2 c2 w5 hB2 hg2 hat2
                  have hT4 := (hT3.alloc _).growN hB2 hg2 hat2 (by simp)
                  rw [← hcm.out, hnx.out] at hT4
                  clear hB2 hg2 hat2 hT3
                  go_wp2
                  go_roundw
                  case rel => exact ⟨j + 1, by omega, by go_num, hT4⟩
                  case measure => simp [intOf]; omega
                · have hcm := Lib.hid (show com t[j] = t[j] by rw [com, if_neg (fun e => hc (by rw [e]; rfl))])
                  have q7 : ((t[j].toNat : Int) == 47) = false := by rw [beq_eq_false_iff_ne]; omega
                  clear hc
                  go_wp2_with (at_builtin; refine Buf.app_at rfl _ _ rfl w _ _ _ (hT3.fst.allocB _) [t[j]] 1 1 wr.heap.size _ (0, 0) rfl (by decide) rfl (Kit.fresh_block _ _ _) rfl rfl ?rc ?_)
                  case rc => omega
                  intro g2 c2 w5 hB2 hg2 hat2
                  have hT4 := (hT3.alloc _).growN hB2 hg2 hat2 (by simp)
                  rw [show [t[j]] = [com t[j]] by rw [hcm.out], hnx.out] at hT4
                  clear hB2 hg2 hat2 hT3
                  go_wp2
                  go_roundw
                  case rel => exact ⟨j + 1, by omega, by go_num, hT4⟩
                  case measure => simp [intOf]; omega
              · have hfin := Lib.hid (show L2 ++ [45] = out ++ rowL row by rw [hro2.out, ← hL2, ← HL1.out, List.take_of_length_le (by rw [← Lib.size_eq]; omega), List.append_assoc, List.append_assoc]; rfl)
                have gj : ¬ (j : Int) < t.size := by omega
                clear hL2
                go_wp2_with (at_builtin; refine Buf.app_at rfl _ _ rfl w _ _ _ (hT3.fst.allocB _) [45] 1 1 wr.heap.size _ (0, 0) rfl (by decide) rfl (Kit.fresh_block _ _ _) rfl rfl ?rd ?_)
                case rd => omega
                intro g2 c2 w5 hB2 hg2 hat2
                have hT4 := ((hT3.alloc _).growN hB2 hg2 hat2 (by simp)).nils
                rw [hfin.out] at hT4
                clear hB2 hg2 hat2 hT3
                go_wp2
                go_meet
                exact hT4
        case rest =>
          clear hT
          rw [hend.out] at hcut
          have hb := hcut.fst.below
          have hrun := hcut.fst.string
          go_wp2
          go_ret2
          exact ⟨rfl, hb⟩
end Go.Proofs.YtcakcpnmbclieaaDoor.U7
