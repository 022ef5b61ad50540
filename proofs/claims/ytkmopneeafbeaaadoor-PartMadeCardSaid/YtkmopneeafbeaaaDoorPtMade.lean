/-
  The law PartMade returns true, where Tree is right. Condition: the bound of the library's search is some number.
-/
import Derived.Test.YtkmopneeafbeaaaDoorPtTop
import Derived.Test.YtkmopneeafbeaaaDoorPtMadeT
import Derived.Test.YtkmopneeafbeaaaDoorPtClean
import Derived.Test.YtkmopneeafbeaaaDoorPtLine
import Derived.Sort.CutIn
import Derived.Test.YtkmopneeafbeaaaDoorFStrs
import Derived.Deep.LoopGhost
import Derived.Deep.RegionHeld3
namespace Go.Proofs.YtkmopneeafbeaaaDoor.Pt
open Go Go.RowKit Go.Joins Kit F0

set_option maxHeartbeats 8000000 in
set_option maxRecDepth 100000 in
theorem partMade_of (hT : TreeOk) (A0 : Option Addr) (n0 c0 : Nat) (xs : List ByteArray) (ahead behind : ByteArray) (nl : Bool) (w : World) (l0 : xs.length = n0) (L0 : ListAt w A0 (xs.map .string)) (hE : Srch.Env w) :
    Calls Tryd.prog 6 #[.slice A0 n0 c0, .string ahead, .string behind, .bool nl] w fun e w' => e = .returned (.bool true) ∧ Below w.heap.size w w' := by
  have HE := Lib.hid hE
  have HT := Lib.hid hT
  have HL := Lib.hid l0
  have HM := Lib.hid L0
  clear hE hT l0 L0
  by_cases g : 20 < n0 ∨ 300 < ahead.size ∨ 300 < behind.size
  · have g' : (20 : Int) < (n0 : Int) ∨ ¬ (20 : Int) < (n0 : Int) ∧ ((300 : Int) < (ahead.size : Int) ∨ ¬ (300 : Int) < (ahead.size : Int) ∧ (300 : Int) < (behind.size : Int)) := by omega
    clear g
    rcases g' with g1 | ⟨g1, g2 | ⟨g2, g3⟩⟩
    all_goals
      go_enter Tryd.func6, Tryd.ntmps6
      go_wp2_with fail
      refine (awake_any HT.out w HE.out).mono ?_
      rintro e w1 ⟨rfl, hb1⟩
      go_wp2
      go_ret
      exact ⟨rfl, hb1⟩
  · have g1 : n0 ≤ 20 := by omega
    have g2 : ahead.size ≤ 300 := by omega
    have g3 : behind.size ≤ 300 := by omega
    clear g
    cases nl
    · have g1' : ¬ (20 : Int) < (n0 : Int) := by omega
      have g2' : ¬ (300 : Int) < (ahead.size : Int) := by omega
      have g3' : ¬ (300 : Int) < (behind.size : Int) := by omega
      clear g1 g2 g3
      go_enter Tryd.func6, Tryd.ntmps6
      go_wp2_with fail
      refine (clean_any ahead w (by omega)).mono ?_
      rintro e w1 ⟨rfl, hb1⟩
      obtain ⟨CA, hCA⟩ : ∃ CA : ByteArray, CA = ⟨(cleanL ahead.data.toList).toArray⟩ := ⟨_, rfl⟩
      have HCA := Lib.hid (show CA.data.toList = cleanL ahead.data.toList by rw [hCA])
      have hcs : CA.size ≤ 300 := by rw [Lib.size_eq, HCA.out, clean_length, ← Lib.size_eq]; omega
      rw [← hCA]
      clear hCA
      have HB1 := Lib.hid hb1
      clear hb1
      go_wp2_with fail
      go_loopg [10, 11] n0 (fun m sv iv wr => ∃ (k : Nat) (S : ByteArray), m = n0 - k ∧ k ≤ n0 ∧ iv = .int .i64 (k : Int) ∧ sv = .string S ∧ Below w.heap.size w wr ∧ S.size ≤ 1000 + 400 * k ∧
        Hid (S.data.toList = madeA [10] (cleanL ahead.data.toList) ++ catP madeM [10] (madeX ++ ([10] ++ [10])) ((xs.take k).map fun x => cleanL x.data.toList)) ∧ Hid (∀ x ∈ xs.take k, x.size ≤ 300))
      case atStart =>
        refine ⟨0, _, rfl, Nat.zero_le _, rfl, rfl, HB1.out, ?_, Lib.hid ?_, Lib.hid (by simp)⟩
        · simp only [ByteArray.size_append]
          show 47 + 1 + 1 + CA.size + 1 ≤ _
          omega
        · simp [madeA, madeH, ctypeT, catP, HCA.out]
      case round =>
        obtain ⟨k, S, rfl, hk, rfl, rfl, hb, hS, HS, HQ⟩ := hrel
        by_cases hlt : k < n0
        · have gi : (k : Int) < (n0 : Int) := by omega
          have hkx : k < xs.length := by rw [HL.out]; exact hlt
          obtain ⟨g, o, rfl, hg, hcell⟩ := HM.out k (by rw [List.length_map]; exact hkx)
          rw [List.getElem_map] at hcell
          obtain ⟨X, hX⟩ : ∃ X, xs[k] = X := ⟨_, rfl⟩
          rw [hX] at hcell
          have cX : wr.cell? ⟨g, o + k, none⟩ = some (.string X) := (hb.cell (p := ⟨g, o + k, none⟩) hg).trans hcell
          have HTK := Lib.hid (show (xs.take (k + 1)).map (fun x => cleanL x.data.toList) = (xs.take k).map (fun x => cleanL x.data.toList) ++ [cleanL X.data.toList] by
            rw [List.take_succ_eq_append_getElem hkx, List.map_append, hX]; rfl)
          have HTQ := Lib.hid (fun (h : X.size ≤ 300) => (show ∀ x ∈ xs.take (k + 1), x.size ≤ 300 from fun x hx => by
            rw [List.take_succ_eq_append_getElem hkx, hX] at hx
            rcases List.mem_append.1 hx with hx | hx
            · exact HQ.out x hx
            · rw [List.mem_singleton] at hx; rw [hx]; exact h))
          clear hcell hX hkx
          by_cases hbig : 300 < X.size
          · have gb : (300 : Int) < (X.size : Int) := by omega
            go_wp2_with fail
            refine (awake_any HT.out wr (HE.out.next hb)).mono ?_
            rintro e w2 ⟨rfl, hb2⟩
            go_wp2
            go_ret
            exact ⟨rfl, hb.trans (hb2.mono hb.size)⟩
          · have gb : ¬ (300 : Int) < (X.size : Int) := by omega
            go_wp2_with fail
            refine (clean_any X wr (by omega)).mono ?_
            rintro e w2 ⟨rfl, hb2⟩
            obtain ⟨CX, hCX⟩ : ∃ CX : ByteArray, CX = ⟨(cleanL X.data.toList).toArray⟩ := ⟨_, rfl⟩
            have HCX := Lib.hid (show CX.data.toList = cleanL X.data.toList by rw [hCX])
            have hcx : CX.size ≤ 300 := by rw [Lib.size_eq, HCX.out, clean_length, ← Lib.size_eq]; omega
            rw [← hCX]
            clear hCX
            have HB2 := Lib.hid (hb.trans (hb2.mono hb.size))
            clear hb2
            go_wp2_with fail
            go_roundg (n0 - (k + 1))
            case measure => omega
            case rel =>
              refine ⟨k + 1, _, rfl, by omega, by go_num, rfl, HB2.out, ?_, Lib.hid ?_, Lib.hid (HTQ.out (by omega))⟩
              · simp only [ByteArray.size_append]
                show S.size + 8 + 1 + 4 + 1 + 1 + CX.size + 1 ≤ _
                omega
              · rw [HTK.out, catP_snoc, ← List.append_assoc, ← HS.out]
                simp [madeM, madeX, HCX.out]
        · have gi : ¬ (k : Int) < (n0 : Int) := by omega
          have hkn : k = n0 := by omega
          subst hkn
          rw [List.take_of_length_le (by rw [HL.out]; exact Nat.le_refl _)] at HS HQ
          go_wp2_with fail
          refine (clean_any behind wr (by omega)).mono ?_
          rintro e w2 ⟨rfl, hb2⟩
          obtain ⟨CB, hCB⟩ : ∃ CB : ByteArray, CB = ⟨(cleanL behind.data.toList).toArray⟩ := ⟨_, rfl⟩
          have HCB := Lib.hid (show CB.data.toList = cleanL behind.data.toList by rw [hCB])
          have hcb : CB.size ≤ 300 := by rw [Lib.size_eq, HCB.out, clean_length, ← Lib.size_eq]; omega
          rw [← hCB]
          clear hCB
          have HB2 := Lib.hid (hb.trans (hb2.mono hb.size))
          clear hb2
          go_wp2_with fail
          obtain ⟨S2, hS2⟩ : ∃ S2 : ByteArray, S2 = S ++ ⟨#[45, 45, 122, 122, 43, 122, 122, 45, 45]⟩ ++ ⟨#[10]⟩ ++ CB := ⟨_, rfl⟩
          have HS2 := Lib.hid (show S2.data.toList = madeS [10] (cleanL ahead.data.toList) (cleanL behind.data.toList) (xs.map fun x => cleanL x.data.toList) by rw [hS2]; unfold madeS; simp [HS.out, madeZ, HCB.out])
          have hs2 : S2.size ≤ 32768 := by
            rw [hS2]
            simp only [ByteArray.size_append]
            show S.size + 9 + 1 + CB.size ≤ _
            omega
          rw [← hS2]
          clear hS2
          refine (HT.out S2 w2 hs2 (HE.out.next HB2.out)).mono ?_
          rintro e w3 ⟨c0, c1, c2, c3, c4, c5, c6, c7, rfl, hp, hb3⟩
          obtain ⟨T, hT'⟩ : ∃ T, treeL S2.data.toList = T := ⟨_, rfl⟩
          rw [hT'] at hp
          have HMT := Lib.hid (made_tree (e := [10]) (Or.inl rfl) (clean_pure _) (fun c hc => by obtain ⟨x, _, rfl⟩ := List.mem_map.1 hc; exact clean_pure _) (by rw [List.length_map, HL.out]; omega) S2.data.toList HS2.out.symm T hT')
          obtain ⟨ap, mp, ak, mk, e, hps, cs, hk1, hk2⟩ := part_cells hp
          have hkl : T.kids.length = k := by rw [HMT.out.2.1, List.length_map, HL.out]
          rw [HMT.out.1, hkl] at e
          injection e with e
          injection e with e
          injection e with e0 e
          injection e with e1 e
          injection e with e2 e
          injection e with e3 e
          injection e with e4 e
          injection e with e5 e
          injection e with e6 e
          injection e with e7 e
          subst e0 e1 e2 e3 e4 e5 e6 e7
          have HB3 := Lib.hid (HB2.out.trans (hb3.mono HB2.out.size))
          have HKL := Lib.hid hkl
          have HKC := Lib.hid (And.intro hk1 hk2)
          clear hT' hp hb3 hkl hk1 hk2 hps
          have hA := Bx.made w3 (.string ⟨#[109, 117, 108, 116, 105, 112, 97, 114, 116, 47, 109, 105, 120, 101, 100]⟩) (.slice ap T.ps.length mp) (.string ⟨T.enc.toArray⟩) (.bool T.att) (.int .i64 (T.hd : Int)) (.int .i64 (T.fm : Int)) (.int .i64 (T.to : Int)) (.slice ak k mk)
          have hb4 : Below w3.heap.size w3 (w3.alloc (.cells #[.string ⟨#[109, 117, 108, 116, 105, 112, 97, 114, 116, 47, 109, 105, 120, 101, 100]⟩, .slice ap T.ps.length mp, .string ⟨T.enc.toArray⟩, .bool T.att, .int .i64 (T.hd : Int), .int .i64 (T.fm : Int), .int .i64 (T.to : Int), .slice ak k mk] 31)) := (Below.refl _ w3).alloc (Nat.le_refl _) _
          obtain ⟨W4, hW4⟩ : ∃ W4, w3.alloc (.cells #[.string ⟨#[109, 117, 108, 116, 105, 112, 97, 114, 116, 47, 109, 105, 120, 101, 100]⟩, .slice ap T.ps.length mp, .string ⟨T.enc.toArray⟩, .bool T.att, .int .i64 (T.hd : Int), .int .i64 (T.fm : Int), .int .i64 (T.to : Int), .slice ak k mk] 31) = W4 := ⟨_, rfl⟩
          rw [hW4] at hA hb4
          have HW4 := Lib.hid hW4
          have HB4 := Lib.hid (HB3.out.trans (hb4.mono HB3.out.size))
          have HKC4 := Lib.hid (fun (w' : World) (hb' : Below W4.heap.size W4 w') (i : Nat) (hi : i < T.kids.length) => kid_cells (CellsAt.keep (HKC.out.1.keep (kept_below hb4)) (kept_below hb')) (KidsAt.keep (kept_below hb') (KidsAt.keep (kept_below hb4) HKC.out.2)) i hi)
          obtain ⟨G, hG⟩ : ∃ G, w3.heap.size = G := ⟨_, rfl⟩
          rw [hG] at hA
          have HA := Lib.hid hA
          clear hW4 hb4 hA
          unfold sV mixedT
          go_wp2_with fail
          rw [HW4.out]
          (try rw [hG])
          go_loopg [13] k (fun m iv wx => ∃ i : Nat, m = k - i ∧ i ≤ k ∧ iv = .int .i64 (i : Int) ∧ Below W4.heap.size W4 wx)
          case atStart => exact ⟨0, rfl, Nat.zero_le _, rfl, Below.refl _ _⟩
          case round =>
            obtain ⟨i, rfl, hik, rfl, hb5⟩ := hrel
            have p7 := (HA.out.same (hb5.block G HA.out.lt)).p7
            by_cases hlt2 : i < k
            · have gi2 : (i : Int) < (k : Int) := by omega
              have hit : i < T.kids.length := by rw [HKL.out]; exact hlt2
              obtain ⟨g, o, x0, x1, x2, x3, x4, x5, x6, x7, rfl, hg, r0, r1, r2, r3, r4, r5, r6, r7, hx⟩ := HKC4.out wr hb5 i hit
              obtain ⟨m1, m2, m3, m4, m5⟩ := HMT.out.2.2 i (by rw [List.length_map, HL.out]; exact hlt2) hit
              obtain ⟨aq, mq, bq, nq, e, -⟩ := part_cells hx
              rw [m1, m2] at e
              injection e with e
              injection e with e
              injection e with e0 e
              injection e with e1 e
              injection e with e2 e
              injection e with e3 e
              injection e with e4 e
              injection e with e5 e
              injection e with e6 e
              injection e with e7 e
              subst e0 e1 e2 e3 e4 e5 e6 e7
              obtain ⟨X, hX⟩ : ∃ X, xs[i]'(by rw [HL.out]; exact hlt2) = X := ⟨_, rfl⟩
              obtain ⟨ga, oa, rfl, hga, hcell⟩ := HM.out i (by rw [List.length_map, HL.out]; exact hlt2)
              rw [List.getElem_map, hX] at hcell
              rw [List.getElem_map, hX] at m5
              have cX : wr.cell? ⟨ga, oa + i, none⟩ = some (.string X) := (((HB4.out.trans (hb5.mono HB4.out.size))).cell (p := ⟨ga, oa + i, none⟩) hga).trans hcell
              have hXs : X.size ≤ 300 := by rw [← hX]; exact HQ.out _ (List.getElem_mem _)
              have HEQ : Hid (S2.extract T.kids[i].fm T.kids[i].to = ⟨(cleanL X.data.toList).toArray⟩) := Lib.hid (by
                have h9 := ext_seg S2 T.kids[i].fm T.kids[i].to
                rw [m5] at h9
                rw [← h9])
              rw [← Lib.size_eq] at m4
              obtain ⟨fm, hfm⟩ : ∃ x, T.kids[i].fm = x := ⟨_, rfl⟩
              obtain ⟨tq, hto⟩ : ∃ x, T.kids[i].to = x := ⟨_, rfl⟩
              rw [hfm, hto] at HEQ
              rw [hfm, hto] at m3
              rw [hto] at m4
              rw [hfm] at r5
              rw [hto] at r6
              have i1 : ¬ ((fm : Int) < 0) := by omega
              have i2 : ¬ ((S2.size : Int) < (tq : Int)) := by omega
              have i3 : ¬ ((tq : Int) < (fm : Int)) := by omega
              have HCE := Lib.hid hcell
              clear hcell hX hfm hto m1 m2 m5
              have HBX := Lib.hid (Bx.made wr (sV plainT) (.slice aq T.kids[i].ps.length mq) (sV T.kids[i].enc) (.bool T.kids[i].att) (.int .i64 (T.kids[i].hd : Int)) (.int .i64 (fm : Int)) (.int .i64 (tq : Int)) (.slice bq 0 nq))
              unfold sV at r0 r2
              unfold plainT at r0
              have hb6 : Below wr.heap.size wr (wr.alloc (.cells #[.string ⟨#[116, 101, 120, 116, 47, 112, 108, 97, 105, 110]⟩, .slice aq T.kids[i].ps.length mq, .string ⟨T.kids[i].enc.toArray⟩, .bool T.kids[i].att, .int .i64 (T.kids[i].hd : Int), .int .i64 (fm : Int), .int .i64 (tq : Int), .slice bq 0 nq] 31)) := (Below.refl _ wr).alloc (Nat.le_refl _) _
              have HBX2 : Hid (Bx wr.heap.size (.string ⟨#[116, 101, 120, 116, 47, 112, 108, 97, 105, 110]⟩) (.slice aq T.kids[i].ps.length mq) (.string ⟨T.kids[i].enc.toArray⟩) (.bool T.kids[i].att) (.int .i64 (T.kids[i].hd : Int)) (.int .i64 (fm : Int)) (.int .i64 (tq : Int)) (.slice bq 0 nq) (wr.alloc (.cells #[.string ⟨#[116, 101, 120, 116, 47, 112, 108, 97, 105, 110]⟩, .slice aq T.kids[i].ps.length mq, .string ⟨T.kids[i].enc.toArray⟩, .bool T.kids[i].att, .int .i64 (T.kids[i].hd : Int), .int .i64 (fm : Int), .int .i64 (tq : Int), .slice bq 0 nq] 31))) := HBX
              obtain ⟨W5, hW5⟩ : ∃ W5, wr.alloc (.cells #[.string ⟨#[116, 101, 120, 116, 47, 112, 108, 97, 105, 110]⟩, .slice aq T.kids[i].ps.length mq, .string ⟨T.kids[i].enc.toArray⟩, .bool T.kids[i].att, .int .i64 (T.kids[i].hd : Int), .int .i64 (fm : Int), .int .i64 (tq : Int), .slice bq 0 nq] 31) = W5 := ⟨_, rfl⟩
              rw [hW5] at hb6 HBX2
              have HW5 := Lib.hid hW5
              have HB6 := Lib.hid ((HB4.out.trans (hb5.mono HB4.out.size)).trans (hb6.mono (Nat.le_trans HB4.out.size hb5.size)))
              have HB56 := Lib.hid (hb5.trans (hb6.mono hb5.size))
              obtain ⟨KB, hKB⟩ : ∃ KB, wr.heap.size = KB := ⟨_, rfl⟩
              rw [hKB] at HBX2
              go_upto_region 21 with fail
              clear hW5 HW5 HBX
              have HKL : Hid (KB < W5.heap.size) := Lib.hid HBX2.out.lt
              have HGA5 : Hid (ga < W5.heap.size) := Lib.hid (Nat.lt_of_lt_of_le hga HB6.out.size)
              have HCX5 : Hid (W5.cell? ⟨ga, oa + i, none⟩ = some (.string X)) := Lib.hid ((HB6.out.cell (p := ⟨ga, oa + i, none⟩) hga).trans HCE.out)
              clear r0 r1 r2 r3 r4 r5 r6 r7 p7 cX hb6 hKB hga
              have HSOF : Hid (∀ w' : World, Below W5.heap.size W5 w' → (Below W5.heap.size W5 w' ∧ w'.cell? ⟨KB, 5, none⟩ = some (.int .i64 (fm : Int)) ∧ w'.cell? ⟨KB, 6, none⟩ = some (.int .i64 (tq : Int)) ∧ w'.cell? ⟨KB, 0, none⟩ = some (.string ⟨#[116, 101, 120, 116, 47, 112, 108, 97, 105, 110]⟩) ∧ w'.cell? ⟨KB, 7, none⟩ = some (.slice bq 0 nq) ∧ w'.cell? ⟨ga, oa + i, none⟩ = some (.string X))) := Lib.hid (fun w' h => ⟨h, (h.cell (p := ⟨KB, 5, none⟩) HKL.out).trans HBX2.out.p5, (h.cell (p := ⟨KB, 6, none⟩) HKL.out).trans HBX2.out.p6, (h.cell (p := ⟨KB, 0, none⟩) HKL.out).trans HBX2.out.p0, (h.cell (p := ⟨KB, 7, none⟩) HKL.out).trans HBX2.out.p7, (h.cell (p := ⟨ga, oa + i, none⟩) HGA5.out).trans HCX5.out⟩)
              have HSD : Hid (Below W5.heap.size W5 W5.drew ∧ W5.drew.cell? ⟨KB, 5, none⟩ = some (.int .i64 (fm : Int)) ∧ W5.drew.cell? ⟨KB, 6, none⟩ = some (.int .i64 (tq : Int)) ∧ W5.drew.cell? ⟨KB, 0, none⟩ = some (.string ⟨#[116, 101, 120, 116, 47, 112, 108, 97, 105, 110]⟩) ∧ W5.drew.cell? ⟨KB, 7, none⟩ = some (.slice bq 0 nq) ∧ W5.drew.cell? ⟨ga, oa + i, none⟩ = some (.string X)) := Lib.hid (HSOF.out _ ((Below.refl _ W5).drew))
              have HS2 : Hid (∀ w7 : World, Below W5.drew.heap.size W5.drew w7 → (Below W5.heap.size W5 w7 ∧ w7.cell? ⟨KB, 5, none⟩ = some (.int .i64 (fm : Int)) ∧ w7.cell? ⟨KB, 6, none⟩ = some (.int .i64 (tq : Int)) ∧ w7.cell? ⟨KB, 0, none⟩ = some (.string ⟨#[116, 101, 120, 116, 47, 112, 108, 97, 105, 110]⟩) ∧ w7.cell? ⟨KB, 7, none⟩ = some (.slice bq 0 nq) ∧ w7.cell? ⟨ga, oa + i, none⟩ = some (.string X))) := Lib.hid (fun w7 h => HSOF.out _ (((Below.refl _ W5).drew).trans h))
              have HCL : Hid (Calls Tryd.prog 17 #[.string X] W5.drew fun e w' => e = .returned (.string (S2.extract fm tq)) ∧ Below W5.drew.heap.size W5.drew w') := Lib.hid (by
                refine (clean_any X W5.drew (by omega)).mono ?_
                rintro e w' ⟨rfl, h⟩
                exact ⟨by rw [HEQ.out], h⟩)
              go_region_held3 (fun w' => (Below W5.heap.size W5 w' ∧ w'.cell? ⟨KB, 5, none⟩ = some (.int .i64 (fm : Int)) ∧ w'.cell? ⟨KB, 6, none⟩ = some (.int .i64 (tq : Int)) ∧ w'.cell? ⟨KB, 0, none⟩ = some (.string ⟨#[116, 101, 120, 116, 47, 112, 108, 97, 105, 110]⟩) ∧ w'.cell? ⟨KB, 7, none⟩ = some (.slice bq 0 nq) ∧ w'.cell? ⟨ga, oa + i, none⟩ = some (.string X)))
                (first | with_reducible exact HSD.out | with_reducible exact HS2.out _ (by assumption))
                (first | (with_reducible refine (HCL.out).mono ?_; rintro e7 w7 ⟨rfl, hb7⟩))
              all_goals
                go_wp2_with fail
                go_roundg (k - (i + 1))
                case measure => omega
                case rel => exact ⟨i + 1, rfl, by omega, by go_num, HB56.out.trans ((((Below.refl _ W5).drew).trans hb7).mono HB56.out.size)⟩
            · have gi2 : ¬ (i : Int) < (k : Int) := by omega
              go_wp2_with fail
              refine (awake_any HT.out wr (HE.out.next (HB4.out.trans (hb5.mono HB4.out.size)))).mono ?_
              rintro e w9 ⟨rfl, hb9⟩
              have HB5 := Lib.hid (HB4.out.trans (hb5.mono HB4.out.size))
              go_wp2
              go_ret
              exact ⟨rfl, HB5.out.trans (hb9.mono HB5.out.size)⟩
    · have g1' : ¬ (20 : Int) < (n0 : Int) := by omega
      have g2' : ¬ (300 : Int) < (ahead.size : Int) := by omega
      have g3' : ¬ (300 : Int) < (behind.size : Int) := by omega
      clear g1 g2 g3
      go_enter Tryd.func6, Tryd.ntmps6
      go_wp2_with fail
      refine (clean_any ahead w (by omega)).mono ?_
      rintro e w1 ⟨rfl, hb1⟩
      obtain ⟨CA, hCA⟩ : ∃ CA : ByteArray, CA = ⟨(cleanL ahead.data.toList).toArray⟩ := ⟨_, rfl⟩
      have HCA := Lib.hid (show CA.data.toList = cleanL ahead.data.toList by rw [hCA])
      have hcs : CA.size ≤ 300 := by rw [Lib.size_eq, HCA.out, clean_length, ← Lib.size_eq]; omega
      rw [← hCA]
      clear hCA
      have HB1 := Lib.hid hb1
      clear hb1
      go_wp2_with fail
      go_loopg [10, 11] n0 (fun m sv iv wr => ∃ (k : Nat) (S : ByteArray), m = n0 - k ∧ k ≤ n0 ∧ iv = .int .i64 (k : Int) ∧ sv = .string S ∧ Below w.heap.size w wr ∧ S.size ≤ 1000 + 400 * k ∧
        Hid (S.data.toList = madeA [13, 10] (cleanL ahead.data.toList) ++ catP madeM [13, 10] (madeX ++ ([13, 10] ++ [13, 10])) ((xs.take k).map fun x => cleanL x.data.toList)) ∧ Hid (∀ x ∈ xs.take k, x.size ≤ 300))
      case atStart =>
        refine ⟨0, _, rfl, Nat.zero_le _, rfl, rfl, HB1.out, ?_, Lib.hid ?_, Lib.hid (by simp)⟩
        · simp only [ByteArray.size_append]
          show 47 + 2 + 2 + CA.size + 2 ≤ _
          omega
        · simp [madeA, madeH, ctypeT, catP, HCA.out]
      case round =>
        obtain ⟨k, S, rfl, hk, rfl, rfl, hb, hS, HS, HQ⟩ := hrel
        by_cases hlt : k < n0
        · have gi : (k : Int) < (n0 : Int) := by omega
          have hkx : k < xs.length := by rw [HL.out]; exact hlt
          obtain ⟨g, o, rfl, hg, hcell⟩ := HM.out k (by rw [List.length_map]; exact hkx)
          rw [List.getElem_map] at hcell
          obtain ⟨X, hX⟩ : ∃ X, xs[k] = X := ⟨_, rfl⟩
          rw [hX] at hcell
          have cX : wr.cell? ⟨g, o + k, none⟩ = some (.string X) := (hb.cell (p := ⟨g, o + k, none⟩) hg).trans hcell
          have HTK := Lib.hid (show (xs.take (k + 1)).map (fun x => cleanL x.data.toList) = (xs.take k).map (fun x => cleanL x.data.toList) ++ [cleanL X.data.toList] by
            rw [List.take_succ_eq_append_getElem hkx, List.map_append, hX]; rfl)
          have HTQ := Lib.hid (fun (h : X.size ≤ 300) => (show ∀ x ∈ xs.take (k + 1), x.size ≤ 300 from fun x hx => by
            rw [List.take_succ_eq_append_getElem hkx, hX] at hx
            rcases List.mem_append.1 hx with hx | hx
            · exact HQ.out x hx
            · rw [List.mem_singleton] at hx; rw [hx]; exact h))
          clear hcell hX hkx
          by_cases hbig : 300 < X.size
          · have gb : (300 : Int) < (X.size : Int) := by omega
            go_wp2_with fail
            refine (awake_any HT.out wr (HE.out.next hb)).mono ?_
            rintro e w2 ⟨rfl, hb2⟩
            go_wp2
            go_ret
            exact ⟨rfl, hb.trans (hb2.mono hb.size)⟩
          · have gb : ¬ (300 : Int) < (X.size : Int) := by omega
            go_wp2_with fail
            refine (clean_any X wr (by omega)).mono ?_
            rintro e w2 ⟨rfl, hb2⟩
            obtain ⟨CX, hCX⟩ : ∃ CX : ByteArray, CX = ⟨(cleanL X.data.toList).toArray⟩ := ⟨_, rfl⟩
            have HCX := Lib.hid (show CX.data.toList = cleanL X.data.toList by rw [hCX])
            have hcx : CX.size ≤ 300 := by rw [Lib.size_eq, HCX.out, clean_length, ← Lib.size_eq]; omega
            rw [← hCX]
            clear hCX
            have HB2 := Lib.hid (hb.trans (hb2.mono hb.size))
            clear hb2
            go_wp2_with fail
            go_roundg (n0 - (k + 1))
            case measure => omega
            case rel =>
              refine ⟨k + 1, _, rfl, by omega, by go_num, rfl, HB2.out, ?_, Lib.hid ?_, Lib.hid (HTQ.out (by omega))⟩
              · simp only [ByteArray.size_append]
                show S.size + 8 + 2 + 4 + 2 + 2 + CX.size + 2 ≤ _
                omega
              · rw [HTK.out, catP_snoc, ← List.append_assoc, ← HS.out]
                simp [madeM, madeX, HCX.out]
        · have gi : ¬ (k : Int) < (n0 : Int) := by omega
          have hkn : k = n0 := by omega
          subst hkn
          rw [List.take_of_length_le (by rw [HL.out]; exact Nat.le_refl _)] at HS HQ
          go_wp2_with fail
          refine (clean_any behind wr (by omega)).mono ?_
          rintro e w2 ⟨rfl, hb2⟩
          obtain ⟨CB, hCB⟩ : ∃ CB : ByteArray, CB = ⟨(cleanL behind.data.toList).toArray⟩ := ⟨_, rfl⟩
          have HCB := Lib.hid (show CB.data.toList = cleanL behind.data.toList by rw [hCB])
          have hcb : CB.size ≤ 300 := by rw [Lib.size_eq, HCB.out, clean_length, ← Lib.size_eq]; omega
          rw [← hCB]
          clear hCB
          have HB2 := Lib.hid (hb.trans (hb2.mono hb.size))
          clear hb2
          go_wp2_with fail
          obtain ⟨S2, hS2⟩ : ∃ S2 : ByteArray, S2 = S ++ ⟨#[45, 45, 122, 122, 43, 122, 122, 45, 45]⟩ ++ ⟨#[13, 10]⟩ ++ CB := ⟨_, rfl⟩
          have HS2 := Lib.hid (show S2.data.toList = madeS [13, 10] (cleanL ahead.data.toList) (cleanL behind.data.toList) (xs.map fun x => cleanL x.data.toList) by rw [hS2]; unfold madeS; simp [HS.out, madeZ, HCB.out])
          have hs2 : S2.size ≤ 32768 := by
            rw [hS2]
            simp only [ByteArray.size_append]
            show S.size + 9 + 2 + CB.size ≤ _
            omega
          rw [← hS2]
          clear hS2
          refine (HT.out S2 w2 hs2 (HE.out.next HB2.out)).mono ?_
          rintro e w3 ⟨c0, c1, c2, c3, c4, c5, c6, c7, rfl, hp, hb3⟩
          obtain ⟨T, hT'⟩ : ∃ T, treeL S2.data.toList = T := ⟨_, rfl⟩
          rw [hT'] at hp
          have HMT := Lib.hid (made_tree (e := [13, 10]) (Or.inr rfl) (clean_pure _) (fun c hc => by obtain ⟨x, _, rfl⟩ := List.mem_map.1 hc; exact clean_pure _) (by rw [List.length_map, HL.out]; omega) S2.data.toList HS2.out.symm T hT')
          obtain ⟨ap, mp, ak, mk, e, hps, cs, hk1, hk2⟩ := part_cells hp
          have hkl : T.kids.length = k := by rw [HMT.out.2.1, List.length_map, HL.out]
          rw [HMT.out.1, hkl] at e
          injection e with e
          injection e with e
          injection e with e0 e
          injection e with e1 e
          injection e with e2 e
          injection e with e3 e
          injection e with e4 e
          injection e with e5 e
          injection e with e6 e
          injection e with e7 e
          subst e0 e1 e2 e3 e4 e5 e6 e7
          have HB3 := Lib.hid (HB2.out.trans (hb3.mono HB2.out.size))
          have HKL := Lib.hid hkl
          have HKC := Lib.hid (And.intro hk1 hk2)
          clear hT' hp hb3 hkl hk1 hk2 hps
          have hA := Bx.made w3 (.string ⟨#[109, 117, 108, 116, 105, 112, 97, 114, 116, 47, 109, 105, 120, 101, 100]⟩) (.slice ap T.ps.length mp) (.string ⟨T.enc.toArray⟩) (.bool T.att) (.int .i64 (T.hd : Int)) (.int .i64 (T.fm : Int)) (.int .i64 (T.to : Int)) (.slice ak k mk)
          have hb4 : Below w3.heap.size w3 (w3.alloc (.cells #[.string ⟨#[109, 117, 108, 116, 105, 112, 97, 114, 116, 47, 109, 105, 120, 101, 100]⟩, .slice ap T.ps.length mp, .string ⟨T.enc.toArray⟩, .bool T.att, .int .i64 (T.hd : Int), .int .i64 (T.fm : Int), .int .i64 (T.to : Int), .slice ak k mk] 31)) := (Below.refl _ w3).alloc (Nat.le_refl _) _
          obtain ⟨W4, hW4⟩ : ∃ W4, w3.alloc (.cells #[.string ⟨#[109, 117, 108, 116, 105, 112, 97, 114, 116, 47, 109, 105, 120, 101, 100]⟩, .slice ap T.ps.length mp, .string ⟨T.enc.toArray⟩, .bool T.att, .int .i64 (T.hd : Int), .int .i64 (T.fm : Int), .int .i64 (T.to : Int), .slice ak k mk] 31) = W4 := ⟨_, rfl⟩
          rw [hW4] at hA hb4
          have HW4 := Lib.hid hW4
          have HB4 := Lib.hid (HB3.out.trans (hb4.mono HB3.out.size))
          have HKC4 := Lib.hid (fun (w' : World) (hb' : Below W4.heap.size W4 w') (i : Nat) (hi : i < T.kids.length) => kid_cells (CellsAt.keep (HKC.out.1.keep (kept_below hb4)) (kept_below hb')) (KidsAt.keep (kept_below hb') (KidsAt.keep (kept_below hb4) HKC.out.2)) i hi)
          obtain ⟨G, hG⟩ : ∃ G, w3.heap.size = G := ⟨_, rfl⟩
          rw [hG] at hA
          have HA := Lib.hid hA
          clear hW4 hb4 hA
          unfold sV mixedT
          go_wp2_with fail
          rw [HW4.out]
          (try rw [hG])
          go_loopg [13] k (fun m iv wx => ∃ i : Nat, m = k - i ∧ i ≤ k ∧ iv = .int .i64 (i : Int) ∧ Below W4.heap.size W4 wx)
          case atStart => exact ⟨0, rfl, Nat.zero_le _, rfl, Below.refl _ _⟩
          case round =>
            obtain ⟨i, rfl, hik, rfl, hb5⟩ := hrel
            have p7 := (HA.out.same (hb5.block G HA.out.lt)).p7
            by_cases hlt2 : i < k
            · have gi2 : (i : Int) < (k : Int) := by omega
              have hit : i < T.kids.length := by rw [HKL.out]; exact hlt2
              obtain ⟨g, o, x0, x1, x2, x3, x4, x5, x6, x7, rfl, hg, r0, r1, r2, r3, r4, r5, r6, r7, hx⟩ := HKC4.out wr hb5 i hit
              obtain ⟨m1, m2, m3, m4, m5⟩ := HMT.out.2.2 i (by rw [List.length_map, HL.out]; exact hlt2) hit
              obtain ⟨aq, mq, bq, nq, e, -⟩ := part_cells hx
              rw [m1, m2] at e
              injection e with e
              injection e with e
              injection e with e0 e
              injection e with e1 e
              injection e with e2 e
              injection e with e3 e
              injection e with e4 e
              injection e with e5 e
              injection e with e6 e
              injection e with e7 e
              subst e0 e1 e2 e3 e4 e5 e6 e7
              obtain ⟨X, hX⟩ : ∃ X, xs[i]'(by rw [HL.out]; exact hlt2) = X := ⟨_, rfl⟩
              obtain ⟨ga, oa, rfl, hga, hcell⟩ := HM.out i (by rw [List.length_map, HL.out]; exact hlt2)
              rw [List.getElem_map, hX] at hcell
              rw [List.getElem_map, hX] at m5
              have cX : wr.cell? ⟨ga, oa + i, none⟩ = some (.string X) := (((HB4.out.trans (hb5.mono HB4.out.size))).cell (p := ⟨ga, oa + i, none⟩) hga).trans hcell
              have hXs : X.size ≤ 300 := by rw [← hX]; exact HQ.out _ (List.getElem_mem _)
              have HEQ : Hid (S2.extract T.kids[i].fm T.kids[i].to = ⟨(cleanL X.data.toList).toArray⟩) := Lib.hid (by
                have h9 := ext_seg S2 T.kids[i].fm T.kids[i].to
                rw [m5] at h9
                rw [← h9])
              rw [← Lib.size_eq] at m4
              obtain ⟨fm, hfm⟩ : ∃ x, T.kids[i].fm = x := ⟨_, rfl⟩
              obtain ⟨tq, hto⟩ : ∃ x, T.kids[i].to = x := ⟨_, rfl⟩
              rw [hfm, hto] at HEQ
              rw [hfm, hto] at m3
              rw [hto] at m4
              rw [hfm] at r5
              rw [hto] at r6
              have i1 : ¬ ((fm : Int) < 0) := by omega
              have i2 : ¬ ((S2.size : Int) < (tq : Int)) := by omega
              have i3 : ¬ ((tq : Int) < (fm : Int)) := by omega
              have HCE := Lib.hid hcell
              clear hcell hX hfm hto m1 m2 m5
              have HBX := Lib.hid (Bx.made wr (sV plainT) (.slice aq T.kids[i].ps.length mq) (sV T.kids[i].enc) (.bool T.kids[i].att) (.int .i64 (T.kids[i].hd : Int)) (.int .i64 (fm : Int)) (.int .i64 (tq : Int)) (.slice bq 0 nq))
              unfold sV at r0 r2
              unfold plainT at r0
              have hb6 : Below wr.heap.size wr (wr.alloc (.cells #[.string ⟨#[116, 101, 120, 116, 47, 112, 108, 97, 105, 110]⟩, .slice aq T.kids[i].ps.length mq, .string ⟨T.kids[i].enc.toArray⟩, .bool T.kids[i].att, .int .i64 (T.kids[i].hd : Int), .int .i64 (fm : Int), .int .i64 (tq : Int), .slice bq 0 nq] 31)) := (Below.refl _ wr).alloc (Nat.le_refl _) _
              have HBX2 : Hid (Bx wr.heap.size (.string ⟨#[116, 101, 120, 116, 47, 112, 108, 97, 105, 110]⟩) (.slice aq T.kids[i].ps.length mq) (.string ⟨T.kids[i].enc.toArray⟩) (.bool T.kids[i].att) (.int .i64 (T.kids[i].hd : Int)) (.int .i64 (fm : Int)) (.int .i64 (tq : Int)) (.slice bq 0 nq) (wr.alloc (.cells #[.string ⟨#[116, 101, 120, 116, 47, 112, 108, 97, 105, 110]⟩, .slice aq T.kids[i].ps.length mq, .string ⟨T.kids[i].enc.toArray⟩, .bool T.kids[i].att, .int .i64 (T.kids[i].hd : Int), .int .i64 (fm : Int), .int .i64 (tq : Int), .slice bq 0 nq] 31))) := HBX
              obtain ⟨W5, hW5⟩ : ∃ W5, wr.alloc (.cells #[.string ⟨#[116, 101, 120, 116, 47, 112, 108, 97, 105, 110]⟩, .slice aq T.kids[i].ps.length mq, .string ⟨T.kids[i].enc.toArray⟩, .bool T.kids[i].att, .int .i64 (T.kids[i].hd : Int), .int .i64 (fm : Int), .int .i64 (tq : Int), .slice bq 0 nq] 31) = W5 := ⟨_, rfl⟩
              rw [hW5] at hb6 HBX2
              have HW5 := Lib.hid hW5
              have HB6 := Lib.hid ((HB4.out.trans (hb5.mono HB4.out.size)).trans (hb6.mono (Nat.le_trans HB4.out.size hb5.size)))
              have HB56 := Lib.hid (hb5.trans (hb6.mono hb5.size))
              obtain ⟨KB, hKB⟩ : ∃ KB, wr.heap.size = KB := ⟨_, rfl⟩
              rw [hKB] at HBX2
              go_upto_region 21 with fail
              clear hW5 HW5 HBX
              have HKL : Hid (KB < W5.heap.size) := Lib.hid HBX2.out.lt
              have HGA5 : Hid (ga < W5.heap.size) := Lib.hid (Nat.lt_of_lt_of_le hga HB6.out.size)
              have HCX5 : Hid (W5.cell? ⟨ga, oa + i, none⟩ = some (.string X)) := Lib.hid ((HB6.out.cell (p := ⟨ga, oa + i, none⟩) hga).trans HCE.out)
              clear r0 r1 r2 r3 r4 r5 r6 r7 p7 cX hb6 hKB hga
              have HSOF : Hid (∀ w' : World, Below W5.heap.size W5 w' → (Below W5.heap.size W5 w' ∧ w'.cell? ⟨KB, 5, none⟩ = some (.int .i64 (fm : Int)) ∧ w'.cell? ⟨KB, 6, none⟩ = some (.int .i64 (tq : Int)) ∧ w'.cell? ⟨KB, 0, none⟩ = some (.string ⟨#[116, 101, 120, 116, 47, 112, 108, 97, 105, 110]⟩) ∧ w'.cell? ⟨KB, 7, none⟩ = some (.slice bq 0 nq) ∧ w'.cell? ⟨ga, oa + i, none⟩ = some (.string X))) := Lib.hid (fun w' h => ⟨h, (h.cell (p := ⟨KB, 5, none⟩) HKL.out).trans HBX2.out.p5, (h.cell (p := ⟨KB, 6, none⟩) HKL.out).trans HBX2.out.p6, (h.cell (p := ⟨KB, 0, none⟩) HKL.out).trans HBX2.out.p0, (h.cell (p := ⟨KB, 7, none⟩) HKL.out).trans HBX2.out.p7, (h.cell (p := ⟨ga, oa + i, none⟩) HGA5.out).trans HCX5.out⟩)
              have HSD : Hid (Below W5.heap.size W5 W5.drew ∧ W5.drew.cell? ⟨KB, 5, none⟩ = some (.int .i64 (fm : Int)) ∧ W5.drew.cell? ⟨KB, 6, none⟩ = some (.int .i64 (tq : Int)) ∧ W5.drew.cell? ⟨KB, 0, none⟩ = some (.string ⟨#[116, 101, 120, 116, 47, 112, 108, 97, 105, 110]⟩) ∧ W5.drew.cell? ⟨KB, 7, none⟩ = some (.slice bq 0 nq) ∧ W5.drew.cell? ⟨ga, oa + i, none⟩ = some (.string X)) := Lib.hid (HSOF.out _ ((Below.refl _ W5).drew))
              have HS2 : Hid (∀ w7 : World, Below W5.drew.heap.size W5.drew w7 → (Below W5.heap.size W5 w7 ∧ w7.cell? ⟨KB, 5, none⟩ = some (.int .i64 (fm : Int)) ∧ w7.cell? ⟨KB, 6, none⟩ = some (.int .i64 (tq : Int)) ∧ w7.cell? ⟨KB, 0, none⟩ = some (.string ⟨#[116, 101, 120, 116, 47, 112, 108, 97, 105, 110]⟩) ∧ w7.cell? ⟨KB, 7, none⟩ = some (.slice bq 0 nq) ∧ w7.cell? ⟨ga, oa + i, none⟩ = some (.string X))) := Lib.hid (fun w7 h => HSOF.out _ (((Below.refl _ W5).drew).trans h))
              have HCL : Hid (Calls Tryd.prog 17 #[.string X] W5.drew fun e w' => e = .returned (.string (S2.extract fm tq)) ∧ Below W5.drew.heap.size W5.drew w') := Lib.hid (by
                refine (clean_any X W5.drew (by omega)).mono ?_
                rintro e w' ⟨rfl, h⟩
                exact ⟨by rw [HEQ.out], h⟩)
              go_region_held3 (fun w' => (Below W5.heap.size W5 w' ∧ w'.cell? ⟨KB, 5, none⟩ = some (.int .i64 (fm : Int)) ∧ w'.cell? ⟨KB, 6, none⟩ = some (.int .i64 (tq : Int)) ∧ w'.cell? ⟨KB, 0, none⟩ = some (.string ⟨#[116, 101, 120, 116, 47, 112, 108, 97, 105, 110]⟩) ∧ w'.cell? ⟨KB, 7, none⟩ = some (.slice bq 0 nq) ∧ w'.cell? ⟨ga, oa + i, none⟩ = some (.string X)))
                (first | with_reducible exact HSD.out | with_reducible exact HS2.out _ (by assumption))
                (first | (with_reducible refine (HCL.out).mono ?_; rintro e7 w7 ⟨rfl, hb7⟩))
              all_goals
                go_wp2_with fail
                go_roundg (k - (i + 1))
                case measure => omega
                case rel => exact ⟨i + 1, rfl, by omega, by go_num, HB56.out.trans ((((Below.refl _ W5).drew).trans hb7).mono HB56.out.size)⟩
            · have gi2 : ¬ (i : Int) < (k : Int) := by omega
              go_wp2_with fail
              refine (awake_any HT.out wr (HE.out.next (HB4.out.trans (hb5.mono HB4.out.size)))).mono ?_
              rintro e w9 ⟨rfl, hb9⟩
              have HB5 := Lib.hid (HB4.out.trans (hb5.mono HB4.out.size))
              go_wp2
              go_ret
              exact ⟨rfl, HB5.out.trans (hb9.mono HB5.out.size)⟩
end Go.Proofs.YtkmopneeafbeaaaDoor.Pt
