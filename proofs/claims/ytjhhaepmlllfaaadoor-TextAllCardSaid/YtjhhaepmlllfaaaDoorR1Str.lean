/-
  The document's answer for package text, as the statements have it: String returns the text as IMAP tells it, in new memory. Condition: the text has at most 2^31 bytes.
-/
import Derived.Test.YtjhhaepmlllfaaaDoorR1Dig
import Derived.Test.YtjhhaepmlllfaaaDoorTxStrings
namespace Go.Proofs.YtjhhaepmlllfaaaDoor.R1
open Go Go.RowKit Go.Joins Tx

set_option maxHeartbeats 2000000 in
set_option maxRecDepth 100000 in
theorem string_call (s : ByteArray) (w : World) (hs : s.size ≤ 2147483648) :
    Calls Tryd.prog 21 #[.string s] w fun e w' => e = .returned (.string (strB s)) ∧ Below w.heap.size w w' := by
  obtain ⟨i0, hi, hz0, hz1, hz2⟩ := info_parts info5
  have hls := Lib.hid (Lib.size_eq s)
  by_cases hp : plainL s.data.toList = true
  · have hp1 : s.size ≤ 200 ∧ s.data.toList.all plainB = true := by
      unfold plainL at hp
      simpa [← Lib.size_eq] using hp
    have g : (s.size : Int) ≤ 200 := by omega
    have hres : Hid (34 :: escL s.data.toList ++ [34] = strL s.data.toList) := by show _ = _; unfold strL; rw [hp]; rfl
    have hall := Lib.hid hp1.2
    clear hp hp1
    go_enter Tryd.func21, Tryd.ntmps21
    go_wp2_with fail
    go_loop [3, 4] (fun b i => ∃ k : Nat, k ≤ s.size ∧ i = .int .i64 k ∧ b = .bool true) (fun _ i => s.size - (intOf i).toNat)
    case atStart => exact ⟨0, by omega, rfl, rfl⟩
    case round =>
      obtain ⟨k, hk, rfl, rfl⟩ := hrel
      by_cases hlt : k < s.size
      · have hl : k < s.data.toList.length := by rw [← hls.out]; exact hlt
        have hpk := List.all_eq_true.1 hall.out _ (List.getElem_mem hl)
        rw [byte_get s k hlt, plainB_iff] at hpk
        have g1 : (32 : Int) ≤ s[k].toNat := by omega
        have g2 : (s[k].toNat : Int) ≤ 126 := by omega
        clear hpk
        go_wp2
        go_round
        case rel => exact ⟨k + 1, by omega, by go_num, by first | rfl | (congr 1; simp; omega)⟩
        case measure => simp [intOf]; omega
      · have he : k = s.size := by omega
        subst he
        have hlit : (w.alloc (Obj.cells #[Value.int IntKind.u8 34] 5)).ownsRow w.heap.size 5 1 (.slice (some ⟨w.heap.size, 0, none⟩) 1 1) 1 (Lib.byteCells (34 :: escL (s.data.toList.take 0))) :=
          World.ownsRow_lit w #[Value.int IntKind.u8 34] 1 (Nat.le_refl _) (by decide) rfl
        have hb0 : Below w.heap.size w (w.alloc (Obj.cells #[Value.int IntKind.u8 34] 5)) := (Below.refl _ w).alloc (Nat.le_refl _) _
        clear hk hlt
        go_wp2_with fail
        go_loopw [5, 6] (fun v i wr => ∃ k n : Nat, k ≤ s.size ∧ Hid (n = (34 :: escL (s.data.toList.take k)).length) ∧ n ≤ 2 * k + 1 ∧ i = .int .i64 k ∧ wr.ownsRow w.heap.size 5 1 v n (Lib.byteCells (34 :: escL (s.data.toList.take k))) ∧ Below w.heap.size w wr) (fun _ i _ => s.size - (intOf i).toNat)
        case atStart => exact ⟨0, 1, by omega, rfl, by omega, rfl, hlit, hb0⟩
        case round =>
          clear hlit hb0
          obtain ⟨k, n, hk, hn, hn2, rfl, hown, hb⟩ := hrel
          by_cases hlt : k < s.size
          · have hl : k < s.data.toList.length := by rw [← hls.out]; exact hlt
            have hfs : Hid (escL (s.data.toList.take (k + 1)) = escL (s.data.toList.take k) ++ escB s[k]) := by
              show _ = _
              rw [escL_take_succ _ k hl, byte_get s k hlt]
            rcases (show s[k].toNat = 34 ∨ s[k].toNat = 92 ∨ ¬ (s[k].toNat = 34 ∨ s[k].toNat = 92) by omega) with hq | hq | hq
            · have hesc : Hid (escB s[k] = [92, s[k]]) := if_pos ((signB_iff _).2 (Or.inl hq))
              have g1 : ((s[k].toNat : Int) == 34) = true := by rw [hq]; rfl
              clear hq
              go_wp2_with (at_builtin; refine wpList_append_own _ rfl _ _ 33 rfl w.heap.size 5 i0 (.int .u8 0) 1 1 Tryd.underlying33 hi hz0 hz1 hz2 rfl (by decide) _ _ _ rfl (hown.alloc _) ⟨wr.heap.size, 0, none⟩ 1 1 [.int .u8 92] rfl rfl ?pa1 ?pa2 ?pa3 ?pa4 ?pa5 ?_)
              case pa1 => exact cell_new wr _ _
              case pa2 => intro u hu; simp at hu; subst hu; rfl
              case pa3 => unfold maxLen; omega
              case pa4 => omega
              case pa5 => have := hb.size; simp; omega
              intro v_1 w_1 hown_1 hgrow _
              have hb_1 := (hb.alloc hb.size (Obj.cells #[.int .u8 92] 5)).grown hgrow (by have := hb.size; simp; omega) (fun j hj => (hown.lt j hj).1)
              clear hgrow hown
              go_wp2_with (at_builtin; refine wpList_append_own _ rfl _ _ 33 rfl w.heap.size 5 i0 (.int .u8 0) 1 1 Tryd.underlying33 hi hz0 hz1 hz2 rfl (by decide) _ _ _ rfl (hown_1.alloc _) ⟨w_1.heap.size, 0, none⟩ 1 1 [.int .u8 (s[k].toNat : Int)] rfl rfl ?pb1 ?pb2 ?pb3 ?pb4 ?pb5 ?_)
              case pb1 => exact cell_new w_1 _ _
              case pb2 => intro u hu; simp at hu; subst hu; rfl
              case pb3 => unfold maxLen; omega
              case pb4 => omega
              case pb5 => have := hb_1.size; simp; omega
              intro v_2 w_2 hown_2 hgrow _
              have hb_2 := (hb_1.alloc hb_1.size (Obj.cells #[.int .u8 (s[k].toNat : Int)] 5)).grown hgrow (by have := hb_1.size; simp; omega) (fun j hj => (hown_1.lt j hj).1)
              clear hgrow hown_1
              go_wp2
              go_roundw
              case rel =>
                refine ⟨k + 1, n + 1 + 1, by omega, ?_, by omega, by go_num, ?_, hb_2⟩
                · show _ = _
                  rw [hfs.out, hesc.out, hn.out]; simp
                · rw [hfs.out, hesc.out, ← List.cons_append, cells_two]; simpa [List.append_assoc] using hown_2
              case measure => simp [intOf]; omega
            · have hesc : Hid (escB s[k] = [92, s[k]]) := if_pos ((signB_iff _).2 (Or.inr hq))
              have g1 : ((s[k].toNat : Int) == 34) = false := by rw [hq]; rfl
              have g2 : ((s[k].toNat : Int) == 92) = true := by rw [hq]; rfl
              clear hq
              go_wp2_with (at_builtin; refine wpList_append_own _ rfl _ _ 33 rfl w.heap.size 5 i0 (.int .u8 0) 1 1 Tryd.underlying33 hi hz0 hz1 hz2 rfl (by decide) _ _ _ rfl (hown.alloc _) ⟨wr.heap.size, 0, none⟩ 1 1 [.int .u8 92] rfl rfl ?qa1 ?qa2 ?qa3 ?qa4 ?qa5 ?_)
              case qa1 => exact cell_new wr _ _
              case qa2 => intro u hu; simp at hu; subst hu; rfl
              case qa3 => unfold maxLen; omega
              case qa4 => omega
              case qa5 => have := hb.size; simp; omega
              intro v_1 w_1 hown_1 hgrow _
              have hb_1 := (hb.alloc hb.size (Obj.cells #[.int .u8 92] 5)).grown hgrow (by have := hb.size; simp; omega) (fun j hj => (hown.lt j hj).1)
              clear hgrow hown
              go_wp2_with (at_builtin; refine wpList_append_own _ rfl _ _ 33 rfl w.heap.size 5 i0 (.int .u8 0) 1 1 Tryd.underlying33 hi hz0 hz1 hz2 rfl (by decide) _ _ _ rfl (hown_1.alloc _) ⟨w_1.heap.size, 0, none⟩ 1 1 [.int .u8 (s[k].toNat : Int)] rfl rfl ?qb1 ?qb2 ?qb3 ?qb4 ?qb5 ?_)
              case qb1 => exact cell_new w_1 _ _
              case qb2 => intro u hu; simp at hu; subst hu; rfl
              case qb3 => unfold maxLen; omega
              case qb4 => omega
              case qb5 => have := hb_1.size; simp; omega
              intro v_2 w_2 hown_2 hgrow _
              have hb_2 := (hb_1.alloc hb_1.size (Obj.cells #[.int .u8 (s[k].toNat : Int)] 5)).grown hgrow (by have := hb_1.size; simp; omega) (fun j hj => (hown_1.lt j hj).1)
              clear hgrow hown_1
              go_wp2
              go_roundw
              case rel =>
                refine ⟨k + 1, n + 1 + 1, by omega, ?_, by omega, by go_num, ?_, hb_2⟩
                · show _ = _
                  rw [hfs.out, hesc.out, hn.out]; simp
                · rw [hfs.out, hesc.out, ← List.cons_append, cells_two]; simpa [List.append_assoc] using hown_2
              case measure => simp [intOf]; omega
            · have hesc : Hid (escB s[k] = [s[k]]) := if_neg (fun h => hq ((signB_iff _).1 h))
              have g1 : ((s[k].toNat : Int) == 34) = false := by rw [beq_eq_false_iff_ne]; omega
              have g2 : ((s[k].toNat : Int) == 92) = false := by rw [beq_eq_false_iff_ne]; omega
              clear hq
              go_wp2_with (at_builtin; refine wpList_append_own _ rfl _ _ 33 rfl w.heap.size 5 i0 (.int .u8 0) 1 1 Tryd.underlying33 hi hz0 hz1 hz2 rfl (by decide) _ _ _ rfl (hown.alloc _) ⟨wr.heap.size, 0, none⟩ 1 1 [.int .u8 (s[k].toNat : Int)] rfl rfl ?ra1 ?ra2 ?ra3 ?ra4 ?ra5 ?_)
              case ra1 => exact cell_new wr _ _
              case ra2 => intro u hu; simp at hu; subst hu; rfl
              case ra3 => unfold maxLen; omega
              case ra4 => omega
              case ra5 => have := hb.size; simp; omega
              intro v_1 w_1 hown_1 hgrow _
              have hb_1 := (hb.alloc hb.size (Obj.cells #[.int .u8 (s[k].toNat : Int)] 5)).grown hgrow (by have := hb.size; simp; omega) (fun j hj => (hown.lt j hj).1)
              clear hgrow hown
              go_wp2
              go_roundw
              case rel =>
                refine ⟨k + 1, n + 1, by omega, ?_, by omega, by go_num, ?_, hb_1⟩
                · show _ = _
                  rw [hfs.out, hesc.out, hn.out]; simp
                · rw [hfs.out, hesc.out, ← List.cons_append, cells_snoc]; exact hown_1
              case measure => simp [intOf]; omega
          · have he : k = s.size := by omega
            rw [he, List.take_of_length_le (by rw [← hls.out]; exact Nat.le_refl _)] at hown
            clear he hn
            go_wp2_with (at_builtin; refine wpList_append_own _ rfl _ _ 33 rfl w.heap.size 5 i0 (.int .u8 0) 1 1 Tryd.underlying33 hi hz0 hz1 hz2 rfl (by decide) _ _ _ rfl (hown.alloc _) ⟨wr.heap.size, 0, none⟩ 1 1 [.int .u8 34] rfl rfl ?sa1 ?sa2 ?sa3 ?sa4 ?sa5 ?_)
            case sa1 => exact cell_new wr _ _
            case sa2 => intro u hu; simp at hu; subst hu; rfl
            case sa3 => unfold maxLen; omega
            case sa4 => omega
            case sa5 => have := hb.size; simp; omega
            intro v_1 w_1 hown_1 hgrow _
            have hb_1 := (hb.alloc hb.size (Obj.cells #[.int .u8 34] 5)).grown hgrow (by have := hb.size; simp; omega) (fun j hj => (hown.lt j hj).1)
            clear hgrow hown
            rw [← cells_one, hres.out] at hown_1
            have hrun := run_row _ _ _ w_1 _ hown_1
            clear hown_1
            go_wp2
            go_ret
            exact ⟨rfl, hb_1⟩
  · have hp' : plainL s.data.toList = false := by simpa using hp
    have hlit := Lib.hid (strB_lit s hp')
    have hds := digs_short (n := (s.size : Int)) (by omega)
    by_cases h200 : 200 < s.size
    · have g : (200 : Int) < s.size := by omega
      clear hp hp'
      go_enter Tryd.func21, Tryd.ntmps21
      go_wp2_with fail
      go_loop [3, 4] (fun b i => b = .bool false ∧ i = .int .i64 0) (fun _ _ => 0)
      case atStart => exact ⟨by first | rfl | (congr 1; simp; omega), rfl⟩
      case round =>
        obtain ⟨rfl, rfl⟩ := hrel
        go_wp2_with fail
        refine (digits_call s.size (by omega) (by omega) _).mono ?_
        rintro e w1 ⟨rfl, hb⟩
        go_wp2_with fail
        go_ret
        exact ⟨ret_string hlit.out.symm, hb⟩
    · have g : (s.size : Int) ≤ 200 := by omega
      have hbad : Hid (s.data.toList.all plainB = false) := by
        show _ = _
        cases e : s.data.toList.all plainB
        · rfl
        · exfalso
          apply hp
          unfold plainL
          rw [e, ← hls.out]
          simp
          omega
      clear hp hp' h200
      go_enter Tryd.func21, Tryd.ntmps21
      go_wp2_with fail
      go_loop [3, 4] (fun b i => ∃ (k : Nat) (o : Bool), k ≤ s.size ∧ i = .int .i64 k ∧ b = .bool o ∧ Hid (o = (s.data.toList.take k).all plainB)) (fun _ i => s.size - (intOf i).toNat)
      case atStart => exact ⟨0, true, by omega, rfl, by first | rfl | (congr 1; simp; omega), rfl⟩
      case round =>
        obtain ⟨k, o, hk, rfl, rfl, ho⟩ := hrel
        by_cases hlt : k < s.size
        · cases o
          · clear ho
            go_wp2_with fail
            refine (digits_call s.size (by omega) (by omega) _).mono ?_
            rintro e w1 ⟨rfl, hb⟩
            go_wp2_with fail
            go_ret
            exact ⟨ret_string hlit.out.symm, hb⟩
          · have hl : k < s.data.toList.length := by rw [← hls.out]; exact hlt
            have hst : Hid ((s.data.toList.take (k + 1)).all plainB = plainB s[k]) := by
              show _ = _
              rw [all_take_succ _ _ _ hl, ← ho.out, byte_get s k hlt, Bool.true_and]
            cases hb : plainB s[k]
            · have hn : ¬ (32 ≤ s[k].toNat ∧ s[k].toNat ≤ 126) := fun h => by rw [(plainB_iff _).2 h] at hb; cases hb
              have HB := Lib.hid hb
              rcases (show (s[k].toNat : Int) < 32 ∨ ((32 : Int) ≤ s[k].toNat ∧ (126 : Int) < s[k].toNat) by omega) with g1 | ⟨g1, g2⟩
              all_goals
                clear hb hn ho
                go_wp2
                go_round
                case rel => exact ⟨k + 1, false, by omega, by go_num, by first | rfl | (congr 1; simp; omega), by show _ = _; rw [hst.out, HB.out]⟩
                case measure => simp [intOf]; omega
            · have hy := (plainB_iff _).1 hb
              have HB := Lib.hid hb
              have g1 : (32 : Int) ≤ s[k].toNat := by omega
              have g2 : (s[k].toNat : Int) ≤ 126 := by omega
              clear hb hy ho
              go_wp2
              go_round
              case rel => exact ⟨k + 1, true, by omega, by go_num, by first | rfl | (congr 1; simp; omega), by show _ = _; rw [hst.out, HB.out]⟩
              case measure => simp [intOf]; omega
        · have he : k = s.size := by omega
          have hof : o = false := by
            rw [ho.out, he, List.take_of_length_le (by rw [← hls.out]; exact Nat.le_refl _), hbad.out]
          subst hof
          clear he ho
          go_wp2_with fail
          refine (digits_call s.size (by omega) (by omega) _).mono ?_
          rintro e w1 ⟨rfl, hb⟩
          go_wp2_with fail
          go_ret
          exact ⟨ret_string hlit.out.symm, hb⟩
end Go.Proofs.YtjhhaepmlllfaaaDoor.R1
