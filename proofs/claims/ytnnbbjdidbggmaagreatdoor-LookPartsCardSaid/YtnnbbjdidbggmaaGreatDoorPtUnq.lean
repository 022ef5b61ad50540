/-
  The program's small and unquote: a text without its blanks, its letters small; what a quoted text tells. Conditions: the text has at most 2^30 bytes; the bound of the library's search is some number.
-/
import Derived.Test.YtnnbbjdidbggmaaGreatDoorPtAny
import Derived.Test.YtnnbbjdidbggmaaGreatDoorPtMem
import Derived.Test.YtnnbbjdidbggmaaGreatDoorF0Field
import Derived.Test.YtnnbbjdidbggmaaGreatDoorTxFold
import Derived.Test.YtnnbbjdidbggmaaGreatDoorU8Clone
import Derived.Test.YtnnbbjdidbggmaaGreatDoorEnv
import Derived.Shelf.Small.Wraps
import Derived.IntWalk
namespace Go.Proofs.YtnnbbjdidbggmaaGreatDoor.Pt
open Go Go.RowKit Go.Joins Kit F0

theorem trimLeft_any (s : ByteArray) (w : World) :
    Calls Tryz.prog 154 #[.string s, .string ⟨#[32, 9]⟩] w fun e w' => e = .returned (sV (ltrL s.data.toList)) ∧ Below w.heap.size w w' :=
  Any.strings_TrimLeft_laid Tryz.lays161 (by kernel_rfl) s ⟨#[32, 9]⟩ w (by decide) (ascii_of_all (by decide))
theorem trimRight_any (s : ByteArray) (w : World) (hs : s.size ≤ 2147483648) :
    Calls Tryz.prog 156 #[.string s, .string ⟨#[32, 9]⟩] w fun e w' => e = .returned (sV (rtrL s.data.toList)) ∧ Below w.heap.size w w' :=
  Any.strings_TrimRight_laid Tryz.lays162 (by kernel_rfl) s ⟨#[32, 9]⟩ w (by omega) (by decide) (ascii_of_all (by decide))
set_option maxHeartbeats 1000000 in
theorem small_any (s : ByteArray) (w : World) (hs : s.size ≤ 2147483648) :
    Calls Tryz.prog 91 #[.string s] w fun e w' => e = .returned (sV (smallL s.data.toList)) ∧ Below w.heap.size w w' := by
  have hl := trimL_le s.data.toList
  rw [← Lib.size_eq] at hl
  go_enter Tryz.func91, Tryz.ntmps91
  go_wp2_with fail
  refine (trim_any s w hs).mono ?_
  rintro e w1 ⟨rfl, hb1⟩
  unfold sV
  go_wp2_with fail
  refine (Tx.fold_any ⟨(trimL s.data.toList).toArray⟩ w1 (by rw [Lib.size_mk]; omega)).mono ?_
  rintro e w2 ⟨rfl, hb2⟩
  go_wp2_with fail
  go_ret
  exact ⟨rfl, hb1.trans (hb2.mono hb1.size)⟩

theorem drop_cons {s : ByteArray} {k : Nat} (h : k < s.size) : s.data.toList.drop k = s[k] :: s.data.toList.drop (k + 1) := by
  have hl : k < s.data.toList.length := by rw [← Lib.size_eq]; exact h
  rw [List.drop_eq_getElem_cons hl, byte_get s k h]
theorem drop_end {s : ByteArray} {k : Nat} (h : s.size ≤ k) : s.data.toList.drop k = [] := List.drop_of_length_le (by rw [← Lib.size_eq]; exact h)
theorem ext_end (s : ByteArray) (k : Nat) : (s.extract k s.size).data.toList = s.data.toList.drop k := by
  rw [← Lib.toList_data, Lib.extract_toList]
  exact List.take_of_length_le (by rw [List.length_drop, ← Lib.size_eq]; exact Nat.le_refl _)
theorem ext_head (s : ByteArray) (k : Nat) : (s.extract 0 k).data.toList = s.data.toList.take k := by
  rw [← Lib.toList_data, Lib.extract_toList]
  simp

set_option maxHeartbeats 2000000 in
set_option maxRecDepth 100000 in
theorem unquote_any (s : ByteArray) (w : World) (hs : s.size ≤ 1073741824) :
    Calls Tryz.prog 155 #[.string s] w fun e w' => e = .returned (.tuple #[sV (unqL s.data.toList).1, sV (unqL s.data.toList).2]) ∧ Below w.heap.size w w' := by
  obtain ⟨uv, huv⟩ : ∃ uv, unqL s.data.toList = uv := ⟨_, rfl⟩
  rw [huv]
  go_enter Tryz.func155, Tryz.ntmps155
  go_wp2_with fail
  have hB0 : Lib.IsBuilderF 87 5 w.heap.size w.heap.size (Lib.byteCells []) (w.alloc (.cells #[.pointer none, .slice none 0 0] 87)) :=
    .inl ⟨Nat.le_refl _, .slice none 0 0, Kit.fresh_block w _ _, World.ownsRowF_of (World.ownsRow_nil _ _ _ _), by simp [Value.ownBlock]⟩
  have hb0 : Below w.heap.size w (w.alloc (.cells #[.pointer none, .slice none 0 0] 87)) := (Below.refl _ w).alloc (Nat.le_refl _) _
  go_loopw [5] (fun i wr => ∃ (k : Nat) (out : List UInt8), i = .int .i64 (k : Int) ∧ k ≤ s.size ∧ out.length ≤ k ∧ Hid ((out ++ (unqL (s.data.toList.drop k)).1, (unqL (s.data.toList.drop k)).2) = uv) ∧ Lib.IsBuilderF 87 5 w.heap.size w.heap.size (Lib.byteCells out) wr ∧ Below w.heap.size w wr) (fun i _ => s.size - (intOf i).toNat)
  case atStart => exact ⟨0, [], rfl, Nat.zero_le _, Nat.le_refl _, Lib.hid (by rw [List.drop_zero, huv]; rfl), hB0, hb0⟩
  case round =>
    clear hB0 hb0
    obtain ⟨k, out, rfl, hk, hol, hq, hB, hb⟩ := hrel
    by_cases hlt : k < s.size
    · have g1 : (k : Int) < (s.size : Int) := by omega
      have HD := Lib.hid (drop_cons hlt)
      have hlen1 : (Lib.byteCells out).length + 1 ≤ 140737488355328 := by rw [Lib.byteCells_length]; omega
      obtain ⟨c, hc⟩ : ∃ c, s[k] = c := ⟨_, rfl⟩
      rw [hc] at HD
      by_cases h34 : c = 34
      · subst h34
        have hfin : Hid (uv = (out, s.data.toList.drop (k + 1))) := Lib.hid (by rw [← hq.out, HD.out, unq_quote]; simp)
        go_upto_region 6 with fail
        have HS := Lib.hid (Tryz.Builder_String_any_k w.heap.size w.heap.size _ wr.drew (Bld.drewF hB) (hb.drew).size)
        have g3 : (k : Int) + 1 ≤ (s.size : Int) := by omega
        have hwr : IntKind.i64.wrap ((k : Int) + 1) = (k : Int) + 1 := by rw [IntKind.wrap_i64]; omega
        have htn : ((k : Int) + 1).toNat = k + 1 := by omega
        have g4 : (0 : Int) ≤ (k : Int) + 1 := by omega
        refine wp_region_any (by kernel_rfl) ?_
        try (change wpAny _ _ _ _ _ _ _ (World.drew _))
        refine wpAny_take (i := 1) (v := ?_) rfl (by kernel_rfl) (by kernel_rfl) (by kernel_rfl) (fun _ _ _ h => h) (Or.inl ⟨by rfl, ?_⟩) ?_
        rotate_left 1
        · (intro w; go_simp) <;> with_reducible rfl
        refine wpAny_take (i := 2) (v := ?_) rfl (by kernel_rfl) (by kernel_rfl) (by kernel_rfl) (fun _ _ _ h => h) (Or.inl ⟨by rfl, ?_⟩) ?_
        rotate_left 1
        · (intro w; go_simp) <;> with_reducible rfl
        refine wpAny_take (i := 3) (v := ?_) rfl (by kernel_rfl) (by kernel_rfl) (by kernel_rfl) (fun _ _ _ h => h) (Or.inl ⟨by rfl, ?_⟩) ?_
        rotate_left 1
        · (intro w; go_simp) <;> with_reducible rfl
        refine wpAny_take (i := 4) (v := ?_) rfl (by kernel_rfl) (by kernel_rfl) (by kernel_rfl) (fun _ _ _ h => h) (Or.inl ⟨by rfl, ?_⟩) ?_
        rotate_left 1
        · (intro w; go_simp) <;> with_reducible rfl
        refine wpAny_ready (rs := [0]) (by kernel_rfl) (by simp) ?_
        refine AllReady.cons rfl (fun K hK => ?_) AllReady.nil
        go_simp
        go_wp2_with fail
        refine (HS.out).mono ?_
        rintro e w4 ⟨rfl, _, hb4, _⟩
        go_wp2_with fail
        refine wpAny_take (i := 5) (v := ?_) rfl (by kernel_rfl) (by kernel_rfl) (by kernel_rfl) (fun _ _ _ h => h) (Or.inl ⟨by rfl, ?_⟩) ?_
        rotate_left 1
        · (intro w; go_simp) <;> with_reducible rfl
        refine wpAny_take (i := 6) (v := ?_) rfl (by kernel_rfl) (by kernel_rfl) (by kernel_rfl) (fun _ _ _ h => h) (Or.inl ⟨by rfl, ?_⟩) ?_
        rotate_left 1
        · (intro w; go_simp) <;> with_reducible rfl
        refine wpAny_done (by kernel_rfl) ?_ _
        go_wp2_with fail
        go_ret2
        refine ⟨?_, (hb.drew).trans hb4⟩
        show _ = Ending.returned (Value.tuple #[sV uv.1, sV uv.2])
        rw [hfin.out, ← ext_end]
        rfl
      · by_cases h92 : c = 92 ∧ k + 1 < s.size
        · obtain ⟨rfl, hlt2⟩ := h92
          have g2 : (k : Int) + 1 < (s.size : Int) := by omega
          have HD2 := Lib.hid (drop_cons hlt2)
          obtain ⟨d, hd⟩ : ∃ d, s[k + 1] = d := ⟨_, rfl⟩
          rw [hd] at HD2
          have HN : Hid ((out ++ [d] ++ (unqL (s.data.toList.drop (k + 1 + 1))).1, (unqL (s.data.toList.drop (k + 1 + 1))).2) = uv) := Lib.hid (by rw [← hq.out, HD.out, HD2.out, unq_esc]; simp)
          clear h34
          go_wp2_with fail
          refine (Tryz.Builder_WriteByte_k w.heap.size w.heap.size _ _ _ hB hlen1 hb.size).mono ?_
          rintro e w2 ⟨rfl, hB2, hb2, _⟩
          rw [← Kit.cells_snoc] at hB2
          have hb3 := hb.trans hb2
          clear hB hb2 hb
          go_wp2_with fail
          go_roundw
          case rel => exact ⟨k + 1 + 1, out ++ [d], by go_num, by omega, by simp; omega, HN, .inr hB2, hb3⟩
          case measure => simp [intOf]; omega
        · have HN : Hid ((out ++ [c] ++ (unqL (s.data.toList.drop (k + 1))).1, (unqL (s.data.toList.drop (k + 1))).2) = uv) := Lib.hid (by
            rw [← hq.out, HD.out]
            by_cases hc92 : c = 92
            · have hl : s.size ≤ k + 1 := Nat.le_of_not_lt (fun hx => h92 ⟨hc92, hx⟩)
              rw [drop_end hl, unq_one h34, unqL]
              simp
            · rw [unq_byte h34 hc92]
              simp)
          have g34 : ((c.toNat : Int) == 34) = false := by
            rw [beq_eq_false_iff_ne]
            intro e
            exact h34 (UInt8.toNat_inj.1 (by show c.toNat = 34; omega))
          by_cases hc92 : c = 92
          · have hl2 : ¬ k + 1 < s.size := fun hx => h92 ⟨hc92, hx⟩
            subst hc92
            have g2 : ¬ (k : Int) + 1 < (s.size : Int) := by omega
            clear h34
            go_wp2_with fail
            refine (Tryz.Builder_WriteByte_k w.heap.size w.heap.size _ _ _ hB hlen1 hb.size).mono ?_
            rintro e w2 ⟨rfl, hB2, hb2, _⟩
            rw [show (Value.int IntKind.u8 92) = .int .u8 (((92 : UInt8).toNat : Nat) : Int) from rfl, ← Kit.cells_snoc] at hB2
            have hb3 := hb.trans hb2
            clear hB hb2 hb
            go_wp2_with fail
            go_roundw
            case rel => exact ⟨k + 1, out ++ [92], by go_num, by omega, by simp; omega, HN, .inr hB2, hb3⟩
            case measure => simp [intOf]; omega
          · have g92 : ((c.toNat : Int) == 92) = false := by
              rw [beq_eq_false_iff_ne]
              intro e
              exact hc92 (UInt8.toNat_inj.1 (by show c.toNat = 92; omega))
            clear h34
            go_wp2_with fail
            refine (Tryz.Builder_WriteByte_k w.heap.size w.heap.size _ _ _ hB hlen1 hb.size).mono ?_
            rintro e w2 ⟨rfl, hB2, hb2, _⟩
            rw [← Kit.cells_snoc] at hB2
            have hb3 := hb.trans hb2
            clear hB hb2 hb
            go_wp2_with fail
            go_roundw
            case rel => exact ⟨k + 1, out ++ [c], by go_num, by omega, by simp; omega, HN, .inr hB2, hb3⟩
            case measure => simp [intOf]; omega
    · have g1 : ¬ (k : Int) < (s.size : Int) := by omega
      have hfin : Hid (uv = (out, [])) := Lib.hid (by rw [← hq.out, drop_end (by omega), unqL]; simp)
      go_wp2_with fail
      refine (Tryz.Builder_String_any_k w.heap.size w.heap.size _ _ hB hb.size).mono ?_
      rintro e w4 ⟨rfl, _, hb4, _⟩
      go_wp2_with fail
      go_ret2
      refine ⟨?_, hb.trans hb4⟩
      show _ = Ending.returned (Value.tuple #[sV uv.1, sV uv.2])
      rw [hfin.out]
      rfl
end Go.Proofs.YtnnbbjdidbggmaaGreatDoor.Pt
