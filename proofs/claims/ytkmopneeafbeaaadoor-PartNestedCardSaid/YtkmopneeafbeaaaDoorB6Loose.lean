/-
  base64.Loose returns what the letters of a text ahead of its first sign of equality tell. Conditions: the text has at most 2^30 bytes; the bound of the library's search is some number.
-/
import Derived.Test.YtkmopneeafbeaaaDoorB6Kit
import Derived.Test.YtkmopneeafbeaaaDoorShelf
import Derived.Lib.IndexBytes
import Derived.WalkSmall
import Derived.Shelf.Vars
namespace Go.Proofs.YtkmopneeafbeaaaDoor.B6
open Go Go.RowKit Go.Joins Kit

/-- The bound of the library's search is some number, in this world and in every one that keeps what was there. -/
structure Env (w : World) : Prop where
  max : ∀ w', Below w.heap.size w w' → ∃ m : Int, w'.cell? ⟨0, 0, none⟩ = some (.int .i64 m)
theorem Env.next {w w1 : World} (h : Env w) (hb : Below w.heap.size w w1) : Env w1 where
  max := fun w' hb' => h.max w' (hb.trans (hb'.mono hb.size))
theorem max_cell {W : World} (h : W.ShapedOpen Tryd.prog) : ∃ m : Int, W.cell? ⟨0, 0, none⟩ = some (.int .i64 m) :=
  Go.Proofs.cell_of_shapedOpen_int (zero := #[.int .i64 0]) (t := 3) h (of_decide_eq_true (by kernel_rfl)) (by kernel_rfl) rfl (by kernel_rfl) (by kernel_rfl) Tryd.underlying3
theorem env_of {W : World} (h : W.ShapedOpen Tryd.prog) : Env W := by
  obtain ⟨m, hm⟩ := max_cell h
  exact { max := fun w' hb => ⟨m, by rw [hb.cell (p := ⟨0, 0, none⟩) (cell_lt hm)]; exact hm⟩ }
/-! ### The library's calls -/
theorem ahead_index : ∀ (l : List UInt8), (if 0 ≤ Lib.indexByte l 61 then l.take (Lib.indexByte l 61).toNat else l) = ahead l
  | [] => by simp [ahead]
  | c :: r => by
    have ih := ahead_index r
    have hge := Lib.indexByte_ge r 61
    unfold ahead at ih ⊢
    by_cases h : c = 61
    · subst h
      have e : Lib.indexByte (61 :: r) 61 = 0 := by rw [Lib.indexByte]; simp
      rw [e]
      simp
    · rw [List.takeWhile_cons_of_pos (by simpa using h), ← ih]
      by_cases hr : Lib.indexByte r 61 = -1
      · have e : Lib.indexByte (c :: r) 61 = -1 := by rw [Lib.indexByte, hr]; simp [h]
        rw [e, hr]
        simp
      · have e : Lib.indexByte (c :: r) 61 = Lib.indexByte r 61 + 1 := by rw [Lib.indexByte]; simp [h, hr]
        rw [e, if_pos (by omega), if_pos (by omega), show (Lib.indexByte r 61 + 1).toNat = (Lib.indexByte r 61).toNat + 1 by omega]
        rfl
theorem cut_ahead (l : List UInt8) : (Lib.cut l [61]).1 = ahead l := by
  unfold Lib.cut
  rw [Lib.index_one, ← ahead_index]
  split <;> rfl
theorem cut_any (s : ByteArray) (w : World) (hs : s.size < 4294967281) (hE : Env w) :
    Calls Tryd.prog 19 #[.string s, .string ⟨#[61]⟩] w fun e w' => ∃ y b, e = .returned (.tuple #[.string (aheadB s), .string y, .bool b]) ∧ Below w.heap.size w w' := by
  obtain ⟨m, hm⟩ := hE.max w (Below.refl _ _)
  refine (Tryd.strings_Cut s ⟨#[61]⟩ m w hs hm).mono ?_
  rintro e w' ⟨rfl, n, rfl⟩
  rw [show (ByteArray.mk #[61]).data.toList = [61] from rfl, cut_ahead]
  exact ⟨_, _, rfl, below_drewN (Below.refl _ _) n⟩
theorem idx_byte (c : UInt8) (w : World) :
    Calls Tryd.prog 54 #[.string ⟨#[65, 66, 67, 68, 69, 70, 71, 72, 73, 74, 75, 76, 77, 78, 79, 80, 81, 82, 83, 84, 85, 86, 87, 88, 89, 90, 97, 98, 99, 100, 101, 102, 103, 104, 105, 106, 107, 108, 109, 110, 111, 112, 113, 114, 115, 116, 117, 118, 119, 120, 121, 122, 48, 49, 50, 51, 52, 53, 54, 55, 56, 57, 43, 47]⟩, .int .u8 (c.toNat : Int)] w fun e w' => e = .returned (.int .i64 (Lib.indexByte alphaL c)) ∧ w = w' := by
  refine (Tryd.strings_IndexByte _ _ w).mono ?_
  rintro e w' ⟨rfl, rfl⟩
  refine ⟨?_, rfl⟩
  rw [show ((c.toNat : Int).toNat.toUInt8) = c by simp]
  rfl
theorem idx_none {c : UInt8} (h : val c = none) (w : World) :
    Calls Tryd.prog 54 #[.string ⟨#[65, 66, 67, 68, 69, 70, 71, 72, 73, 74, 75, 76, 77, 78, 79, 80, 81, 82, 83, 84, 85, 86, 87, 88, 89, 90, 97, 98, 99, 100, 101, 102, 103, 104, 105, 106, 107, 108, 109, 110, 111, 112, 113, 114, 115, 116, 117, 118, 119, 120, 121, 122, 48, 49, 50, 51, 52, 53, 54, 55, 56, 57, 43, 47]⟩, .int .u8 (c.toNat : Int)] w fun e w' => e = .returned (.int .i64 (-1)) ∧ w = w' := by
  have := idx_byte c w
  rwa [val_none h] at this
theorem idx_some {c : UInt8} {v : Nat} (h : val c = some v) (w : World) :
    Calls Tryd.prog 54 #[.string ⟨#[65, 66, 67, 68, 69, 70, 71, 72, 73, 74, 75, 76, 77, 78, 79, 80, 81, 82, 83, 84, 85, 86, 87, 88, 89, 90, 97, 98, 99, 100, 101, 102, 103, 104, 105, 106, 107, 108, 109, 110, 111, 112, 113, 114, 115, 116, 117, 118, 119, 120, 121, 122, 48, 49, 50, 51, 52, 53, 54, 55, 56, 57, 43, 47]⟩, .int .u8 (c.toNat : Int)] w fun e w' => e = .returned (.int .i64 (v : Int)) ∧ w = w' := by
  have := idx_byte c w
  rwa [val_some h] at this
set_option maxHeartbeats 2000000 in
set_option maxRecDepth 100000 in
theorem loose_any (s : ByteArray) (w : World) (hs : s.size ≤ 1099511627) (hE : Env w) :
    Calls Tryd.prog 29 #[.string s] w fun e w' => e = .returned (.string ⟨(looseL s.data.toList).toArray⟩) ∧ Below w.heap.size w w' := by
  go_enter Tryd.func29, Tryd.ntmps29
  go_wp2_with fail
  refine (cut_any s w (by omega) hE).mono ?_
  rintro e w0 ⟨y, b, rfl, hb0⟩
  have hst : Hid (runH 0 0 (vals (aheadB s).data.toList) = looseL s.data.toList) := by
    show _ = _
    rw [aheadB_data, runH_unsix _ (vals_lt _)]
    rfl
  have hts := aheadB_size s
  generalize aheadB s = t at hst hts ⊢
  go_wp2_with fail
  refine (Tryd.Builder_Grow_fresh w0.heap.size w0.heap.size (t.size / 4 * 3 + 2) _ (Nat.le_refl _) (fresh_block w0 _ _) (by simp) (by omega)).mono ?_
  rintro e w1 ⟨rfl, hI, hb1⟩
  have hb1' : Below w.heap.size w w1 := hb0.trans ((((Below.refl _ w0).alloc (Nat.le_refl _) _).trans hb1).mono hb0.size)
  have hsz0 : w0.heap.size ≤ w1.heap.size := (((Below.refl _ w0).alloc (Nat.le_refl _) _).trans hb1).size
  have hI0 : Lib.IsBuilder 75 5 w0.heap.size w0.heap.size (Lib.byteCells []) w1 := Or.inr hI
  have hle : w.heap.size ≤ w0.heap.size := hb0.size
  clear hI hb0 hb1
  generalize w0.heap.size = b0 at hI0 hsz0 hle ⊢
  go_wp2_with fail
  go_loopw [4, 5, 22] (fun v h i wr => ∃ (k B hv : Nat) (out : List UInt8), k ≤ t.size ∧ out.length ≤ k ∧ i = .int .i64 k ∧ v = .int .i64 B ∧ h = .int .i64 hv ∧ (hv = 0 ∨ hv = 2 ∨ hv = 4 ∨ hv = 6) ∧ Hid (B < 2 ^ hv) ∧ Hid (out ++ runH B hv (vals (t.data.toList.drop k)) = looseL s.data.toList) ∧ Lib.IsBuilder 75 5 b0 b0 (Lib.byteCells out) wr ∧ b0 ≤ wr.heap.size ∧ Below w.heap.size w wr) (fun _ _ i _ => t.size - (intOf i).toNat)
  case atStart => exact ⟨0, 0, 0, [], Nat.zero_le _, Nat.le_refl _, rfl, rfl, rfl, Or.inl rfl, (by show _ < _; decide), hst, hI0, hsz0, hb1'⟩
  case round =>
    clear hI0 hsz0 hb1' hst
    obtain ⟨k, B, hv, out, hk, hlo, rfl, rfl, rfl, hh, hB, hr, hI, hsz, hb⟩ := hrel
    have hlo' : (Lib.byteCells out).length + 1 ≤ 140737488355328 := by rw [Lib.byteCells_length]; omega
    by_cases hlt : k < t.size
    · have hdr := vals_drop t k hlt
      cases hvv : val t[k] with
      | none =>
        have hnx : Hid (out ++ runH B hv (vals (t.data.toList.drop (k + 1))) = looseL s.data.toList) := by
          show _ = _
          rw [← hr.out, hdr, hvv]
        have HV := Lib.hid hvv
        clear hvv hdr
        go_wp2_with fail
        refine (idx_none HV.out wr).mono ?_
        rintro e w2 ⟨rfl, rfl⟩
        go_wp2
        go_roundw
        case rel => exact ⟨k + 1, B, hv, out, by omega, by omega, by go_num, rfl, rfl, hh, hB, hnx, hI, hsz, hb⟩
        case measure => simp [intOf]; omega
      | some v =>
        have hv64 := val_lt hvv
        have HV := Lib.hid hvv
        have HST : Hid (vals (t.data.toList.drop k) = v :: vals (t.data.toList.drop (k + 1))) := by show _ = _; rw [hdr, hvv]
        clear hvv hdr
        rcases hh with rfl | rfl | rfl | rfl
        · have gB : B ≤ 0 := by have := hB.out; simp at this; omega
          have e1 := or6 (B * 64 : Int) v (by omega) (by omega) (by omega) (by omega) (by omega)
          have hnx : Hid (out ++ runH (B * 64 + v) 6 (vals (t.data.toList.drop (k + 1))) = looseL s.data.toList) := by show _ = _; rw [← hr.out, HST.out, runH_first]
          go_wp2_with fail
          refine (idx_some HV.out wr).mono ?_
          rintro e w2 ⟨rfl, rfl⟩
          go_wp2
          go_roundw
          case rel => exact ⟨k + 1, B * 64 + v, 6, out, by omega, by omega, by go_num, by go_num, rfl, by omega, by show _ < _; simp; omega, hnx, hI, hsz, hb⟩
          case measure => simp [intOf]; omega
        · have gB : B ≤ 3 := by have := hB.out; simp at this; omega
          have e1 := or6 (B * 64 : Int) v (by omega) (by omega) (by omega) (by omega) (by omega)
          have e2 := and0 ((B : Int) * 64 + v) (by omega) (by omega)
          have g3 : 0 ≤ (B : Int) * 64 + v := by omega
          have g4 : (B : Int) * 64 + v ≤ 255 := by omega
          have hnx : Hid ((out ++ [UInt8.ofNat (B * 64 + v)]) ++ runH (0) 0 (vals (t.data.toList.drop (k + 1))) = looseL s.data.toList) := by show _ = _; rw [← hr.out, HST.out, runH_two, List.append_assoc]; rfl
          have hcs : Hid (Lib.byteCells (out ++ [UInt8.ofNat (B * 64 + v)]) = Lib.byteCells out ++ [.int .u8 ((B : Int) * 64 + v)]) := by
            show _ = _
            rw [cells_snoc, ofNat_nat (by omega)]
            congr 1
          go_wp2_with fail
          refine (idx_some HV.out wr).mono ?_
          rintro e w2 ⟨rfl, rfl⟩
          go_wp2_with fail
          refine (Tryd.Builder_WriteByte b0 b0 _ _ _ hI hlo' hsz).mono ?_
          rintro e w2 ⟨rfl, h2, hb2⟩
          rw [← hcs.out] at h2
          go_wp2
          go_roundw
          case rel => exact ⟨k + 1, 0, 0, out ++ [UInt8.ofNat (B * 64 + v)], by omega, by rw [List.length_append]; simp; omega, by go_num, by go_num, rfl, by omega, by show _ < _; decide, hnx, Or.inr h2, Nat.le_trans hsz hb2.size, hb.trans (hb2.mono hle)⟩
          case measure => simp [intOf]; omega
        · have gB : B ≤ 15 := by have := hB.out; simp at this; omega
          have e1 := or6 (B * 64 : Int) v (by omega) (by omega) (by omega) (by omega) (by omega)
          have e2 := and3 ((B : Int) * 64 + v) (by omega) (by omega)
          have g3 : 0 ≤ ((B : Int) * 64 + v) / 4 := by omega
          have g4 : ((B : Int) * 64 + v) / 4 ≤ 255 := by omega
          have hnx : Hid ((out ++ [UInt8.ofNat ((B * 64 + v) / 4)]) ++ runH ((B * 64 + v) % 4) 2 (vals (t.data.toList.drop (k + 1))) = looseL s.data.toList) := by show _ = _; rw [← hr.out, HST.out, runH_four, List.append_assoc]; rfl
          have hcs : Hid (Lib.byteCells (out ++ [UInt8.ofNat ((B * 64 + v) / 4)]) = Lib.byteCells out ++ [.int .u8 (((B : Int) * 64 + v) / 4)]) := by
            show _ = _
            rw [cells_snoc, ofNat_nat (by omega)]
            congr 1
          go_wp2_with fail
          refine (idx_some HV.out wr).mono ?_
          rintro e w2 ⟨rfl, rfl⟩
          go_wp2_with fail
          refine (Tryd.Builder_WriteByte b0 b0 _ _ _ hI hlo' hsz).mono ?_
          rintro e w2 ⟨rfl, h2, hb2⟩
          rw [← hcs.out] at h2
          go_wp2
          go_roundw
          case rel => exact ⟨k + 1, (B * 64 + v) % 4, 2, out ++ [UInt8.ofNat ((B * 64 + v) / 4)], by omega, by rw [List.length_append]; simp; omega, by go_num, by go_num, rfl, by omega, by show _ < _; simp; omega, hnx, Or.inr h2, Nat.le_trans hsz hb2.size, hb.trans (hb2.mono hle)⟩
          case measure => simp [intOf]; omega
        · have gB : B ≤ 63 := by have := hB.out; simp at this; omega
          have e1 := or6 (B * 64 : Int) v (by omega) (by omega) (by omega) (by omega) (by omega)
          have e2 := and15 ((B : Int) * 64 + v) (by omega) (by omega)
          have g3 : 0 ≤ ((B : Int) * 64 + v) / 16 := by omega
          have g4 : ((B : Int) * 64 + v) / 16 ≤ 255 := by omega
          have hnx : Hid ((out ++ [UInt8.ofNat ((B * 64 + v) / 16)]) ++ runH ((B * 64 + v) % 16) 4 (vals (t.data.toList.drop (k + 1))) = looseL s.data.toList) := by show _ = _; rw [← hr.out, HST.out, runH_six, List.append_assoc]; rfl
          have hcs : Hid (Lib.byteCells (out ++ [UInt8.ofNat ((B * 64 + v) / 16)]) = Lib.byteCells out ++ [.int .u8 (((B : Int) * 64 + v) / 16)]) := by
            show _ = _
            rw [cells_snoc, ofNat_nat (by omega)]
            congr 1
          go_wp2_with fail
          refine (idx_some HV.out wr).mono ?_
          rintro e w2 ⟨rfl, rfl⟩
          go_wp2_with fail
          refine (Tryd.Builder_WriteByte b0 b0 _ _ _ hI hlo' hsz).mono ?_
          rintro e w2 ⟨rfl, h2, hb2⟩
          rw [← hcs.out] at h2
          go_wp2
          go_roundw
          case rel => exact ⟨k + 1, (B * 64 + v) % 16, 4, out ++ [UInt8.ofNat ((B * 64 + v) / 16)], by omega, by rw [List.length_append]; simp; omega, by go_num, by go_num, rfl, by omega, by show _ < _; simp; omega, hnx, Or.inr h2, Nat.le_trans hsz hb2.size, hb.trans (hb2.mono hle)⟩
          case measure => simp [intOf]; omega
    · have he : k = t.size := by omega
      subst he
      have hend : Hid (out = looseL s.data.toList) := by
        show _ = _
        rw [← hr.out, List.drop_of_length_le (by rw [← Lib.size_eq]; exact Nat.le_refl _)]
        simp [vals, runH]
      go_wp2_with fail
      refine (Tryd.Builder_String_any b0 b0 _ _ hI hsz).mono ?_
      rintro e w2 ⟨rfl, hb2⟩
      go_wp2
      go_ret
      exact ⟨ret_str hend.out, hb.trans (hb2.mono hle)⟩
end Go.Proofs.YtkmopneeafbeaaaDoor.B6
