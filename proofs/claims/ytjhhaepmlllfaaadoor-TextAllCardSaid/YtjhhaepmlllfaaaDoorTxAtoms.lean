/-
  The law TextAtoms returns true: a byte alone is an atom just where it is printable, no blank, and none of the signs; of more bytes each must be. Condition: the byte is a uint8; the library's table reads as the program's text lays it.
-/
import Derived.Test.YtjhhaepmlllfaaaDoorTxNumbers
import Derived.Test.YtjhhaepmlllfaaaDoorTxAtom
namespace Go.Proofs.YtjhhaepmlllfaaaDoor.Tx
open Go Go.RowKit Go.Joins

def signs : List UInt8 := [40, 41, 123, 125, 37, 42, 34, 92, 93]
def oneTo (c : UInt8) (k : Nat) : Bool := (decide (33 ≤ c.toNat) && decide (c.toNat ≤ 126)) && (signs.take k).all fun d => c.toNat != d.toNat
theorem oneTo_succ (c : UInt8) (k : Nat) (h : k < signs.length) : oneTo c (k + 1) = (oneTo c k && (c.toNat != signs[k].toNat)) := by
  unfold oneTo
  rw [all_take_succ _ _ _ h]
  simp only [Bool.and_assoc]
theorem oneTo_all (c : UInt8) : oneTo c 9 = atomB c := by
  rw [Bool.eq_iff_iff, atomB_iff]
  simp [oneTo, signs]
theorem atomL_one (c : UInt8) : atomL [c] = atomB c := by simp [atomL]
def allTo (s : ByteArray) (k : Nat) : Bool := !s.data.toList.isEmpty && (s.data.toList.take k).all atomB
theorem allTo_succ (s : ByteArray) (k : Nat) (h : k < s.size) : allTo s (k + 1) = (allTo s k && atomB s[k]) := by
  have hl : k < s.data.toList.length := by rw [← Lib.size_eq]; exact h
  unfold allTo
  rw [all_take_succ _ _ _ hl, byte_get s k h, Bool.and_assoc]
theorem allTo_all (s : ByteArray) : allTo s s.size = atomL s.data.toList := by
  unfold allTo atomL
  rw [List.take_of_length_le (by rw [← Lib.size_eq]; exact Nat.le_refl _), Bool.and_comm]
theorem piece_one (s : ByteArray) (k : Nat) (h : k < s.size) : atomL (s.extract k (k + 1)).data.toList = atomB s[k] := by
  have hl : k < s.data.toList.length := by rw [← Lib.size_eq]; exact h
  rw [Lib.extract_data, List.drop_eq_getElem_cons hl, show k + 1 - k = 1 by omega, List.take_succ_cons, List.take_zero, atomL_one, byte_get s k h]

theorem ne_cast (a b : Nat) : ((a : Int) != (b : Int)) = (a != b) := by
  rw [Bool.eq_iff_iff, bne_iff_ne, bne_iff_ne]
  omega
theorem oneB_toNat (c : UInt8) : (oneB (c.toNat : Int)).data.toList = [c] := by
  unfold oneB
  simp

set_option maxHeartbeats 1000000 in
set_option maxRecDepth 100000 in
theorem textAtoms_core (c : UInt8) (s : ByteArray) (w : World) (hE : Env w) :
    Calls Tryd.prog 8 #[.int .u8 c.toNat, .string s] w fun e w' => e = .returned (.bool true) ∧ Below w.heap.size w w' := by
  by_cases hs : 300 < s.size
  · have g : (300 : Int) < s.size := by omega
    go_enter Tryd.func8, Tryd.ntmps8
    go_wp2_with fail
    refine (awake_any w hE).mono ?_
    rintro e w1 ⟨rfl, hb1⟩
    go_wp2
    go_ret
    exact ⟨rfl, hb1⟩
  have g : (s.size : Int) ≤ 300 := by omega
  have hc : (c.toNat : Int) < 256 := by have := c.toNat_lt; omega
  have hsg : Hid (signs.length = 9) := rfl
  have hone0 : Hid (oneTo c 0 = (decide (33 ≤ c.toNat) && decide (c.toNat ≤ 126))) := by show _ = _; unfold oneTo; simp
  by_cases g1 : (33 : Int) ≤ c.toNat
  all_goals
    go_enter Tryd.func8, Tryd.ntmps8
    go_wp2_with fail
    generalize hsgs : (ByteArray.mk #[40, 41, 123, 125, 37, 42, 34, 92, 93]) = sg
    have hsize : sg.size = 9 := by rw [← hsgs]; rfl
    have hbyte : Hid (∀ k (h : k < sg.size) (h' : k < signs.length), sg[k] = signs[k]) := by
      subst hsgs
      intro k h h'
      rw [← byte_get _ k h]
      rfl
    have hs9 : (sg.size : Int) ≤ 9 := by omega
    have HS := Lib.hid hsize
    clear hsgs hsize
    go_loop [5, 7] (fun b i => ∃ (k : Nat) (o : Bool), k ≤ sg.size ∧ i = .int .i64 k ∧ b = .bool o ∧ Hid (o = oneTo c k)) (fun _ i => sg.size - (intOf i).toNat)
    case atStart => exact ⟨0, _, by omega, rfl, rfl, by show _ = _; rw [hone0.out, Bool.eq_iff_iff]; simp; omega⟩
    case round =>
      obtain ⟨k, o, hk, rfl, rfl, ho⟩ := hrel
      by_cases hlt : k < sg.size
      · have hst := oneTo_succ c k (by rw [hsg.out]; have := HS.out; omega)
        rw [← hbyte.out k hlt, ← ho.out] at hst
        have HST := Lib.hid hst
        clear hst
        cases o
        · go_wp2
          go_round
          case rel => exact ⟨k + 1, false, by omega, by go_num, rfl, by show _ = _; rw [HST.out]; rfl⟩
          case measure => simp [intOf]; omega
        · go_wp2
          go_round
          case rel => exact ⟨k + 1, _, by omega, by go_num, rfl, by show _ = _; rw [HST.out, Bool.true_and]; exact ne_cast _ _⟩
          case measure => simp [intOf]; omega
      · have he : k = 9 := by have := HS.out; omega
        obtain rfl : o = atomB c := by rw [ho.out, he, oneTo_all]
        have he' : (k : Int) = sg.size := by have := HS.out; omega
        clear ho he hs9
        have hone := run_oneB (c.toNat : Int) (by omega) (by omega) w
        have hb0 : Below w.heap.size w (w.alloc (Obj.cells #[Value.int IntKind.u8 (c.toNat : Int)] 5)) := (Below.refl _ w).alloc (Nat.le_refl _) _
        have hall0 : Hid ((!s.toList.isEmpty) = allTo s 0) := by show _ = _; rw [Lib.toList_data]; unfold allTo; simp
        go_wp2_with fail
        clear hone
        go_loop [9, 10] (fun b i => ∃ (k : Nat) (o : Bool), k ≤ s.size ∧ i = .int .i64 k ∧ b = .bool o ∧ Hid (o = allTo s k)) (fun _ i => s.size - (intOf i).toNat)
        case atStart => exact ⟨0, _, by omega, rfl, rfl, hall0⟩
        case round =>
          obtain ⟨k, o, hk, rfl, rfl, ho⟩ := hrel
          by_cases hlt : k < s.size
          · have hst := allTo_succ s k hlt
            rw [← ho.out] at hst
            have HST := Lib.hid hst
            clear hst
            have hpo := Lib.hid (piece_one s k hlt)
            cases o
            · go_wp2
              go_round
              case rel => exact ⟨k + 1, false, by omega, by go_num, rfl, by show _ = _; rw [HST.out]; rfl⟩
              case measure => simp [intOf]; omega
            · go_wp2_with fail
              refine (atom_any (s.extract k (k + 1)) _ (by rw [Lib.size_eq, Lib.extract_data, List.length_take]; omega)).mono ?_
              rintro e w' ⟨rfl, rfl⟩
              rw [hpo.out]
              go_wp2
              go_round
              case rel => exact ⟨k + 1, _, by omega, by go_num, rfl, by show _ = _; rw [HST.out, Bool.true_and]⟩
              case measure => simp [intOf]; omega
          · have he : k = s.size := by omega
            obtain rfl : o = atomL s.data.toList := by rw [ho.out, he, allTo_all]
            clear ho hall0
            go_wp2_with fail
            refine (atom_any (oneB (c.toNat : Int)) _ (by rw [oneB_size]; omega)).mono ?_
            rintro e w' ⟨rfl, rfl⟩
            rw [oneB_toNat, atomL_one]
            go_wp2_with fail
            refine (atom_any s _ (by omega)).mono ?_
            rintro e w' ⟨rfl, rfl⟩
            go_wp2_with fail
            refine (atom_any ⟨#[]⟩ _ (by decide)).mono ?_
            rintro e w' ⟨rfl, rfl⟩
            rw [show atomL (ByteArray.mk #[]).data.toList = false from rfl]
            go_wp2_with fail
            refine (awake_tail w _ hE hb0).mono ?_
            rintro e w1 ⟨rfl, hb1⟩
            go_wp2
            go_ret
            exact ⟨rfl, hb1⟩

theorem textAtoms_walk (c : Int) (s : ByteArray) (h0 : 0 ≤ c) (h1 : c ≤ 255) (w : World) (hE : Env w) :
    Calls Tryd.prog 8 #[.int .u8 c, .string s] w fun e w' => e = .returned (.bool true) ∧ Below w.heap.size w w' := by
  have e : ((UInt8.ofNat c.toNat).toNat : Int) = c := by simp; omega
  have h := textAtoms_core (UInt8.ofNat c.toNat) s w hE
  rwa [e] at h
end Go.Proofs.YtjhhaepmlllfaaaDoor.Tx
