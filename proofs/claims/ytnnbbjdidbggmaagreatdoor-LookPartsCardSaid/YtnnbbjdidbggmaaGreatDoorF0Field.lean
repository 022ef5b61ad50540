/-
  field.goesOn tells whether a line belongs to the one ahead of it; field.asField tells what joined lines tell as a field; (*strings.Builder).Reset empties a Builder of the call's own. Conditions: the texts have at most 2^31 bytes; the bound of the library's search is some number.
-/
import Derived.Test.YtnnbbjdidbggmaaGreatDoorF0Name
import Derived.Test.YtnnbbjdidbggmaaGreatDoorF0Mem
import Derived.Test.YtnnbbjdidbggmaaGreatDoorEnv
import Derived.Shelf.Strings.SlTrimAscii
namespace Go.Proofs.YtnnbbjdidbggmaaGreatDoor.F0
open Go Go.RowKit Go.Joins Kit

/-! ### Small facts -/
theorem idx_blank (c : UInt8) : decide (0 ≤ Lib.indexByte [32, 9] c) = (c == 32 || c == 9) := by
  unfold Lib.indexByte Lib.indexByte Lib.indexByte
  by_cases h1 : c = 32
  · subst h1; decide
  · by_cases h2 : c = 9
    · subst h2; decide
    · have e1 : ((32 : UInt8) == c) = false := by simpa [beq_eq_false_iff_ne] using fun e => h1 e.symm
      have e2 : ((9 : UInt8) == c) = false := by simpa [beq_eq_false_iff_ne] using fun e => h2 e.symm
      have e3 : (c == 32) = false := by simpa using h1
      have e4 : (c == 9) = false := by simpa using h2
      simp [e1, e2, e3, e4]
theorem goes_head (s : ByteArray) (h : 0 < s.size) : goesL s.data.toList = (s[0] == 32 || s[0] == 9) := by
  have hl : 0 < s.data.toList.length := by rw [← Lib.size_eq]; exact h
  cases e : s.data.toList with
  | nil => rw [e] at hl; simp at hl
  | cons c r =>
    have := byte_get s 0 h
    simp only [e, List.getElem_cons_zero] at this
    rw [goes_cons, this]

set_option maxHeartbeats 400000 in
theorem goesOn_any (s : ByteArray) (w : World) (h : 0 < s.size) :
    Calls Tryz.prog 68 #[.string s] w fun e w' => e = .returned (.bool (goesL s.data.toList)) ∧ Below w.heap.size w w' := by
  have hg := Lib.hid (goes_head s h)
  have hi := Lib.hid (idx_blank s[0])
  go_enter Tryz.func68, Tryz.ntmps68
  go_wp2_with fail
  refine (Tryz.strings_IndexByte ⟨#[32, 9]⟩ (s[0].toNat : Int) _).mono ?_
  rintro e w1 ⟨rfl, rfl⟩
  rw [show (ByteArray.mk #[32, 9]).data.toList = [32, 9] from rfl, show ((s[0].toNat : Int)).toNat.toUInt8 = s[0] by simp]
  obtain ⟨x, hx⟩ : ∃ x, Lib.indexByte [32, 9] s[0] = x := ⟨_, rfl⟩
  have HX := Lib.hid hx
  rw [hx]
  clear hx
  go_wp2
  go_ret
  refine ⟨ret_bool ?_, Below.refl _ _⟩
  rw [hg.out, ← hi.out, HX.out]

/-! ### A field -/
def fV : Option Fl → Value
  | some f => .agg #[sV f.1, sV f.2]
  | none => .agg #[.string ⟨#[]⟩, .string ⟨#[]⟩]
theorem field_result {fn : Func} {p u : Tmp} (h : fn.results = #[.cell p 74, .tmp u]) (tmps : Array Value) {w : World} {G : Nat} {c0 c1 : Value}
    (hp : tmps.getD p undef = .pointer (some ⟨G, 0, none⟩)) (hb : w.heap[G]? = some (.cells #[c0, c1] 74 (0, 0))) : (results fn tmps).run Tryz.prog w = .ok (.tuple #[.agg #[c0, c1], tmps.getD u undef]) w := by
  rw [results_cell_tmp h, hp]
  simp only [asAddr, Sem.run_pure, Result.andThen_ok]
  rw [run_loadVar_row w G 74 _ _ _ _ hb Tryz.underlying74 rfl (by kernel_rfl)]
  rfl
theorem set_two {w : World} {G : Nat} {a b : Value} (c d : Value) (h : w.heap[G]? = some (.cells #[a, b] 74 (0, 0))) : ((w.setCell ⟨G, 0, none⟩ c).setCell ⟨G, 1, none⟩ d).heap[G]? = some (.cells #[c, d] 74 (0, 0)) := by
  simp [World.setCell, Array.getElem?_modify, h]
theorem trim_any (s : ByteArray) (w : World) (hs : s.size ≤ 2147483648) :
    Calls Tryz.prog 73 #[.string s, .string ⟨#[32, 9]⟩] w fun e w' => e = .returned (sV (trimL s.data.toList)) ∧ Below w.heap.size w w' :=
  Any.strings_Trim_laid Tryz.lays160 (by kernel_rfl) s ⟨#[32, 9]⟩ w (by omega) (by decide) (ascii_of_all (by decide))

set_option maxHeartbeats 1000000 in
set_option maxRecDepth 100000 in
theorem asField_any (s : ByteArray) (w : World) (hs : s.size ≤ 2147483648) (hE : Srch.Env w) :
    Calls Tryz.prog 64 #[.string s] w fun e w' => e = .returned (.tuple #[fV (fieldL s.data.toList), .bool (fieldL s.data.toList).isSome]) ∧ Below w.heap.size w w' := by
  have HE := Lib.hid hE
  clear hE
  go_enter Tryz.func64, Tryz.ntmps64
  go_wp2_with fail
  have hb0 : Below w.heap.size w (w.alloc (.cells #[.string ⟨#[]⟩, .string ⟨#[]⟩] 74)) := (Below.refl _ w).alloc (Nat.le_refl _) _
  have hblk := Kit.fresh_block w #[.string ⟨#[]⟩, .string ⟨#[]⟩] 74
  refine (Srch.cut_any 58 s _ (by omega) (HE.out.next hb0)).mono ?_
  rintro e w1 ⟨hcut, hb1, hh1⟩
  rw [hh1] at hblk
  have hb : Below w.heap.size w w1 := hb0.trans (hb1.mono (by simp))
  clear hh1 hb0 hb1
  have hsz : w.heap.size < w1.heap.size := (Array.getElem?_eq_some_iff.1 hblk).1
  rcases hcut with ⟨rfl, hno⟩ | ⟨a, r, hl, ha, rfl⟩
  · have hf := Lib.hid (fieldL_none hno)
    clear hno
    have c0 : w1.cell? ⟨w.heap.size, 0, none⟩ = some (.string ⟨#[]⟩) := by rw [Lib.cell_of_heap hblk]; rfl
    have c1 : w1.cell? ⟨w.heap.size, 1, none⟩ = some (.string ⟨#[]⟩) := by rw [Lib.cell_of_heap hblk]; rfl
    have f0 := Lib.frozen_of_heap hblk 0
    have f1 := Lib.frozen_of_heap hblk 1
    go_wp2_with fail
    refine bodyPost_ret (field_result rfl _ rfl (set_two _ _ hblk)) rfl ?_
    rw [hf.out]
    exact ⟨rfl, (hb.setCell (p := ⟨w.heap.size, 0, none⟩) (Nat.le_refl _) _).setCell (p := ⟨w.heap.size, 1, none⟩) (Nat.le_refl _) _⟩
  · have hf0 := Lib.hid hl
    have HA := Lib.hid ha
    have hsz2 : a.size + r.size + 1 = s.size := by
      rw [Lib.size_eq, Lib.size_eq, Lib.size_eq s, hl, List.length_append, List.length_cons]; omega
    clear ha hl
    go_wp2_with fail
    refine (isName_any a _ (by omega)).mono ?_
    rintro e w2 ⟨rfl, rfl⟩
    cases hn : nameL a.data.toList
    · have hf := Lib.hid (fieldL_no r.data.toList HA.out hn)
      rw [← hf0.out] at hf
      have c0 : w1.cell? ⟨w.heap.size, 0, none⟩ = some (.string ⟨#[]⟩) := by rw [Lib.cell_of_heap hblk]; rfl
      have c1 : w1.cell? ⟨w.heap.size, 1, none⟩ = some (.string ⟨#[]⟩) := by rw [Lib.cell_of_heap hblk]; rfl
      have f0 := Lib.frozen_of_heap hblk 0
      have f1 := Lib.frozen_of_heap hblk 1
      go_wp2_with fail
      refine bodyPost_ret (field_result rfl _ rfl (set_two _ _ hblk)) rfl ?_
      rw [hf.out]
      exact ⟨rfl, (hb.setCell (p := ⟨w.heap.size, 0, none⟩) (Nat.le_refl _) _).setCell (p := ⟨w.heap.size, 1, none⟩) (Nat.le_refl _) _⟩
    · have hf := Lib.hid (fieldL_yes r.data.toList HA.out hn)
      rw [← hf0.out] at hf
      go_wp2_with fail
      refine (trim_any r _ (by omega)).mono ?_
      rintro e w2 ⟨rfl, hb2⟩
      have hblk2 := (hb2.block _ hsz).trans hblk
      have c0 : w2.cell? ⟨w.heap.size, 0, none⟩ = some (.string ⟨#[]⟩) := by rw [Lib.cell_of_heap hblk2]; rfl
      have c1 : w2.cell? ⟨w.heap.size, 1, none⟩ = some (.string ⟨#[]⟩) := by rw [Lib.cell_of_heap hblk2]; rfl
      have f0 := Lib.frozen_of_heap hblk2 0
      have f1 := Lib.frozen_of_heap hblk2 1
      unfold sV
      go_wp2_with fail
      refine bodyPost_ret (field_result rfl _ rfl (set_two _ _ hblk2)) rfl ?_
      rw [hf.out]
      exact ⟨rfl, ((hb.trans (hb2.mono hb.size)).setCell (p := ⟨w.heap.size, 0, none⟩) (Nat.le_refl _) _).setCell (p := ⟨w.heap.size, 1, none⟩) (Nat.le_refl _) _⟩
end Go.Proofs.YtnnbbjdidbggmaaGreatDoor.F0
