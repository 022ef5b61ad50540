/-
  field.First tells the value of the first field of a name, letters of either size being one. Condition: the texts have at most 2^47 - 4096 bytes, as all that an argument may hold.
-/
import Derived.Test.YtnnbbjdidbggmaaGreatDoorF0Mem
import Derived.Test.YtnnbbjdidbggmaaGreatDoorTxFold
import Derived.Test.YtnnbbjdidbggmaaGreatDoorU8Clone
namespace Go.Proofs.YtnnbbjdidbggmaaGreatDoor.F0
open Go Go.RowKit Go.Joins Kit

def firstL (fs : List Fl) (n : List UInt8) : Option Fl := fs.find? fun f => Tx.foldL f.1 == Tx.foldL n
theorem first_drop_hit {fs : List Fl} {n : List UInt8} {k : Nat} (h : k < fs.length) (he : Tx.foldL fs[k].1 = Tx.foldL n) : firstL (fs.drop k) n = some fs[k] := by
  unfold firstL
  rw [List.drop_eq_getElem_cons h, List.find?_cons_of_pos]
  simpa using he
theorem first_drop_miss {fs : List Fl} {n : List UInt8} {k : Nat} (h : k < fs.length) (he : Tx.foldL fs[k].1 ≠ Tx.foldL n) : firstL (fs.drop k) n = firstL (fs.drop (k + 1)) n := by
  unfold firstL
  rw [List.drop_eq_getElem_cons h, List.find?_cons_of_neg]
  simpa using he
def oV : Option Fl → Value
  | some f => .tuple #[sV f.2, .bool true]
  | none => .tuple #[.string ⟨#[]⟩, .bool false]

set_option maxHeartbeats 1000000 in
set_option maxRecDepth 100000 in
theorem first_any (v : Value) (fs : List Fl) (name : ByteArray) (w : World) (hv : FAt w v fs) (hsz : ∀ f ∈ fs, f.1.length ≤ 140737488351232 ∧ f.2.length ≤ 140737488351232) (hn : name.size ≤ 140737488351232) (hc : fs.length ≤ 140737488351232) :
    Calls Tryz.prog 38 #[v, .string name] w fun e w' => e = .returned (oV (firstL fs name.data.toList)) ∧ Below w.heap.size w w' := by
  have HV := Lib.hid hv
  have HSZ := Lib.hid hsz
  obtain ⟨a, cap, rfl, _⟩ := hv.form
  clear hv hsz
  go_enter Tryz.func38, Tryz.ntmps38
  go_wp2_with fail
  refine (Tx.fold_any name w hn).mono ?_
  rintro e w1 ⟨rfl, hb1⟩
  go_wp2_with fail
  go_loopw [13] (fun i wr => ∃ k : Nat, k ≤ fs.length ∧ i = .int .i64 (k : Int) ∧ Hid (firstL (fs.drop k) name.data.toList = firstL fs name.data.toList) ∧ Below w.heap.size w wr) (fun i _ => fs.length - (intOf i).toNat)
  case atStart => exact ⟨0, Nat.zero_le _, rfl, Lib.hid rfl, hb1⟩
  case round =>
    clear hb1
    obtain ⟨k, hk, rfl, hfi, hb⟩ := hrel
    by_cases hlt : k < fs.length
    · have g1 : (k : Int) < (fs.length : Int) := by omega
      obtain ⟨a2, cap2, he2, hcell⟩ := (HV.out).form
      injection he2 with e1 _ e3
      subst e1 e3
      obtain ⟨g, o, rfl, c0, c1⟩ := hcell k hlt
      have d0 := (hb.cell (p := ⟨g, o + k * 2, none⟩) (cell_lt c0)).trans c0
      have d1 := (hb.cell (p := ⟨g, o + k * 2 + 1, none⟩) (cell_lt c1)).trans c1
      have hfk := Lib.hid (HSZ.out fs[k] (List.getElem_mem hlt))
      obtain ⟨nm, hnm⟩ : ∃ nm, fs[k].1 = nm := ⟨_, rfl⟩
      obtain ⟨vl, hvl⟩ : ∃ vl, fs[k].2 = vl := ⟨_, rfl⟩
      rw [hnm] at d0
      rw [hvl] at d1
      unfold sV at d0 d1
      have HNM := Lib.hid (And.intro hnm hvl)
      clear c0 c1 hcell hnm hvl
      go_wp2_with fail
      refine (Tx.fold_any ⟨nm.toArray⟩ _ (by rw [Lib.size_mk]; rw [HNM.out.1] at hfk; exact hfk.out.1)).mono ?_
      rintro e w2 ⟨rfl, hb2⟩
      have hblk := (hb2.block wr.heap.size (by simp)).trans (Kit.fresh_block wr #[.string ⟨nm.toArray⟩, .string ⟨vl.toArray⟩] 74)
      have e1 : w2.cell? ⟨wr.heap.size, 1, none⟩ = some (.string ⟨vl.toArray⟩) := by rw [Lib.cell_of_heap hblk]; rfl
      have hb3 : Below w.heap.size w w2 := (hb.alloc hb.size _).trans (hb2.mono (Nat.le_trans hb.size (by simp)))
      rw [show (ByteArray.mk nm.toArray).data.toList = nm from rfl]
      clear hb2 hblk d0 d1
      by_cases he : Tx.foldL nm = Tx.foldL name.data.toList
      · have hq : (Tx.foldL nm == Tx.foldL name.data.toList) = true := by rw [he]; simp
        have hhit : Hid (firstL fs name.data.toList = some (nm, vl)) := Lib.hid (by
          rw [← hfi.out, first_drop_hit hlt (by rw [HNM.out.1]; exact he)]
          exact congrArg some (Prod.ext HNM.out.1 HNM.out.2))
        have hvs : vl.length ≤ 140737488351232 := by rw [← HNM.out.2]; exact hfk.out.2
        clear he
        go_wp2_with fail
        refine (U8.clone_any ⟨vl.toArray⟩ w2 (by rw [Lib.size_mk]; omega)).mono ?_
        rintro e w4 ⟨rfl, hb4⟩
        go_wp2_with fail
        go_ret2
        rw [hhit.out]
        exact ⟨rfl, hb3.trans (hb4.mono hb3.size)⟩
      · have hq : (Tx.foldL nm == Tx.foldL name.data.toList) = false := by simpa using he
        have hmiss : Hid (firstL (fs.drop (k + 1)) name.data.toList = firstL fs name.data.toList) := Lib.hid (by
          rw [← hfi.out, first_drop_miss hlt (by rw [HNM.out.1]; exact he)])
        clear he
        go_wp2_with fail
        go_roundw
        case rel => exact ⟨k + 1, by omega, by go_num, hmiss, hb3⟩
        case measure => simp [intOf]; omega
    · have g1 : ¬ (k : Int) < (fs.length : Int) := by omega
      have hno : Hid (firstL fs name.data.toList = none) := Lib.hid (by rw [← hfi.out, List.drop_of_length_le (by omega)]; rfl)
      go_wp2_with fail
      go_ret2
      rw [hno.out]
      exact ⟨rfl, hb⟩
end Go.Proofs.YtnnbbjdidbggmaaGreatDoor.F0
