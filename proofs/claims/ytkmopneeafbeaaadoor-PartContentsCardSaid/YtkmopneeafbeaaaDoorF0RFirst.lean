/-
  The document's First tells the value of the first field of a name, letters of either size being one. Condition: the texts have at most 2^47 - 4096 bytes.
-/
import Derived.Test.YtkmopneeafbeaaaDoorF0First
import Derived.Test.YtkmopneeafbeaaaDoorF0RFs
import Derived.Test.YtkmopneeafbeaaaDoorRfFold
namespace Go.Proofs.YtkmopneeafbeaaaDoor.F0
open Go Go.RowKit Go.Joins Kit

theorem rfold_call (l : List UInt8) (w : World) (hs : l.length ≤ 140737488351232) :
    Calls Tryd.prog 23 #[.string ⟨l.toArray⟩] w fun e w' => e = .returned (.string ⟨(Tx.foldL l).toArray⟩) ∧ Below w.heap.size w w' := Rf.fold_call ⟨l.toArray⟩ w (by rw [Lib.size_mk]; omega)

set_option maxHeartbeats 1000000 in
set_option maxRecDepth 100000 in
theorem rfirst_any (v : Value) (fs : List Fl) (name : ByteArray) (w : World) (hv : FAt w v fs) (hsz : ∀ f ∈ fs, f.1.length ≤ 140737488351232 ∧ f.2.length ≤ 140737488351232) (hn : name.size ≤ 140737488351232) (hc : fs.length ≤ 140737488351232) :
    Calls Tryd.prog 46 #[v, .string name] w fun e w' => e = .returned (oV (firstL fs name.data.toList)) ∧ Below w.heap.size w w' := by
  have HV := Lib.hid hv
  have HSZ := Lib.hid hsz
  obtain ⟨a, cap, rfl, _⟩ := hv.form
  clear hv hsz
  obtain ⟨nl, hnl⟩ : ∃ nl, name.data.toList = nl := ⟨_, rfl⟩
  obtain rfl : name = ⟨nl.toArray⟩ := Kit.bytes_ext hnl
  rw [show (ByteArray.mk nl.toArray).data.toList = nl from rfl]
  have hn2 : nl.length ≤ 140737488351232 := by rw [Lib.size_mk] at hn; exact hn
  clear hnl hn
  go_enter Tryd.func46, Tryd.ntmps46
  go_wp2_with fail
  go_loopw [6] (fun i wr => ∃ k : Nat, k ≤ fs.length ∧ i = .int .i64 (k : Int) ∧ Hid (firstL (fs.drop k) nl = firstL fs nl) ∧ Below w.heap.size w wr) (fun i _ => fs.length - (intOf i).toNat)
  case atStart => exact ⟨0, Nat.zero_le _, rfl, Lib.hid rfl, Below.refl _ _⟩
  case round =>
    obtain ⟨k, hk, rfl, hfi, hb⟩ := hrel
    by_cases hlt : k < fs.length
    · have g1 : (k : Int) < (fs.length : Int) := by omega
      obtain ⟨g, o, rfl, _, c0, c1⟩ := HV.out.cell2 hlt
      have d0 := (hb.cell (p := ⟨g, o + k * 2, none⟩) (cell_lt c0)).trans c0
      have HD1 := Lib.hid ((hb.cell (p := ⟨g, o + k * 2 + 1, none⟩) (cell_lt c1)).trans c1)
      have hfk := Lib.hid (HSZ.out fs[k] (List.getElem_mem hlt))
      obtain ⟨nm, hnm⟩ : ∃ nm, fs[k].1 = nm := ⟨_, rfl⟩
      obtain ⟨vl, hvl⟩ : ∃ vl, fs[k].2 = vl := ⟨_, rfl⟩
      rw [hnm] at d0
      rw [hvl] at HD1
      have HNM := Lib.hid (And.intro hnm hvl)
      have hnms : nm.length ≤ 140737488351232 := by rw [← hnm]; exact hfk.out.1
      clear c0 c1 hnm hvl
      go_wp2_with fail
      refine (rfold_call nm _ hnms).mono ?_
      rintro e w2 ⟨rfl, hb2⟩
      go_wp2_with fail
      refine (rfold_call nl _ hn2).mono ?_
      rintro e w3 ⟨rfl, hb3⟩
      have hb4 : Below wr.heap.size wr w3 := hb2.trans (hb3.mono hb2.size)
      have hb5 : Below w.heap.size w w3 := hb.trans (hb4.mono hb.size)
      have e1 := (hb4.cell (p := ⟨g, o + k * 2 + 1, none⟩) (cell_lt HD1.out)).trans HD1.out
      clear hb2 hb3 hb4 d0
      by_cases he : Tx.foldL nm = Tx.foldL nl
      · have hq : (Tx.foldL nm == Tx.foldL nl) = true := by rw [he]; simp
        have hhit : Hid (firstL fs nl = some (nm, vl)) := Lib.hid (by
          rw [← hfi.out, first_drop_hit hlt (by rw [HNM.out.1]; exact he)]
          exact congrArg some (Prod.ext HNM.out.1 HNM.out.2))
        clear he
        go_wp2_with fail
        go_ret2
        rw [hhit.out]
        exact ⟨rfl, hb5⟩
      · have hq : (Tx.foldL nm == Tx.foldL nl) = false := by simpa using he
        have hmiss : Hid (firstL (fs.drop (k + 1)) nl = firstL fs nl) := Lib.hid (by
          rw [← hfi.out, first_drop_miss hlt (by rw [HNM.out.1]; exact he)])
        clear he
        go_wp2_with fail
        go_roundw
        case rel => exact ⟨k + 1, by omega, by go_num, hmiss, hb5⟩
        case measure => simp [intOf]; omega
    · have g1 : ¬ (k : Int) < (fs.length : Int) := by omega
      have hno : Hid (firstL fs nl = none) := Lib.hid (by rw [← hfi.out, List.drop_of_length_le (by omega)]; rfl)
      go_wp2_with fail
      go_ret2
      rw [hno.out]
      exact ⟨rfl, hb⟩
end Go.Proofs.YtkmopneeafbeaaaDoor.F0
