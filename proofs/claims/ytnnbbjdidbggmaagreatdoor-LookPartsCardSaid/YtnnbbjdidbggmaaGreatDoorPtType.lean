/-
  The program's typeOf: the type that headers tell, and its parameters; Tree's closure counts a part. Conditions: there are at most 2^30 headers, their texts have at most 2^30 bytes; the bound of the library's search is some number.
-/
import Derived.Test.YtnnbbjdidbggmaaGreatDoorPtVals
import Derived.Test.YtnnbbjdidbggmaaGreatDoorPtStep
import Derived.Test.YtnnbbjdidbggmaaGreatDoorF0First
namespace Go.Proofs.YtnnbbjdidbggmaaGreatDoor.Pt
open Go Go.RowKit Go.Joins Kit F0

def cdV : Option Fl → Value
  | some f => .tuple #[sV f.2, .bool true]
  | none => .tuple #[.string ⟨#[]⟩, .bool false]
/-- The first field's value. -/
theorem first_call (v : Value) (fs : List Fl) (name : ByteArray) (w : World) (hv : FAt w v fs) (hsz : ∀ f ∈ fs, f.1.length ≤ 1073741824 ∧ f.2.length ≤ 1073741824) (hn : name.size ≤ 1073741824) (hc : fs.length ≤ 1073741824) :
    Calls Tryz.prog 38 #[v, .string name] w fun e w' => e = .returned (.tuple #[sV (fvL fs name.data.toList), .bool (fstL fs name.data.toList).isSome]) ∧ Below w.heap.size w w' := by
  refine (first_any v fs name w hv (fun f hf => ⟨Nat.le_trans (hsz f hf).1 (by omega), Nat.le_trans (hsz f hf).2 (by omega)⟩) (by omega) (by omega)).mono ?_
  rintro e w' ⟨rfl, hb⟩
  refine ⟨?_, hb⟩
  have h : firstL fs name.data.toList = fstL fs name.data.toList := rfl
  rw [h]
  unfold fvL
  cases fstL fs name.data.toList <;> rfl
theorem typed_none {w : List UInt8} (h : ∀ c ∈ w, c ≠ 47) : typedL w = false := by unfold typedL; rw [cutL_none h]
theorem typed_some {a r : List UInt8} (h : ∀ c ∈ a, c ≠ 47) : typedL (a ++ 47 :: r) = (!a.isEmpty && !r.isEmpty && (cutL 47 r).isNone) := by unfold typedL; rw [cutL_some r h]
theorem cutNone_index (l : List UInt8) : decide (0 ≤ Lib.indexByte l 47) = !(cutL 47 l).isNone := by
  rcases Srch.idx_cases 47 l with ⟨h1, h2⟩ | ⟨a, r, h1, h2, h3⟩
  · rw [h1, cutL_none h2]; rfl
  · rw [h3, h1, cutL_some r h2]; simp
theorem empty_iff (s : ByteArray) : (s.size = 0) ↔ s.data.toList.isEmpty = true := by
  rw [Lib.size_eq, List.isEmpty_iff, List.length_eq_zero_iff]

set_option maxHeartbeats 4000000 in
set_option maxRecDepth 100000 in
theorem typeOf_any (v : Value) (fs : List Fl) (w : World) (hv : FAt w v fs) (hsz : ∀ f ∈ fs, f.1.length ≤ 1073741824 ∧ f.2.length ≤ 1073741824) (hc : fs.length ≤ 1073741824) (hE : Srch.Env w) :
    Calls Tryz.prog 90 #[v] w fun e w' => ∃ pv, e = .returned (.tuple #[sV (typeL fs).1, pv]) ∧ CellsAt (fun g => w.heap.size ≤ g) w' (typeL fs).2.length pv (fC (typeL fs).2) ∧ Below w.heap.size w w' := by
  have HE := Lib.hid hE
  obtain ⟨va, vc, rfl, _⟩ := hv.form
  have HF : Hid (Calls Tryz.prog 38 #[.slice va fs.length vc, .string ⟨#[67, 111, 110, 116, 101, 110, 116, 45, 84, 121, 112, 101]⟩] w fun e w' => e = .returned (.tuple #[sV (fvL fs ctypeT), .bool (fstL fs ctypeT).isSome]) ∧ Below w.heap.size w w') :=
    Lib.hid (first_call _ fs ⟨#[67, 111, 110, 116, 101, 110, 116, 45, 84, 121, 112, 101]⟩ w hv hsz (by decide) hc)
  have hvl := fv_len hsz ctypeT
  have HTY : Hid (typeL fs = if typedL (valuesL (fvL fs ctypeT)).1 then valuesL (fvL fs ctypeT) else (plainT, [])) := Lib.hid rfl
  obtain ⟨X, hX⟩ : ∃ X, fvL fs ctypeT = X := ⟨_, rfl⟩
  rw [hX] at hvl HTY
  have HX := Lib.hid hX
  have HXL := Lib.hid (values_len X)
  obtain ⟨TT, hTT⟩ : ∃ TT, typeL fs = TT := ⟨_, rfl⟩
  rw [hTT] at HTY ⊢
  clear hE hv hsz hX hTT
  go_enter Tryz.func90, Tryz.ntmps90
  go_wp2_with fail
  refine (HF.out).mono ?_
  rintro e w1 ⟨rfl, hb1⟩
  rw [HX.out]
  obtain ⟨ok, hok⟩ : ∃ ok, (fstL fs ctypeT).isSome = ok := ⟨_, rfl⟩
  rw [hok]
  clear hok
  unfold sV
  go_wp2_with fail
  refine (values_any ⟨X.toArray⟩ w1 (by rw [Lib.size_mk]; exact hvl) (HE.out.next hb1)).mono ?_
  rintro e w2 ⟨pv, rfl, hrow, hb2⟩
  rw [show (ByteArray.mk X.toArray).data.toList = X from rfl] at hrow ⊢
  obtain ⟨VV, hVV⟩ : ∃ VV, valuesL X = VV := ⟨_, rfl⟩
  rw [hVV] at HTY HXL hrow ⊢
  obtain ⟨W, ps⟩ := VV
  obtain ⟨pa, pc, rfl⟩ := hrow.form
  have HB := Lib.hid (show Below w.heap.size w w2 from hb1.trans (hb2.mono hb1.size))
  have HCE := Lib.hid (show CellsAt (fun g => w.heap.size ≤ g) w2 ps.length (.slice pa ps.length pc) (fC ps) from cells_own hrow (fun g hg => Nat.le_trans hb1.size hg))
  have hWl : W.length ≤ 1073741824 := Nat.le_trans HXL.out.1 hvl
  clear hrow hb1 hb2 hVV
  unfold sV
  go_wp2_with fail
  refine (Srch.cut_any 47 ⟨W.toArray⟩ w2 (by rw [Lib.size_mk]; omega) (HE.out.next HB.out)).mono ?_
  rintro e w3 ⟨hcut, hb3, hh3⟩
  have HB3 := Lib.hid (HB.out.trans (hb3.mono HB.out.size))
  have HC3 := Lib.hid (HCE.out.keep (kept_below hb3))
  have HNIL : Hid (TT = (plainT, []) → ∀ w' : World, CellsAt (fun g => w.heap.size ≤ g) w' TT.2.length (.slice none 0 0) (fC TT.2)) := Lib.hid (fun h w' => by rw [h]; exact Or.inl ⟨⟨none, 0, rfl⟩, rfl, rfl⟩)
  clear hb3 hh3
  rcases hcut with ⟨rfl, hno⟩ | ⟨a, r, hl, ha, rfl⟩
  · have HT : Hid (TT = (plainT, [])) := Lib.hid (by
      rw [HTY.out]
      rw [if_neg]
      rw [typed_none hno]
      decide)
    clear hno
    cases W with
    | nil =>
      go_wp2_with fail
      go_ret2
      exact ⟨.slice none 0 0, by rw [HT.out]; rfl, HNIL.out HT.out _, HB3.out⟩
    | cons c W =>
      go_wp2_with fail
      go_ret2
      exact ⟨.slice none 0 0, by rw [HT.out]; rfl, HNIL.out HT.out _, HB3.out⟩
  · have HTD : Hid (typedL W = (!a.data.toList.isEmpty && !r.data.toList.isEmpty && (cutL 47 r.data.toList).isNone)) := Lib.hid (by
      have : W = a.data.toList ++ 47 :: r.data.toList := hl
      rw [this]
      exact typed_some ha)
    clear hl ha
    by_cases ha0 : a.size = 0
    · have HT : Hid (TT = (plainT, [])) := Lib.hid (by
        rw [HTY.out, if_neg]
        rw [HTD.out, (empty_iff a).1 ha0]
        simp)
      have hte := toList_nil ha0
      go_wp2_with fail
      go_ret2
      exact ⟨.slice none 0 0, by rw [HT.out]; rfl, HNIL.out HT.out _, HB3.out⟩
    · have hte := toList_isEmpty ha0
      have hae : a.data.toList.isEmpty = false := by
        cases h : a.data.toList.isEmpty
        · rfl
        · exact absurd ((empty_iff a).2 h) ha0
      by_cases hr0 : r.size = 0
      · have HT : Hid (TT = (plainT, [])) := Lib.hid (by
          rw [HTY.out, if_neg]
          rw [HTD.out, (empty_iff r).1 hr0]
          simp)
        have hte2 := toList_nil hr0
        clear ha0 hae
        go_wp2_with fail
        go_ret2
        exact ⟨.slice none 0 0, by rw [HT.out]; rfl, HNIL.out HT.out _, HB3.out⟩
      · have hte2 := toList_isEmpty hr0
        have hre : r.data.toList.isEmpty = false := by
          cases h : r.data.toList.isEmpty
          · rfl
          · exact absurd ((empty_iff r).2 h) hr0
        have HCI := Lib.hid (cutNone_index r.data.toList)
        clear ha0 hr0
        cases hn : (cutL 47 r.data.toList).isNone
        · have HT : Hid (TT = (plainT, [])) := Lib.hid (by
            rw [HTY.out, if_neg]
            rw [HTD.out, hn]
            simp)
          rw [hn] at HCI
          clear hae hre hn
          go_wp2_with fail
          refine (Tryz.strings_Contains_one r 47 w3).mono ?_
          rintro e w4 ⟨rfl, rfl⟩
          rw [HCI.out]
          go_wp2_with fail
          go_ret2
          exact ⟨.slice none 0 0, by rw [HT.out]; rfl, HNIL.out HT.out _, HB3.out⟩
        · have HT : Hid (TT = (W, ps)) := Lib.hid (by
            rw [HTY.out, if_pos]
            rw [HTD.out, hn, hae, hre]
            rfl)
          rw [hn] at HCI
          clear hae hre hn
          go_wp2_with fail
          refine (Tryz.strings_Contains_one r 47 w3).mono ?_
          rintro e w4 ⟨rfl, rfl⟩
          rw [HCI.out]
          go_wp2_with fail
          go_ret2
          refine ⟨.slice pa ps.length pc, by rw [HT.out]; rfl, ?_, HB3.out⟩
          rw [HT.out]
          exact HC3.out

/-- Tree's closure counts a part, and says whether it may be. -/
theorem another_any (C : Nat) (v : Nat) (w : World) (hb : Boxed w C 3 (.int .i64 (v : Int))) (hv : v ≤ 1000) :
    Calls Tryz.prog 51 #[.pointer (some ⟨C, 0, none⟩)] w fun e w' => e = .returned (.bool (decide (v + 1 ≤ 30))) ∧ Step C w w' ∧ Boxed w' C 3 (.int .i64 ((v + 1 : Nat) : Int)) := by
  have c0 := hb.cell
  have f0 := hb.frozen
  have HB := Lib.hid hb
  have hs0 : Step C w (w.setCell ⟨C, 0, none⟩ (.int .i64 ((v : Int) + 1))) := (Step.refl C w).set 0 _
  have hb1 : Boxed (w.setCell ⟨C, 0, none⟩ (.int .i64 ((v : Int) + 1))) C 3 (.int .i64 ((v : Int) + 1)) := hb.set _
  have c1 := hb1.cell
  clear hb
  go_enter Tryz.func51, Tryz.ntmps51
  go_wp2_with fail
  go_ret
  refine ⟨?_, hs0, hb1⟩
  exact ret_bool (by simp; omega)
end Go.Proofs.YtnnbbjdidbggmaaGreatDoor.Pt
