/-
  The document's Fields tells whether two lists of fields are one. Conditions: none but that both lie in memory.
-/
import Derived.Test.YtkmopneeafbeaaaDoorF0Mem
import Derived.Deep.RegionWith
import Derived.IntWalk
namespace Go.Proofs.YtkmopneeafbeaaaDoor.F0
open Go Go.RowKit Go.Joins Kit

/-- The k-th field's two cells. -/
theorem FAt.cell2 {w : World} {a : Option Addr} {n cap : Nat} {fs : List Fl} (h : FAt w (.slice a n cap) fs) {k : Nat} (hk : k < fs.length) : ∃ g o, a = some ⟨g, o, none⟩ ∧ g < w.heap.size ∧ w.cell? ⟨g, o + k * 2, none⟩ = some (.string ⟨fs[k].1.toArray⟩) ∧ w.cell? ⟨g, o + k * 2 + 1, none⟩ = some (.string ⟨fs[k].2.toArray⟩) := by
  obtain ⟨a2, cap2, he, hc⟩ := h.form
  injection he with e1 _ _
  subst e1
  obtain ⟨g, o, ha, c0, c1⟩ := hc k hk
  exact ⟨g, o, ha, cell_lt c0, c0, c1⟩
theorem FAt.len {w : World} {a : Option Addr} {n cap : Nat} {fs : List Fl} (h : FAt w (.slice a n cap) fs) : n = fs.length := by
  obtain ⟨a2, cap2, he, _⟩ := h.form
  injection he with _ e2 _

set_option maxHeartbeats 1000000 in
set_option maxRecDepth 100000 in
theorem fields_any (v u : Value) (fs gs : List Fl) (w : World) (hv : FAt w v fs) (hu : FAt w u gs) (hc : fs.length ≤ 140737488351232) :
    Calls Tryd.prog 12 #[v, u] w fun e w' => e = .returned (.bool (decide (fs = gs))) ∧ Below w.heap.size w w' := by
  have HV := Lib.hid hv
  have HU := Lib.hid hu
  obtain ⟨a, cap, rfl, _⟩ := hv.form
  obtain ⟨b, bcap, rfl, _⟩ := hu.form
  clear hv hu
  by_cases hl : fs.length = gs.length
  · go_enter Tryd.func12, Tryd.ntmps12
    obtain ⟨N, hN⟩ : ∃ N, gs.length = N := ⟨_, rfl⟩
    rw [hN] at HU
    rw [hl, hN] at HV hc
    rw [hl, hN]
    have HL := Lib.hid (And.intro (hl.trans hN) hN)
    clear hl hN
    go_wp2_with fail
    go_loopw [5] (fun i wr => ∃ k : Nat, k ≤ N ∧ i = .int .i64 (k : Int) ∧ Hid (fs.take k = gs.take k) ∧ Below w.heap.size w wr) (fun i _ => N - (intOf i).toNat)
    case atStart => exact ⟨0, Nat.zero_le _, rfl, Lib.hid rfl, Below.refl _ _⟩
    case round =>
      obtain ⟨k, hk, rfl, hfi, hb⟩ := hrel
      by_cases hlt : k < N
      · have g1 : (k : Int) < (N : Int) := by omega
        have hltf : k < fs.length := by rw [HL.out.1]; exact hlt
        have hlt2 : k < gs.length := by rw [HL.out.2]; exact hlt
        obtain ⟨g, o, rfl, _, c0, c1⟩ := HV.out.cell2 hltf
        obtain ⟨g', o', rfl, _, c0', c1'⟩ := HU.out.cell2 hlt2
        have d0 := (hb.cell (p := ⟨g, o + k * 2, none⟩) (cell_lt c0)).trans c0
        have d1 := (hb.cell (p := ⟨g, o + k * 2 + 1, none⟩) (cell_lt c1)).trans c1
        have d0' := (hb.cell (p := ⟨g', o' + k * 2, none⟩) (cell_lt c0')).trans c0'
        have d1' := (hb.cell (p := ⟨g', o' + k * 2 + 1, none⟩) (cell_lt c1')).trans c1'
        have HST : Hid (fs.take (k + 1) = gs.take (k + 1) ↔ fs[k] = gs[k]) := Lib.hid (by
          rw [List.take_succ_eq_append_getElem hltf, List.take_succ_eq_append_getElem hlt2, hfi.out]
          constructor
          · intro h; have h' := List.append_cancel_left h; simpa using h'
          · intro h; rw [h])
        have HNO : Hid (fs[k] ≠ gs[k] → decide (fs = gs) = false) := Lib.hid (fun h => decide_eq_false (fun e => h (by subst e; rfl)))
        obtain ⟨nm, hnm⟩ : ∃ nm, fs[k].1 = nm := ⟨_, rfl⟩
        obtain ⟨vl, hvl⟩ : ∃ vl, fs[k].2 = vl := ⟨_, rfl⟩
        obtain ⟨nn, hnn⟩ : ∃ nm, gs[k].1 = nm := ⟨_, rfl⟩
        obtain ⟨ww, hww⟩ : ∃ vl, gs[k].2 = vl := ⟨_, rfl⟩
        rw [hnm] at d0
        rw [hvl] at d1
        rw [hnn] at d0'
        rw [hww] at d1'
        have HQ : Hid (fs[k] = gs[k] ↔ nm = nn ∧ vl = ww) := Lib.hid (by rw [Prod.ext_iff, hnm, hvl, hnn, hww])
        clear c0 c1 c0' c1' hnm hvl hnn hww
        by_cases h1 : nm = nn
        · by_cases h2 : vl = ww
          · have q1 : (nm == nn) = true := by rw [h1]; simp
            have q2 : (vl == ww) = true := by rw [h2]; simp
            have HY : Hid (fs.take (k + 1) = gs.take (k + 1)) := Lib.hid (HST.out.2 (HQ.out.2 ⟨h1, h2⟩))
            clear h1 h2
            go_wp2_with fail
            go_region_with (fail)
            all_goals
              go_wp2_with fail
              go_roundw
              case rel => exact ⟨k + 1, by omega, by go_num, HY, hb.drew⟩
              case measure => simp [intOf]; omega
          · have q1 : (nm == nn) = true := by rw [h1]; simp
            have q2 : (vl == ww) = false := by simpa using h2
            have HN : Hid (decide (fs = gs) = false) := Lib.hid (HNO.out (fun e => h2 (HQ.out.1 e).2))
            clear h1 h2
            go_wp2_with fail
            go_region_with (fail)
            all_goals go_wp2_with fail
            all_goals go_ret
            all_goals rw [HN.out]
            all_goals exact ⟨rfl, hb.drew⟩
        · have q1 : (nm == nn) = false := by simpa using h1
          have HN : Hid (decide (fs = gs) = false) := Lib.hid (HNO.out (fun e => h1 (HQ.out.1 e).1))
          clear h1
          go_wp2_with fail
          go_region_with (fail)
          all_goals go_wp2_with fail
          all_goals go_ret
          all_goals rw [HN.out]
          all_goals exact ⟨rfl, hb.drew⟩
      · have g1 : ¬ (k : Int) < (N : Int) := by omega
        have hall : Hid (decide (fs = gs) = true) := Lib.hid (decide_eq_true (by
          have := hfi.out
          rwa [List.take_of_length_le (by rw [HL.out.1]; omega), List.take_of_length_le (by rw [HL.out.2]; omega)] at this))
        go_wp2_with fail
        go_ret
        rw [hall.out]
        exact ⟨rfl, hb⟩
  · have g0 : (fs.length : Int) ≠ (gs.length : Int) := by omega
    have hno : Hid (decide (fs = gs) = false) := Lib.hid (decide_eq_false (fun e => hl (by rw [e])))
    go_enter Tryd.func12, Tryd.ntmps12
    go_wp2_with fail
    go_ret
    rw [hno.out]
    exact ⟨rfl, Below.refl _ _⟩
end Go.Proofs.YtkmopneeafbeaaaDoor.F0
