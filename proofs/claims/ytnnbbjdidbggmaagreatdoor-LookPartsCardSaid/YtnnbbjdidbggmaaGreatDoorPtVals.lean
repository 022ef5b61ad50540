/-
  The program's Values: the word and the parameters of a header's value, the parameters in a slice of its own. Conditions: the text has at most 2^30 bytes; the bound of the library's search is some number.
-/
import Derived.Test.YtnnbbjdidbggmaaGreatDoorPtNext2
namespace Go.Proofs.YtnnbbjdidbggmaaGreatDoor.Pt
open Go Go.RowKit Go.Joins Kit F0

def lenOf (v : Value) : Nat := match v with
  | .string t => t.size
  | _ => 0
def boolOf (v : Value) : Nat := match v with
  | .bool true => 1
  | _ => 0
theorem mu_eq (o : Option (List UInt8)) : lenOf (.string ⟨(o.getD []).toArray⟩) + boolOf (.bool o.isSome) = (o.getD []).length + (if o.isSome then 1 else 0) := by
  cases o with
  | none => rfl
  | some q => show (ByteArray.mk q.toArray).size + 1 = q.length + 1; rw [Lib.size_mk]
def moreL (o : Option (List UInt8)) : List Fl := match o with
  | none => []
  | some r => paramsL r
theorem moreL_step (r : List UInt8) : moreL (some r) = keepL (nextL r).1 ++ moreL (nextL r).2 := by
  show paramsL r = _
  cases h : (nextL r).2 with
  | none => rw [params_last (Prod.ext rfl h)]; simp [moreL]
  | some q => rw [params_next (Prod.ext rfl h)]; rfl

set_option maxHeartbeats 4000000 in
set_option maxRecDepth 100000 in
theorem values_any (s : ByteArray) (w : World) (hs : s.size ≤ 1073741824) (hE : Srch.Env w) :
    Calls Tryz.prog 92 #[.string s] w fun e w' => ∃ v, e = .returned (.tuple #[sV (valuesL s.data.toList).1, v]) ∧ RowF w.heap.size v (valuesL s.data.toList).2 w' ∧ Below w.heap.size w w' := by
  have HE := Lib.hid hE
  clear hE
  obtain ⟨VL, hVL⟩ : ∃ VL, valuesL s.data.toList = VL := ⟨_, rfl⟩
  rw [hVL]
  have HVL := Lib.hid hVL
  clear hVL
  go_enter Tryz.func92, Tryz.ntmps92
  go_wp2_with fail
  refine (Srch.cut_any 59 s w (by omega) HE.out).mono ?_
  rintro e w1 ⟨hcut, hb1, hh1⟩
  have HST : ∃ (A : ByteArray) (o : Option (List UInt8)), e = .returned (.tuple #[.string A, sV (o.getD []), .bool o.isSome]) ∧ VL = (smallL A.data.toList, moreL o) ∧ A.size ≤ 1073741824 ∧ (o.getD []).length ≤ 1073741824 := by
    rcases hcut with ⟨rfl, hno⟩ | ⟨a, r, hl, ha, rfl⟩
    · exact ⟨s, none, rfl, by rw [← HVL.out, values_none hno]; rfl, hs, by simp⟩
    · have hz : s.size = a.size + 1 + r.size := by rw [Lib.size_eq, hl, List.length_append, List.length_cons, ← Lib.size_eq, ← Lib.size_eq]; omega
      exact ⟨a, some r.data.toList, rfl, by rw [← HVL.out, hl, values_some _ ha]; rfl, by omega, by show r.data.toList.length ≤ _; rw [← Lib.size_eq]; omega⟩
  clear hcut
  obtain ⟨A, o0, rfl, hst, hAz, hoz⟩ := HST
  have HS := Lib.hid hst
  have hb0 : Below w.heap.size w w1 := hb1
  clear hst hb1 hh1
  unfold sV
  go_wp2_with fail
  go_loopw [3, 5, 6] (fun v x m wr => ∃ (fs : List Fl) (o : Option (List UInt8)), x = .string ⟨(o.getD []).toArray⟩ ∧ m = .bool o.isSome ∧ (o.getD []).length + fs.length + (if o.isSome then 1 else 0) ≤ 1073741825 ∧ Hid (fs ++ moreL o = VL.2) ∧ RowF w.heap.size v fs wr ∧ Below w.heap.size w wr) (fun _ x m _ => lenOf x + boolOf m)
  case atStart => exact ⟨[], o0, rfl, rfl, by simp only [List.length_nil]; split <;> omega, Lib.hid (by rw [HS.out]; rfl), RowF.new _ _, hb0⟩
  case round =>
    clear hb0 hoz
    obtain ⟨fs, o, rfl, rfl, hlen, hq, hrow, hb⟩ := hrel
    obtain ⟨va, vc, rfl⟩ := hrow.form
    cases o with
    | none =>
      have HF : Hid (fs = VL.2) := Lib.hid (by rw [← hq.out]; simp [moreL])
      clear hq hlen
      have HR := Lib.hid (And.intro hrow hb)
      clear hrow hb
      go_wp2_with fail
      refine (small_any A wr (by omega)).mono ?_
      rintro e w3 ⟨rfl, hb3⟩
      unfold sV
      go_wp2_with fail
      go_ret2
      refine ⟨.slice va fs.length vc, ?_, ?_, HR.out.2.trans (hb3.mono HR.out.2.size)⟩
      · show _ = Ending.returned (Value.tuple #[sV VL.1, _])
        rw [HS.out]
        rfl
      · rw [← HF.out]
        exact HR.out.1.below hb3
    | some r =>
      have hr1 : r.length + fs.length + 1 ≤ 1073741825 := hlen
      have HM := Lib.hid (moreL_step r)
      have hnl := next_len r
      obtain ⟨N, hN⟩ : ∃ N, nextL r = N := ⟨_, rfl⟩
      rw [hN] at HM hnl
      obtain ⟨⟨nm, vl⟩, o2⟩ := N
      have HN := Lib.hid hN
      have HNL := Lib.hid hnl
      have HR := Lib.hid (And.intro hrow hb)
      clear hN hnl hrow hb hlen
      have hb2 : Below w.heap.size w (wr.alloc (.cells #[.string ⟨#[]⟩, .string ⟨#[]⟩] 74)) := HR.out.2.alloc HR.out.2.size _
      have hblk := Kit.fresh_block wr #[.string ⟨#[]⟩, .string ⟨#[]⟩] 74
      have HB2 := Lib.hid (And.intro hb2 hblk)
      clear hb2 hblk
      go_wp2_with fail
      refine (next_any ⟨r.toArray⟩ _ (by rw [Lib.size_mk]; omega) (HE.out.next HB2.out.1)).mono ?_
      rintro e w3 ⟨rfl, hb3⟩
      rw [show (ByteArray.mk r.toArray).data.toList = r from rfl, HN.out]
      unfold nextV sV
      have hblk3 := (hb3.block wr.heap.size (by simp)).trans HB2.out.2
      have hbb3 := HB2.out.1.trans (hb3.mono HB2.out.1.size)
      have hrow3 : RowF w.heap.size (.slice va fs.length vc) fs w3 := HR.out.1.below ((((Below.refl _ wr).alloc (Nat.le_refl _) _)).trans (hb3.mono (by simp)))
      have c0 : w3.cell? ⟨wr.heap.size, 0, none⟩ = some (.string ⟨#[]⟩) := by rw [Lib.cell_of_heap hblk3]; rfl
      have c1 : w3.cell? ⟨wr.heap.size, 1, none⟩ = some (.string ⟨#[]⟩) := by rw [Lib.cell_of_heap hblk3]; rfl
      have f0 := Lib.frozen_of_heap hblk3 0
      have f1 := Lib.frozen_of_heap hblk3 1
      have hGw : w.heap.size ≤ wr.heap.size := HR.out.2.size
      have hGl := (Array.getElem?_eq_some_iff.1 hblk3).1
      have hne : (Value.slice va fs.length vc).ownBlock ≠ some wr.heap.size := fun e => by
        have := HR.out.1.block e
        obtain ⟨_, cur, hh⟩ := this
        have := (Array.getElem?_eq_some_iff.1 hh).1
        omega
      have hblk4 := set1 (.string ⟨vl.toArray⟩) (set0 (.string ⟨nm.toArray⟩) hblk3)
      have hbb4 := (hbb3.setCell (p := ⟨wr.heap.size, 0, none⟩) hGw (.string ⟨nm.toArray⟩)).setCell (p := ⟨wr.heap.size, 1, none⟩) hGw (.string ⟨vl.toArray⟩)
      have hrow4 : RowF w.heap.size (.slice va fs.length vc) fs ((w3.setCell ⟨wr.heap.size, 0, none⟩ (.string ⟨nm.toArray⟩)).setCell ⟨wr.heap.size, 1, none⟩ (.string ⟨vl.toArray⟩)) := hrow3.keep (fun g hg _ => by
        have hgn : g ≠ wr.heap.size := fun e => hne (by rw [hg, e])
        rw [Below.heap_setCell _ _ _ _ hgn, Below.heap_setCell _ _ _ _ hgn])
      have H4 := Lib.hid (And.intro hblk4 (And.intro hbb4 hrow4))
      clear hblk3 hbb3 hrow3 hb3 hblk4 hbb4 hrow4
      have hz := HNL.out.1
      have HZ : Hid ((o2.getD []).length + (fs.length + 1) + (if o2.isSome then 1 else 0) ≤ 1073741825 ∧ (o2.getD []).length + (if o2.isSome then 1 else 0) < r.length + 1) := Lib.hid (by
        cases o2 with
        | none => simp; omega
        | some q => have := hz q rfl; simp; omega)
      clear hz
      cases nm with
      | nil =>
        have HQ : Hid (fs ++ moreL o2 = VL.2) := Lib.hid (by rw [← hq.out, HM.out]; rfl)
        clear hq
        go_wp2_with fail
        go_roundw
        case rel => exact ⟨fs, o2, rfl, rfl, by have := HZ.out.1; omega, HQ, H4.out.2.2, H4.out.2.1⟩
        case measure => exact Nat.lt_of_le_of_lt (Nat.le_of_eq (mu_eq o2)) (Nat.lt_of_lt_of_le HZ.out.2 (Nat.le_of_eq (mu_eq (some r)).symm))
      | cons c nr =>
        have HQ : Hid ((fs ++ [(c :: nr, vl)]) ++ moreL o2 = VL.2) := Lib.hid (by rw [← hq.out, HM.out]; simp [keepL])
        clear hq
        have hfl : fs.length ≤ 1099511627776 := by omega
        have hs4 : ((w3.setCell ⟨wr.heap.size, 0, none⟩ (.string ⟨(c :: nr).toArray⟩)).setCell ⟨wr.heap.size, 1, none⟩ (.string ⟨vl.toArray⟩)).heap.size = w3.heap.size := by simp [World.setCell]
        have hblk5 : (((w3.setCell ⟨wr.heap.size, 0, none⟩ (.string ⟨(c :: nr).toArray⟩)).setCell ⟨wr.heap.size, 1, none⟩ (.string ⟨vl.toArray⟩)).alloc (.cells #[.string ⟨(c :: nr).toArray⟩, .string ⟨vl.toArray⟩] 74)).heap[w3.heap.size]? = some (.cells #[sV ((c :: nr, vl) : Fl).1, sV ((c :: nr, vl) : Fl).2] 74 (0, 0)) := by
          rw [← hs4]
          exact Kit.fresh_block _ _ _
        have hrow5 : RowF w.heap.size (.slice va fs.length vc) fs (((w3.setCell ⟨wr.heap.size, 0, none⟩ (.string ⟨(c :: nr).toArray⟩)).setCell ⟨wr.heap.size, 1, none⟩ (.string ⟨vl.toArray⟩)).alloc (.cells #[.string ⟨(c :: nr).toArray⟩, .string ⟨vl.toArray⟩] 74)) := H4.out.2.2.below ((Below.refl _ _).alloc (Nat.le_refl _) _)
        have hB5 : w.heap.size ≤ (((w3.setCell ⟨wr.heap.size, 0, none⟩ (.string ⟨(c :: nr).toArray⟩)).setCell ⟨wr.heap.size, 1, none⟩ (.string ⟨vl.toArray⟩)).alloc (.cells #[.string ⟨(c :: nr).toArray⟩, .string ⟨vl.toArray⟩] 74)).heap.size := Nat.le_trans H4.out.2.1.size (by simp)
        go_wp2_with (at_builtin; refine RowF.app rfl _ _ rfl w.heap.size _ (.slice va fs.length vc) fs hrow5 ((c :: nr, vl) : Fl) w3.heap.size 1 hblk5 rfl rfl hfl hB5 ?_)
        intro g c5 w5 hrow6 hg5 hat5
        have hb5 : Below w.heap.size w w5 := (H4.out.2.1.alloc H4.out.2.1.size _).grown hg5 hB5 (fun j hj => (hrow5.block hj).1)
        have H6 := Lib.hid (And.intro hrow6 hb5)
        clear hrow5 hrow6 hg5 hat5 hb5 hblk5 hB5 hs4
        go_wp2_with fail
        go_roundw
        case rel => exact ⟨fs ++ [((c :: nr, vl) : Fl)], o2, rfl, rfl, by rw [List.length_append]; exact HZ.out.1, HQ, H6.out.1, H6.out.2⟩
        case measure => exact Nat.lt_of_le_of_lt (Nat.le_of_eq (mu_eq o2)) (Nat.lt_of_lt_of_le HZ.out.2 (Nat.le_of_eq (mu_eq (some r)).symm))
end Go.Proofs.YtnnbbjdidbggmaaGreatDoor.Pt
