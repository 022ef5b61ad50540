/-
  flag.Keys returns the keywords of a list, rising, each once, or why not. Conditions: they are at most 2^36, of at most 2^30 bytes each.
-/
import Derived.Test.YtggnkpbadfabcaaFgOnce
import Derived.Test.YtggnkpbadfabcaaFgCode
namespace Go.Proofs.Ytggnkpbadfabcaa.Fg
open Go Go.RowKit Go.Joins Go.Shelf Go.Sort Kit

/-- The texts of an argument, as lists. -/
def textsL (ss : List ByteArray) : List Tl := ss.map (fun s => s.data.toList)
theorem texts_len (ss : List ByteArray) : (textsL ss).length = ss.length := List.length_map _
theorem texts_at (ss : List ByteArray) (j : Nat) (h : j < ss.length) : (textsL ss)[j]?.getD [] = ss[j].data.toList := by simp [textsL, h]
theorem texts_TsAt {n0 : Nat} {W : World} {A : Option Addr} {ss : List ByteArray} (h : F0.ListAt W A (ss.map .string)) (hn : W.heap.size ≤ n0) : TsAt n0 W A (textsL ss) := fun j hj => by
  rw [texts_len] at hj
  obtain ⟨g, o, h1, h2, h3⟩ := h j (by rw [List.length_map]; exact hj)
  refine ⟨g, o, h1, by omega, ?_⟩
  rw [h3, texts_at ss j hj, List.getElem_map]
theorem all_take {p : Tl → Bool} (l : List Tl) (k : Nat) (h : k < l.length) : (l.take (k + 1)).all p = ((l.take k).all p && p l[k]) := by
  rw [List.take_succ_eq_append_getElem h, List.all_append]
  simp

set_option maxHeartbeats 4000000 in
set_option maxRecDepth 100000 in
theorem keys_any (A : Option Addr) (c : Nat) (zs : List Tl) (w : World) (hA : TsAt w.heap.size w A zs) (hl : zs.length ≤ 68719476736) (hz : ∀ z ∈ zs, z.length ≤ 1073741824) :
    Calls Try.prog 12 #[.slice A zs.length c] w fun e w' => ∃ v, e = .returned (.tuple #[v, .int .i64 ((keysL zs).2 : Int)]) ∧ RowT w.heap.size v (keysL zs).1 w' ∧ Below w.heap.size w w' := by
  have HA := Lib.hid hA
  have HZ := Lib.hid hz
  have hl2 : (zs.length : Int) ≤ 68719476736 := by omega
  clear hA hz
  go_enter Try.func12, Try.ntmps12
  go_wp2_with fail
  go_loopw [12] (fun i wr => ∃ k : Nat, k ≤ zs.length ∧ i = .int .i64 (k : Int) ∧ Hid ((zs.take k).all rightL = true) ∧ Hid (Below w.heap.size w wr)) (fun i _ => zs.length - (intOf i).toNat)
  case atStart => exact ⟨0, Nat.zero_le _, rfl, Lib.hid rfl, Lib.hid (Below.refl _ _)⟩
  case round =>
    obtain ⟨k, hk, rfl, hall, hb⟩ := hrel
    by_cases hlt : k < zs.length
    · have gk : (k : Int) < (zs.length : Int) := by omega
      obtain ⟨g, o, rfl, hg, hcell⟩ := HA.out k hlt
      rw [show zs[k]?.getD [] = zs[k] by simp [hlt]] at hcell
      have hc := (hb.out.cell (p := ⟨g, o + k, none⟩) hg).trans hcell
      have hzk := HZ.out zs[k] (List.getElem_mem hlt)
      have HAT := Lib.hid (all_take (p := rightL) zs k hlt)
      have HME : Hid (rightL zs[k] = false → zs.all rightL = false) := Lib.hid (fun h => by rw [List.all_eq_false]; exact ⟨zs[k], List.getElem_mem hlt, by rw [h]; decide⟩)
      obtain ⟨z, hzz⟩ : ∃ z, zs[k] = z := ⟨_, rfl⟩
      rw [hzz] at hc hzk HAT HME
      have HR : Hid (∀ W, Calls Try.prog 14 #[.string ⟨z.toArray⟩] W fun e w' => e = .returned (.bool (rightL z)) ∧ Below W.heap.size W w') := Lib.hid (fun W => right_any ⟨z.toArray⟩ W (by rw [Lib.size_mk]; omega))
      unfold encT at hc
      clear hcell hzz
      cases hr : rightL z
      · have HK : Hid (keysL zs = ([], 1)) := Lib.hid (by unfold keysL; rw [if_pos (HME.out hr)])
        rw [hr] at HR
        clear hr
        go_wp2_with fail
        refine (HR.out wr).mono ?_
        rintro e w1 ⟨rfl, hb1⟩
        go_wp2_with fail
        go_ret2
        rw [HK.out]
        exact ⟨_, rfl, RowT.new _ _, hb.out.trans (hb1.mono hb.out.size)⟩
      · rw [hr] at HR
        have HNX : Hid ((zs.take (k + 1)).all rightL = true) := Lib.hid (by rw [HAT.out, hall.out, hr]; rfl)
        clear hr
        go_wp2_with fail
        refine (HR.out wr).mono ?_
        rintro e w1 ⟨rfl, hb1⟩
        go_wp2_with fail
        go_roundw
        case rel => exact ⟨k + 1, by omega, by go_num, HNX, Lib.hid (hb.out.trans (hb1.mono hb.out.size))⟩
        case measure => simp [intOf]; omega
    · obtain rfl : k = zs.length := by omega
      have HALL : Hid (zs.all rightL = true) := Lib.hid (by have := hall.out; rw [List.take_of_length_le (Nat.le_refl _)] at this; exact this)
      have HW := Lib.hid hb.out
      have gk : ¬ (zs.length : Int) < (zs.length : Int) := by omega
      clear hall hb
      go_wp2_with fail
      refine (values_any A zs.length c wr).mono ?_
      rintro e w1 ⟨rfl, hw1⟩
      have hb1 : Below wr.heap.size wr w1 := by rw [hw1]; exact (Below.refl _ wr).alloc (Nat.le_refl _) _
      have HB1 := Lib.hid (HW.out.trans (hb1.mono HW.out.size))
      have hlt1 : wr.heap.size < w1.heap.size := by rw [hw1]; simp
      have hbx : w1.cell? ⟨wr.heap.size, 0, none⟩ = some (.slice A zs.length c) := by rw [hw1]; exact Lib.cell_of_heap (Kit.fresh_block wr _ _) 0
      have HT1 : Hid (TsAt w1.heap.size w1 A zs) := Lib.hid (fun j hj => by
        obtain ⟨g, o, h1, h2, h3⟩ := HA.out j hj
        exact ⟨g, o, h1, by have := HB1.out.size; omega, (HB1.out.cell (p := ⟨g, o + j, none⟩) h2).trans h3⟩)
      have HSO := Lib.hid (sorted_any wr.heap.size c A zs hl w1 hlt1 hbx HT1.out)
      clear hw1 hb1 hbx hlt1
      go_wp2_with fail
      refine HSO.out.mono ?_
      rintro e w2 ⟨v2, rfl, hr2, hb2⟩
      have HB2 := Lib.hid (HB1.out.trans (hb2.mono HB1.out.size))
      obtain ⟨a2, c2, hv2⟩ := RowT.form hr2
      rw [List.length_mergeSort] at hv2
      subst hv2
      have HCO := Lib.hid (compact_any w1.heap.size _ _ w2 (by rw [List.length_mergeSort]; exact hl) hr2)
      clear hr2 hb2
      go_wp2_with fail
      refine HCO.out.mono ?_
      rintro e w3 ⟨u, rfl, hr3, hb3⟩
      have HB3 := Lib.hid (HB2.out.trans (hb3.mono HB1.out.size))
      rw [show Lib.compact (zs.mergeSort (fun x y => decide (x ≤ y))) = onceL zs from rfl] at hr3
      obtain ⟨a3, c3, rfl⟩ := RowT.form hr3
      have HR3 := Lib.hid hr3
      have hol := once_len zs
      have HOM : Hid (∀ z ∈ onceL zs, z.length ≤ 1073741824) := Lib.hid (fun z hz => HZ.out z ((once_mem zs z).1 hz))
      have HKE : Hid (keysL zs = if 16 < (onceL zs).length then ([], 13) else (onceL zs, 0)) := Lib.hid (by unfold keysL; rw [if_neg (by rw [HALL.out]; decide)])
      obtain ⟨os, hos⟩ : ∃ os, onceL zs = os := ⟨_, rfl⟩
      rw [hos] at HR3 hol HOM HKE
      rw [hos]
      clear hos hr3 hb3
      by_cases h16 : 16 < os.length
      · have g16 : (16 : Int) < (os.length : Int) := by omega
        go_wp2_with fail
        go_ret2
        rw [HKE.out, if_pos h16]
        exact ⟨_, rfl, RowT.new _ _, HB3.out⟩
      · have g16 : (os.length : Int) ≤ 16 := by omega
        have HK : Hid (keysL zs = (os, 0)) := Lib.hid (by rw [HKE.out, if_neg h16])
        clear h16
        go_wp2_with fail
        go_loopw [7, 29] (fun kv i wx => ∃ (k : Nat) (v : Value), k ≤ os.length ∧ kv = v ∧ i = .int .i64 (k : Int) ∧ Hid (RowT w3.heap.size v (os.take k) wx) ∧ Hid (Below w3.heap.size w3 wx)) (fun _ i _ => os.length - (intOf i).toNat)
        case atStart => exact ⟨0, _, Nat.zero_le _, rfl, rfl, Lib.hid (by rw [List.take_zero]; exact RowT.new _ _), Lib.hid (Below.refl _ _)⟩
        case round =>
          obtain ⟨k, v, hk, rfl, rfl, hrow, hb⟩ := hrel
          by_cases hlt : k < os.length
          · have gk : (k : Int) < (os.length : Int) := by omega
            obtain ⟨g, rfl, hg, hcell⟩ := HR3.out.at k hlt
            have hc := (hb.out.cell (p := ⟨g, k, none⟩) hg).trans hcell
            have hzk := HOM.out os[k] (List.getElem_mem hlt)
            have HTK : Hid (os.take (k + 1) = os.take k ++ [os[k]]) := Lib.hid (List.take_succ_eq_append_getElem hlt)
            obtain ⟨z, hzz⟩ : ∃ z, os[k] = z := ⟨_, rfl⟩
            rw [hzz] at hc hzk HTK
            obtain ⟨av, cv, hvf⟩ := RowT.form hrow.out
            rw [List.length_take, Nat.min_eq_left (by omega)] at hvf
            subst hvf
            unfold encT at hc
            clear hcell hzz
            go_wp2_with fail
            refine (U8.clone_any ⟨z.toArray⟩ wr (by rw [Lib.size_mk]; omega)).mono ?_
            rintro e w5 ⟨rfl, hb5⟩
            have HB5 := Lib.hid (hb.out.trans (hb5.mono hb.out.size))
            have HRW := Lib.hid (RowT.below (RowT.below hrow.out hb5) (((Below.refl _ w5).alloc (Nat.le_refl _) (.cells #[encT z] 9))))
            have htl : (os.take k).length ≤ 16 := by rw [List.length_take]; omega
            have HSZ : Hid (w3.heap.size ≤ (w5.alloc (.cells #[encT z] 9)).heap.size) := Lib.hid (by rw [World.size_alloc]; have := HB5.out.size; omega)
            have HTL : Hid ((os.take k).length ≤ 1099511627776) := Lib.hid (by omega)
            have HBK : Hid ((w5.alloc (.cells #[encT z] 9)).heap[w5.heap.size]? = some (.cells #[encT z] 9 (0, 0))) := Lib.hid (Kit.fresh_block w5 _ _)
            clear hb5
            go_wp2_with (at_builtin; refine RowT.app rfl _ _ rfl w3.heap.size _ _ (os.take k) HRW.out z w5.heap.size _ HBK.out rfl rfl HTL.out HSZ.out ?_)
            intro g2 c2' w6 hr6 hg6
            have HB6 : Hid (Below w3.heap.size w3 w6) := Lib.hid ((HB5.out.alloc HB5.out.size _).grown hg6 (by have := HB5.out.size; simp; omega) (fun k e => RowT.own HRW.out k e))
            rw [← HTK.out] at hr6
            have HR6 := Lib.hid hr6
            clear hr6 hg6
            go_wp2_with fail
            go_roundw
            case rel => exact ⟨k + 1, _, by omega, rfl, by go_num, HR6, HB6⟩
            case measure => simp [intOf]; omega
          · obtain rfl : k = os.length := by omega
            have gk : ¬ (os.length : Int) < (os.length : Int) := by omega
            rw [List.take_of_length_le (Nat.le_refl _)] at hrow
            obtain ⟨av, cv, rfl⟩ := RowT.form hrow.out
            go_wp2_with fail
            go_ret2
            rw [HK.out]
            exact ⟨_, rfl, RowT.base hrow.out HB3.out.size, HB3.out.trans (hb.out.mono HB3.out.size)⟩
end Go.Proofs.Ytggnkpbadfabcaa.Fg
