/-
  The document's answer Keys, as the statements have it (each text is put in at its place), returns what the program's does. Conditions: the list has at most 100 texts of at most 300 bytes.
-/
import Derived.Test.YtggnkpbadfabcaaFgRLists
import Derived.Test.YtggnkpbadfabcaaFgKeys
import Derived.Laws.OwnMore
namespace Go.Proofs.Ytggnkpbadfabcaa.Fg
open Go Go.RowKit Go.Joins Kit

theorem ins_same : ∀ (os : List Tl) (a : Nat) (z : Tl) (ha : a < os.length) (_ : ∀ j (h : j < os.length), j < a → os[j] < z) (_ : os[a] = z), insT z os = os
  | [], a, z, ha, _, _ => by simp at ha
  | y :: r, 0, z, _, _, he => by
    have he' : y = z := he
    subst he'
    rw [insT, if_neg (tlt_irr _), if_pos rfl]
  | y :: r, a + 1, z, ha, hb, he => by
    have h0 : y < z := hb 0 (by simp) (by omega)
    rw [insT, if_pos h0, ins_same r a z (by simpa using ha) (fun j h hj => hb (j + 1) (by simpa using h) (by omega)) he]
theorem ins_new : ∀ (os : List Tl) (a : Nat) (z : Tl) (_ : a ≤ os.length) (_ : ∀ j (h : j < os.length), j < a → os[j] < z) (_ : ∀ h : a < os.length, ¬ os[a] < z ∧ os[a] ≠ z), insT z os = os.take a ++ z :: os.drop a
  | [], a, z, _, _, _ => by simp [insT]
  | y :: r, 0, z, _, _, he => by
    have h1 : ¬ y < z ∧ y ≠ z := he (by simp)
    rw [insT, if_neg h1.1, if_neg h1.2]
    rfl
  | y :: r, a + 1, z, ha, hb, he => by
    have h0 : y < z := hb 0 (by simp) (by omega)
    rw [insT, if_pos h0, ins_new r a z (by simpa using ha) (fun j h hj => hb (j + 1) (by simpa using h) (by omega)) (fun h => he (by simpa using h))]
    rfl
/-- A row with a hole. -/
def holeL (os : List Tl) (q : Nat) (x : Tl) : List Tl := os.take q ++ x :: os.drop q
theorem hole_len (os : List Tl) (q : Nat) (x : Tl) (h : q ≤ os.length) : (holeL os q x).length = os.length + 1 := by
  simp only [holeL, List.length_append, List.length_take, List.length_cons, List.length_drop]
  omega
theorem hole_end (os : List Tl) (x : Tl) : holeL os os.length x = os ++ [x] := by simp [holeL]
theorem hole_at (os : List Tl) (q : Nat) (x : Tl) (h : q ≤ os.length) : (holeL os q x)[q]? = some x := by
  unfold holeL
  rw [List.getElem?_append_right (by rw [List.length_take]; omega), List.length_take, Nat.min_eq_left h, Nat.sub_self]
  rfl
theorem hole_before (os : List Tl) (q : Nat) (x : Tl) (h : q < os.length) : (holeL os (q + 1) x)[q]? = some os[q] := by
  unfold holeL
  rw [List.getElem?_append_left (by rw [List.length_take]; omega), List.getElem?_take, if_pos (by omega)]
  simp [h]
theorem hole_set (os : List Tl) (q : Nat) (x y : Tl) (h : q ≤ os.length) : (holeL os q x).set q y = holeL os q y := by
  unfold holeL
  rw [List.set_append_right _ _ (by rw [List.length_take]; omega), List.length_take, Nat.min_eq_left h, Nat.sub_self]
  rfl
theorem hole_down (os : List Tl) (q : Nat) (h : q < os.length) : holeL os (q + 1) os[q] = holeL os q os[q] := by
  unfold holeL
  rw [List.take_succ_eq_append_getElem h, List.append_assoc, List.singleton_append, List.drop_eq_getElem_cons h]
theorem RowT.put {B g n cap : Nat} {zs : List Tl} {w : World} (h : RowT B (.slice (some ⟨g, 0, none⟩) n cap) zs w) (hn : zs.length = n) (j : Nat) (z : Tl) :
    RowT B (.slice (some ⟨g, 0, none⟩) n cap) (zs.set j z) (w.setCell ⟨g, j, none⟩ (encT z)) := by
  subst hn
  have h' : w.ownsRow B 9 1 (.slice (some ⟨g, 0, none⟩) zs.length cap) zs.length (zs.map encT) := h
  have h2 := (h'.stored j (encT z)).1
  unfold RowT
  rw [List.length_set, List.map_set]
  exact h2
theorem RowT.cell {B g n cap : Nat} {zs : List Tl} {w : World} (h : RowT B (.slice (some ⟨g, 0, none⟩) n cap) zs w) {j : Nat} {z : Tl} (hz : zs[j]? = some z) : w.cell? ⟨g, j, none⟩ = some (encT z) := by
  obtain ⟨hj, rfl⟩ := List.getElem?_eq_some_iff.1 hz
  obtain ⟨g', e, _, hc⟩ := h.at j hj
  injection e with e
  injection e with e
  subst e
  exact hc
theorem RowT.free {B g n cap : Nat} {zs : List Tl} {w : World} (h : RowT B (.slice (some ⟨g, 0, none⟩) n cap) zs w) (hn : zs.length = n) (j : Nat) : w.frozen? ⟨g, j, none⟩ = false := by
  subst hn
  exact World.ownsRow.frozenAt (show w.ownsRow B 9 1 (.slice (some ⟨g, 0, none⟩) zs.length cap) zs.length (zs.map encT) from h) j

set_option maxHeartbeats 4000000 in
set_option maxRecDepth 100000 in
theorem rkeys_any (A : Option Addr) (c : Nat) (zs : List Tl) (w : World) (hA : TsAt w.heap.size w A zs) (hl : zs.length ≤ 100) (hz : ∀ z ∈ zs, z.length ≤ 300) :
    Calls Try.prog 13 #[.slice A zs.length c] w fun e w' => ∃ v, e = .returned (.tuple #[v, .int .i64 ((keysL zs).2 : Int)]) ∧ RowT w.heap.size v (keysL zs).1 w' ∧ Below w.heap.size w w' := by
  have HA := Lib.hid hA
  have HZ := Lib.hid hz
  have hl2 : (zs.length : Int) ≤ 100 := by omega
  have HKE : Hid (zs.all rightL = true → keysL zs = if 16 < (insAll zs).length then ([], 13) else (insAll zs, 0)) := Lib.hid (fun h => by
    unfold keysL
    rw [if_neg (by rw [h]; decide), ins_once])
  clear hA hz
  go_enter Try.func13, Try.ntmps13
  go_wp2_with fail
  go_loopw [4, 5] (fun kv i wr => ∃ (k m : Nat) (v : Value) (os : List Tl), k ≤ zs.length ∧ os.length = m ∧ m ≤ k ∧ kv = v ∧ i = .int .i64 (k : Int) ∧ Hid (os = insAll (zs.take k)) ∧ Hid ((zs.take k).all rightL = true) ∧ Hid (RowT w.heap.size v os wr) ∧ Hid (Below w.heap.size w wr)) (fun _ i _ => zs.length - (intOf i).toNat)
  case atStart => exact ⟨0, 0, _, [], Nat.zero_le _, rfl, Nat.le_refl _, rfl, rfl, Lib.hid rfl, Lib.hid rfl, Lib.hid (RowT.new _ _), Lib.hid (Below.refl _ _)⟩
  case round =>
    obtain ⟨k, m, v, os, hk, hm, hmk, rfl, rfl, hos, hall, hrow, hb⟩ := hrel
    have HM := Lib.hid hm
    obtain ⟨av, cv, hvf⟩ := RowT.form hrow.out
    rw [hm] at hvf
    subst hvf
    clear hm
    by_cases hlt : k < zs.length
    · have gk : (k : Int) < (zs.length : Int) := by omega
      have HCZ : Hid (∀ W, Below w.heap.size w W → ∃ g o, A = some ⟨g, o, none⟩ ∧ W.cell? ⟨g, o + k, none⟩ = some (.string ⟨zs[k].toArray⟩)) := Lib.hid (fun W hb => HA.out.cell hb k hlt)
      have hzk := HZ.out zs[k] (List.getElem_mem hlt)
      have HAT := Lib.hid (all_take (p := rightL) zs k hlt)
      have HME : Hid (rightL zs[k] = false → zs.all rightL = false) := Lib.hid (fun h => by rw [List.all_eq_false]; exact ⟨zs[k], List.getElem_mem hlt, by rw [h]; decide⟩)
      have HNX : Hid (insAll (zs.take (k + 1)) = insT zs[k] os) := Lib.hid (by rw [List.take_succ_eq_append_getElem hlt, insAll_snoc, hos.out])
      obtain ⟨z, hzz⟩ : ∃ z, zs[k] = z := ⟨_, rfl⟩
      rw [hzz] at HCZ hzk HAT HME HNX
      clear hzz hos
      have HR : Hid (∀ W, Calls Try.prog 15 #[.string ⟨z.toArray⟩] W fun e w' => e = .returned (.bool (rightL z)) ∧ Below W.heap.size W w') := Lib.hid (fun W => rright_any ⟨z.toArray⟩ W (by rw [Lib.size_mk]; omega))
      obtain ⟨g, o, rfl, hc0⟩ := HCZ.out wr hb.out
      have HC : Hid (∀ W, Below w.heap.size w W → W.cell? ⟨g, o + k, none⟩ = some (.string ⟨z.toArray⟩)) := Lib.hid (fun W hb => by
        obtain ⟨g', o', e, h⟩ := HCZ.out W hb
        injection e with e
        injection e with e1 e2
        rw [e1, e2]
        exact h)
      clear HCZ
      cases hr : rightL z
      · have HK : Hid (keysL zs = ([], 1)) := Lib.hid (by unfold keysL; rw [if_pos (HME.out hr)])
        rw [hr] at HR
        clear hr
        go_wp2_with fail
        refine (HR.out wr).mono ?_
        rintro e w1 ⟨rfl, hb1⟩
        go_wp2_with fail
        go_ret2
        rw [HK.out]
        exact ⟨_, rfl, RowT.new _ _, hb.out.trans (hb1.mono hb.out.size)⟩
      · rw [hr] at HR
        have HAL : Hid ((zs.take (k + 1)).all rightL = true) := Lib.hid (by rw [HAT.out, hall.out, hr]; rfl)
        clear hr HAT HME hall
        go_wp2_with fail
        refine (HR.out wr).mono ?_
        rintro e w1 ⟨rfl, hb1⟩
        have HB1 := Lib.hid (hb.out.trans (hb1.mono hb.out.size))
        have HR1 := Lib.hid (RowT.below hrow.out hb1)
        clear hb hrow hb1 HR hc0
        go_wp2_with fail
        go_loopw [6] (fun i wx => ∃ a : Nat, a ≤ m ∧ i = .int .i64 (a : Int) ∧ Hid (∀ j (h : j < os.length), j < a → os[j] < z) ∧ Hid (RowT w.heap.size (.slice av m cv) os wx) ∧ Hid (Below w.heap.size w wx)) (fun i _ => m - (intOf i).toNat)
        case atStart => exact ⟨0, Nat.zero_le _, rfl, Lib.hid (fun j h hj => by omega), HR1, HB1⟩
        case round =>
          clear HR1 HB1
          obtain ⟨a, ha, rfl, hlo, hrow, hb⟩ := hrel
          have hcz := HC.out wr hb.out
          by_cases ham : a < m
          · have ga : (a : Int) < (m : Int) := by omega
            have hal : a < os.length := by rw [HM.out]; exact ham
            obtain ⟨g2, rfl, _, hcy⟩ := hrow.out.at a hal
            have hz8 := HC.out
            obtain ⟨y, hyy⟩ : ∃ y, os[a] = y := ⟨_, rfl⟩
            have HY := Lib.hid hyy
            rw [hyy] at hcy
            unfold encT at hcy
            clear hyy hz8
            by_cases hys : y < z
            · have u1 : Op.bytesLess y z = true := by rw [bytesLess_eq]; exact decide_eq_true hys
              have HLO2 : Hid (∀ j (h : j < os.length), j < a + 1 → os[j] < z) := Lib.hid (fun j h hj => by
                rcases Nat.lt_or_ge j a with h' | h'
                · exact hlo.out j h h'
                · obtain rfl : j = a := by omega
                  rw [HY.out]
                  exact hys)
              clear hys
              go_wp2_with fail
              go_quiet (fail)
              go_wp2_with fail
              go_roundw
              case rel => exact ⟨a + 1, by omega, by go_num, HLO2, Lib.hid (RowT.below hrow.out (below_drewN (Below.refl _ _) _)), Lib.hid (below_drewN hb.out _)⟩
              case measure => simp [intOf]; omega
            · have u1 : Op.bytesLess y z = false := by rw [bytesLess_eq]; exact decide_eq_false hys
              by_cases hye : y = z
              · have u2 : (y == z) = true := by rw [beq_iff_eq]; exact hye
                have HIS : Hid (insAll (zs.take (k + 1)) = os) := Lib.hid (by rw [HNX.out]; exact ins_same os a z hal hlo.out (by rw [HY.out]; exact hye))
                clear hys hye
                go_wp2_with fail
                go_quiet (fail)
                go_wp2_with fail
                go_quiet (fail)
                go_wp2_with fail
                go_roundw
                case rel => exact ⟨k + 1, m, _, os, by omega, HM.out, by omega, rfl, by go_num, Lib.hid HIS.out.symm, HAL, Lib.hid (RowT.below hrow.out (below_drewN (Below.refl _ _) _)), Lib.hid (below_drewN hb.out _)⟩
                case measure => simp [intOf]; omega
              · have u2 : (y == z) = false := by rw [beq_eq_false_iff_ne]; exact hye
                have HIS : Hid (insAll (zs.take (k + 1)) = holeL os a z) := Lib.hid (by rw [HNX.out]; exact ins_new os a z (by omega) hlo.out (fun h => by rw [HY.out]; exact ⟨hys, hye⟩))
                clear hys hye
                go_wp2_with fail
                go_quiet (fail)
                go_wp2_with fail
                go_quiet (fail)
                have HRW : Hid (∀ (n : Nat) (o : Obj), RowT w.heap.size (.slice (some ⟨g2, 0, none⟩) m cv) os ((wr.drewN n).alloc o)) := Lib.hid (fun n o => RowT.below (RowT.below hrow.out (below_drewN (Below.refl _ _) n)) ((Below.refl _ _).alloc (Nat.le_refl _) o))
                have HBW : Hid (∀ (n : Nat) (o : Obj), Below w.heap.size w ((wr.drewN n).alloc o)) := Lib.hid (fun n o => (below_drewN hb.out n).alloc (below_drewN hb.out n).size o)
                have HBK : Hid (∀ n : Nat, ((wr.drewN n).alloc (.cells #[.string ⟨#[]⟩] 9)).heap[wr.heap.size]? = some (.cells #[.string ⟨#[]⟩] 9 (0, 0))) := Lib.hid (fun n => Kit.fresh_block (wr.drewN n) _ _)
                have HOL : Hid (os.length ≤ 1099511627776) := Lib.hid (by rw [HM.out]; omega)
                have HAO : Hid (a ≤ os.length) := Lib.hid (by rw [HM.out]; omega)
                clear hrow hb hcz hcy u1 u2
                go_wp2_with (at_builtin; refine RowT.app rfl _ _ rfl w.heap.size _ _ os (HRW.out _ _) [] wr.heap.size _ (HBK.out _) rfl rfl HOL.out (HBW.out _ _).size ?_)
                intro g3 c3 w6 hr6 hg6
                have HB6 : Hid (Below w.heap.size w w6) := Lib.hid ((HBW.out _ _).grown hg6 (HBW.out _ _).size (fun k e => RowT.own (HRW.out 0 (.cells #[] 9)) k e))
                rw [← hole_end, HM.out] at hr6
                rw [HM.out]
                have HR6 := Lib.hid hr6
                clear hr6 hg6
                go_wp2_with fail
                go_loopw [7] (fun i wy => ∃ (q : Nat) (x : Tl), a ≤ q ∧ q ≤ m ∧ i = .int .i64 (q : Int) ∧ Hid (RowT w.heap.size (.slice (some ⟨g3, 0, none⟩) (m + 1) c3) (holeL os q x) wy) ∧ Hid (Below w.heap.size w wy)) (fun i _ => (intOf i).toNat)
                case atStart => exact ⟨m, [], by omega, Nat.le_refl _, by go_num, HR6, HB6⟩
                case round =>
                  clear HR6 HB6
                  obtain ⟨q, x, hq1, hq2, rfl, hrow, hb⟩ := hrel
                  by_cases hq : a < q
                  · obtain ⟨p, rfl⟩ : ∃ p, q = p + 1 := ⟨q - 1, by omega⟩
                    have hpl : p < os.length := by rw [HM.out]; omega
                    have hhl := hole_len os (p + 1) x hpl
                    rw [HM.out] at hhl
                    have hcp := RowT.cell hrow.out (hole_before os p x hpl)
                    have hcq := RowT.cell hrow.out (hole_at os (p + 1) x hpl)
                    have hfq := RowT.free hrow.out hhl (p + 1)
                    have hpt := RowT.put hrow.out hhl (p + 1) os[p]
                    rw [hole_set os (p + 1) x _ hpl, hole_down os p hpl] at hpt
                    have HPT := Lib.hid hpt
                    have HBS := Lib.hid (hb.out.setCell (p := ⟨g3, p + 1, none⟩) (RowT.own hrow.out g3 rfl) (encT os[p]))
                    obtain ⟨y, hy⟩ : ∃ y, os[p] = y := ⟨_, rfl⟩
                    rw [hy] at hcp HPT HBS
                    unfold encT at hcp HPT HBS
                    clear hy hpt hhl
                    have gq : (a : Int) < ((p + 1 : Nat) : Int) := by omega
                    go_wp2_with fail
                    go_roundw
                    case rel => exact ⟨p, y, by omega, by omega, by go_num, HPT, HBS⟩
                    case measure => simp [intOf]
                  · obtain rfl : q = a := by omega
                    have gq : ¬ (q : Int) < (q : Int) := by omega
                    have hhl := hole_len os q x HAO.out
                    rw [HM.out] at hhl
                    have hca := RowT.cell hrow.out (hole_at os q x HAO.out)
                    have hfa := RowT.free hrow.out hhl q
                    have hpt := RowT.put hrow.out hhl q z
                    rw [hole_set os q x _ HAO.out] at hpt
                    have HPT := Lib.hid hpt
                    have HBS := Lib.hid (hb.out.setCell (p := ⟨g3, q, none⟩) (RowT.own hrow.out g3 rfl) (encT z))
                    have HLL : Hid ((holeL os q z).length = m + 1) := Lib.hid (by rw [hole_len os q z HAO.out, HM.out])
                    have hcz := HC.out _ hb.out
                    unfold encT at HPT HBS
                    clear hpt hhl
                    go_wp2_with fail
                    go_roundw
                    case rel => exact ⟨k + 1, m + 1, _, holeL os q z, by omega, HLL.out, by omega, rfl, by go_num, Lib.hid HIS.out.symm, HAL, HPT, HBS⟩
                    case measure => simp [intOf]; omega
          · obtain rfl : a = m := by omega
            have ga : ¬ (a : Int) < (a : Int) := by omega
            have gd : decide ((a : Int) < (a : Int)) = false := decide_eq_false ga
            have HIS : Hid (insAll (zs.take (k + 1)) = holeL os a z) := Lib.hid (by rw [HNX.out]; exact ins_new os a z (by rw [HM.out]; exact Nat.le_refl _) hlo.out (fun h => by rw [HM.out] at h; omega))
            go_wp2_with fail
            go_quiet (fail)
            go_wp2_with fail
            go_quiet (fail)
            have HRW : Hid (∀ (n : Nat) (o : Obj), RowT w.heap.size (.slice av a cv) os ((wr.drewN n).alloc o)) := Lib.hid (fun n o => RowT.below (RowT.below hrow.out (below_drewN (Below.refl _ _) n)) ((Below.refl _ _).alloc (Nat.le_refl _) o))
            have HBW : Hid (∀ (n : Nat) (o : Obj), Below w.heap.size w ((wr.drewN n).alloc o)) := Lib.hid (fun n o => (below_drewN hb.out n).alloc (below_drewN hb.out n).size o)
            have HBK : Hid (∀ n : Nat, ((wr.drewN n).alloc (.cells #[.string ⟨#[]⟩] 9)).heap[wr.heap.size]? = some (.cells #[.string ⟨#[]⟩] 9 (0, 0))) := Lib.hid (fun n => Kit.fresh_block (wr.drewN n) _ _)
            have HOL : Hid (os.length ≤ 1099511627776) := Lib.hid (by rw [HM.out]; omega)
            have HAO : Hid (a ≤ os.length) := Lib.hid (by rw [HM.out]; omega)
            clear hrow hb hcz gd
            go_wp2_with (at_builtin; refine RowT.app rfl _ _ rfl w.heap.size _ _ os (HRW.out _ _) [] wr.heap.size _ (HBK.out _) rfl rfl HOL.out (HBW.out _ _).size ?_)
            intro g3 c3 w6 hr6 hg6
            have HB6 : Hid (Below w.heap.size w w6) := Lib.hid ((HBW.out _ _).grown hg6 (HBW.out _ _).size (fun k e => RowT.own (HRW.out 0 (.cells #[] 9)) k e))
            rw [← hole_end, HM.out] at hr6
            rw [HM.out]
            have HR6 := Lib.hid hr6
            clear hr6 hg6
            go_wp2_with fail
            go_loopw [7] (fun i wy => ∃ (q : Nat) (x : Tl), a ≤ q ∧ q ≤ a ∧ i = .int .i64 (q : Int) ∧ Hid (RowT w.heap.size (.slice (some ⟨g3, 0, none⟩) (a + 1) c3) (holeL os q x) wy) ∧ Hid (Below w.heap.size w wy)) (fun i _ => (intOf i).toNat)
            case atStart => exact ⟨a, [], by omega, Nat.le_refl _, by go_num, HR6, HB6⟩
            case round =>
              clear HR6 HB6
              obtain ⟨q, x, hq1, hq2, rfl, hrow, hb⟩ := hrel
              by_cases hq : a < q
              · omega
              · obtain rfl : q = a := by omega
                have gq : ¬ (q : Int) < (q : Int) := by omega
                have hhl := hole_len os q x HAO.out
                rw [HM.out] at hhl
                have hca := RowT.cell hrow.out (hole_at os q x HAO.out)
                have hfa := RowT.free hrow.out hhl q
                have hpt := RowT.put hrow.out hhl q z
                rw [hole_set os q x _ HAO.out] at hpt
                have HPT := Lib.hid hpt
                have HBS := Lib.hid (hb.out.setCell (p := ⟨g3, q, none⟩) (RowT.own hrow.out g3 rfl) (encT z))
                have HLL : Hid ((holeL os q z).length = q + 1) := Lib.hid (by rw [hole_len os q z HAO.out, HM.out])
                have hcz := HC.out _ hb.out
                unfold encT at HPT HBS
                clear hpt hhl
                go_wp2_with fail
                go_roundw
                case rel => exact ⟨k + 1, q + 1, _, holeL os q z, by omega, HLL.out, by omega, rfl, by go_num, Lib.hid HIS.out.symm, HAL, HPT, HBS⟩
                case measure => simp [intOf]; omega
    · obtain rfl : k = zs.length := by omega
      have gk : ¬ (zs.length : Int) < (zs.length : Int) := by omega
      rw [List.take_of_length_le (Nat.le_refl _)] at hos hall
      have hke := HKE.out hall.out
      rw [← hos.out, HM.out] at hke
      by_cases h16 : 16 < m
      · have g16 : (16 : Int) < (m : Int) := by omega
        have HK : Hid (keysL zs = ([], 13)) := Lib.hid (by rw [hke, if_pos h16])
        clear hke h16
        go_wp2_with fail
        go_ret2
        rw [HK.out]
        exact ⟨_, rfl, RowT.new _ _, hb.out⟩
      · have g16 : ¬ (16 : Int) < (m : Int) := by omega
        have HK : Hid (keysL zs = (os, 0)) := Lib.hid (by rw [hke, if_neg h16])
        clear hke h16
        go_wp2_with fail
        go_ret2
        rw [HK.out]
        exact ⟨_, rfl, hrow.out, hb.out⟩
end Go.Proofs.Ytggnkpbadfabcaa.Fg
