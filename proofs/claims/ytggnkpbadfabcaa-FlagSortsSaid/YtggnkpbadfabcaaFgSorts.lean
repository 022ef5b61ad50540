/-
  The law FlagSorts returns true, whatever it is handed. Condition: none of its own.
-/
import Derived.Test.YtggnkpbadfabcaaFgLists
import Derived.Test.YtggnkpbadfabcaaFgKeys
import Derived.Test.YtggnkpbadfabcaaL3Num
import Derived.Sort.Walk0
import Derived.IntWalk
import Derived.Laws.Cover1
import Derived.Deep.RegionWith
namespace Go.Proofs.Ytggnkpbadfabcaa.Fg
open Go Go.RowKit Go.Joins Kit

theorem keys_bad {zs : List Tl} (h : (keysL zs).2 ≠ 0) : (keysL zs).1 = [] := by
  unfold keysL at h ⊢
  split
  · rfl
  · split
    · rfl
    · rename_i h1 h2
      rw [if_neg h1, if_neg h2] at h
      exact absurd rfl h
theorem keys_fine {zs : List Tl} (h : (keysL zs).2 = 0) : keysL zs = (onceL zs, 0) ∧ (onceL zs).length ≤ 16 := by
  unfold keysL at h ⊢
  split at h
  · cases h
  · rename_i h1
    split at h
    · cases h
    · rename_i h2
      rw [if_neg h1, if_neg h2]
      exact ⟨rfl, by omega⟩
theorem keys_errs (zs : List Tl) : (keysL zs).2 = 0 ∨ (keysL zs).2 = 1 ∨ (keysL zs).2 = 13 := by
  unfold keysL
  split
  · simp
  · split <;> simp
theorem up_at {zs : List Tl} (h : Up zs) (j : Nat) (hj : j + 1 < zs.length) : Op.bytesLess zs[j + 1] zs[j] = false ∧ (zs[j + 1] == zs[j]) = false := by
  have hlt : zs[j] < zs[j + 1] := List.pairwise_iff_getElem.1 h j (j + 1) (by omega) hj (by omega)
  refine ⟨?_, ?_⟩
  · rw [bytesLess_eq, decide_eq_false_iff_not]
    exact fun h' => tlt_irr _ (tlt_tr h' hlt)
  · rw [beq_eq_false_iff_ne]
    intro e
    rw [e] at hlt
    exact tlt_irr _ hlt

set_option maxHeartbeats 1600000 in
set_option maxRecDepth 100000 in
theorem flagSorts_walk (A : Option Addr) (n c : Nat) (ss : List ByteArray) (w : World) (hl : ss.length = n) (hn : n ≤ 9223372036854775807) (hA0 : F0.ListAt w A (ss.map .string)) (hz0 : ∀ s ∈ ss, s.size ≤ 9223372036854775807) :
    Calls Try.prog 5 #[.slice A n c] w fun e w' => e = .returned (.bool true) ∧ Below w.heap.size w w' := by
  have hA : TsAt w.heap.size w A (textsL ss) := texts_TsAt hA0 (Nat.le_refl _)
  have hz : ∀ z ∈ textsL ss, z.length ≤ 9223372036854775807 := fun z h => by
    obtain ⟨s, hs, rfl⟩ := List.mem_map.1 h
    rw [← Lib.size_eq]
    exact hz0 s hs
  have hln : (textsL ss).length = n := by rw [texts_len, hl]
  obtain ⟨zs, hzs⟩ : ∃ zs, textsL ss = zs := ⟨_, rfl⟩
  rw [hzs] at hA hz hln
  subst hln
  clear hzs hA0 hz0 hl
  have HG := Lib.hid (great_any A c zs w hA hn hz)
  have HA := Lib.hid hA
  clear hA hz
  cases hgr : greatL zs
  rotate_left 1
  · rw [hgr] at HG
    clear hgr
    go_enter Try.func5, Try.ntmps5
    go_wp2_with fail
    refine HG.out.mono ?_
    rintro e w1 ⟨rfl, rfl⟩
    go_wp2_with fail
    refine (awake_any _).mono ?_
    rintro e w2 ⟨rfl, hb2⟩
    go_wp2_with fail
    go_ret
    exact ⟨rfl, hb2⟩
  rw [hgr] at HG
  obtain ⟨hl1, hl2⟩ := great_no hgr
  have HK := Lib.hid (keys_any A c zs w HA.out (by omega) (fun z h => by have := hl2 z h; omega))
  have HL2 := Lib.hid hl2
  clear hgr hn hl2
  by_cases he : (keysL zs).2 = 0
  rotate_left 1
  · have HBAD := Lib.hid (keys_bad he)
    rw [HBAD.out] at HK
    obtain ⟨N, hN⟩ : ∃ N : Int, ((keysL zs).2 : Int) = N := ⟨_, rfl⟩
    have gN : (N == 0) = false := by rw [beq_eq_false_iff_ne]; omega
    rw [hN] at HK
    clear he hN
    go_enter Try.func5, Try.ntmps5
    go_wp2_with fail
    refine HG.out.mono ?_
    rintro e w1 ⟨rfl, rfl⟩
    go_wp2_with fail
    refine HK.out.mono ?_
    rintro e w2 ⟨v, rfl, hr, hb2⟩
    obtain ⟨av, cv, rfl⟩ := RowT.form hr
    clear hr
    go_wp2_with fail
    refine (L3.num_any N w2).mono ?_
    rintro e w3 ⟨rfl, rfl⟩
    go_wp2_with fail
    refine (awake_any _).mono ?_
    rintro e w4 ⟨rfl, hb4⟩
    go_wp2_with fail
    go_ret
    exact ⟨rfl, hb2.trans (hb4.mono hb2.size)⟩
  have hf := keys_fine he
  have HAG : Hid (keysL (onceL zs) = (onceL zs, 0)) := Lib.hid (by
    have h := keys_again he
    rw [hf.1] at h
    exact h)
  rw [hf.1] at HK
  have HUP := Lib.hid (once_up zs)
  have HME := Lib.hid (once_mem zs)
  have HO2 : Hid (∀ z ∈ onceL zs, z.length ≤ 300) := Lib.hid (fun z h => HL2.out z ((once_mem zs z).1 h))
  have hol := hf.2
  obtain ⟨os, hos⟩ : ∃ os, onceL zs = os := ⟨_, rfl⟩
  rw [hos] at HAG HK HUP HME HO2 hol
  clear hos hf he
  go_enter Try.func5, Try.ntmps5
  go_wp2_with fail
  refine HG.out.mono ?_
  rintro e w1 ⟨rfl, rfl⟩
  go_wp2_with fail
  refine HK.out.mono ?_
  rintro e w2 ⟨v, rfl, hr, hb2⟩
  obtain ⟨av, cv, rfl⟩ := RowT.form hr
  have HR := Lib.hid hr
  have HB2 := Lib.hid hb2
  have HA2 := Lib.hid (TsAt.next HA.out hb2)
  have HO := Lib.hid (RowT.ts hr)
  clear hr hb2
  go_wp2_with fail
  refine (L3.num_any _ w2).mono ?_
  rintro e w3 ⟨rfl, rfl⟩
  go_wp2_with fail
  have HHAS : Hid (∀ (z : Tl) (W : World), W.heap = w2.heap → Hid (z ∈ os) → Calls Try.prog 22 #[.slice A zs.length c, .string ⟨z.toArray⟩] W fun e w' => e = .returned (.bool true) ∧ W = w') := Lib.hid (fun z W h1 h2 =>
    has_any A c zs z W (fun j hj => by
      obtain ⟨g, o, q1, q2, q3⟩ := HA2.out j hj
      refine ⟨g, o, q1, by rw [h1]; exact q2, ?_⟩
      rw [← q3]
      unfold World.cell?
      rw [h1]) (by omega) ((HME.out z).1 h2.out))
  have HK2 : Hid (∀ W, W.heap = w2.heap → Calls Try.prog 12 #[.slice av os.length cv] W fun e w' => ∃ v, e = .returned (.tuple #[v, .int .i64 0]) ∧ RowT W.heap.size v os w' ∧ Below W.heap.size W w') := Lib.hid (fun W h => by
    have := keys_any av cv os W (fun j hj => by
      obtain ⟨g, o, q1, q2, q3⟩ := HO.out j hj
      refine ⟨g, o, q1, by rw [h]; exact q2, ?_⟩
      rw [← q3]
      unfold World.cell?
      rw [h]) (by omega) (fun z hz => by have := HO2.out z hz; omega)
    rw [HAG.out] at this
    exact this)
  go_loopw [5] (fun i wr => ∃ k : Nat, k ≤ os.length ∧ i = .int .i64 (k : Int) ∧ Hid (wr.heap = w2.heap) ∧ Hid (Below w2.heap.size w2 wr)) (fun i _ => os.length - (intOf i).toNat)
  case atStart => exact ⟨0, Nat.zero_le _, rfl, Lib.hid rfl, Lib.hid (Below.refl _ _)⟩
  case round =>
    obtain ⟨k, hk, rfl, hh, hb⟩ := hrel
    by_cases hlt : k < os.length
    · have g1 : (k : Int) < (os.length : Int) := by omega
      obtain ⟨g, o, rfl, hc⟩ := HO.out.cell hb.out k hlt
      have HIN : Hid (os[k] ∈ os) := Lib.hid (List.getElem_mem hlt)
      obtain ⟨K, hK⟩ : ∃ K : Int, (k : Int) = K := ⟨_, rfl⟩
      have HK := Lib.hid hK
      have hcK : wr.cell? ⟨g, o + K.toNat, none⟩ = some (.string ⟨os[k].toArray⟩) := by rw [← hK]; simpa using hc
      rw [hK] at g1 ⊢
      have k0 : 0 ≤ K := by omega
      have HNX : Hid ((k : Int) + 1 = K + 1) := Lib.hid (by rw [hK])
      have hheap := hh.out
      by_cases hk0 : k = 0
      · have k1 : ¬ 0 < K := by omega
        have kd : decide (0 < K) = false := decide_eq_false k1
        obtain ⟨z, hzz⟩ : ∃ z, os[k] = z := ⟨_, rfl⟩
        rw [hzz] at hcK HIN
        have HC : Hid (∀ W : World, W.heap = wr.heap → Calls Try.prog 22 #[.slice A zs.length c, .string ⟨z.toArray⟩] W fun e w' => e = .returned (.bool true) ∧ w' = W) := Lib.hid (fun W h => (HHAS.out z W (h.trans hheap) HIN).mono (fun _ _ q => ⟨q.1, q.2.symm⟩))
        clear hzz hheap hc hK hk0
        go_wp2_with fail
        go_quiet ((go_at_call 22; refine Calls.quiet_of_same (HC.out _ (by rfl))))
        go_wp2_with fail
        go_roundw
        case rel =>
          refine ⟨k + 1, by omega, ?_, hh, Lib.hid (below_drewN hb.out _)⟩
          have hKK := HK.out
          subst hKK
          go_num
        case measure => have := HK.out; simp [intOf]; omega
      · obtain ⟨j, hj⟩ : ∃ j, k = j + 1 := ⟨k - 1, by omega⟩
        subst hj
        obtain ⟨g', o', e', hc'⟩ := HO.out.cell hb.out j (by omega)
        cases e'
        obtain ⟨L, hL⟩ : ∃ L : Int, K - 1 = L := ⟨_, rfl⟩
        have hcJ : wr.cell? ⟨g, o + L.toNat, none⟩ = some (.string ⟨os[j].toArray⟩) := by rw [← hL, ← hK, show (((j + 1 : Nat) : Int) - 1).toNat = j by omega]; exact hc'
        obtain ⟨u1, u2⟩ := up_at HUP.out j hlt
        have k1 : 0 < K := by omega
        have k2 : 0 ≤ L := by omega
        have k3 : L < (os.length : Int) := by omega
        have k4 : IntKind.i64.wrap L = L := IntWalk.i64_in _ (by omega)
        obtain ⟨z, hzz⟩ : ∃ z, os[j + 1] = z := ⟨_, rfl⟩
        obtain ⟨y, hyy⟩ : ∃ y, os[j] = y := ⟨_, rfl⟩
        rw [hzz] at hcK HIN u1 u2
        rw [hyy] at hcJ u1 u2
        have HC : Hid (∀ W : World, W.heap = wr.heap → Calls Try.prog 22 #[.slice A zs.length c, .string ⟨z.toArray⟩] W fun e w' => e = .returned (.bool true) ∧ w' = W) := Lib.hid (fun W h => (HHAS.out z W (h.trans hheap) HIN).mono (fun _ _ q => ⟨q.1, q.2.symm⟩))
        clear hzz hyy hheap hc hc' hK hk0
        go_wp2_with fail
        go_quiet ((go_at_call 22; refine Calls.quiet_of_same (HC.out _ (by rfl))))
        go_wp2_with fail
        go_roundw
        case rel =>
          refine ⟨j + 2, by omega, ?_, hh, Lib.hid (below_drewN hb.out _)⟩
          have hKK := HK.out
          subst hKK
          go_num
        case measure => have := HK.out; simp [intOf]; omega
    · have g1 : ¬ (k : Int) < (os.length : Int) := by omega
      have HW := Lib.hid hb.out
      have HHP := Lib.hid hh.out
      clear hlt
      have HHAS2 : Hid (∀ (z : Tl) (W : World), W.heap = w2.heap → Hid (z ∈ zs) → Calls Try.prog 22 #[.slice av os.length cv, .string ⟨z.toArray⟩] W fun e w' => e = .returned (.bool true) ∧ W = w') := Lib.hid (fun z W h1 h2 =>
        has_any av cv os z W (fun j hj => by
          obtain ⟨g, o, q1, q2, q3⟩ := HO.out j hj
          refine ⟨g, o, q1, by rw [h1]; exact q2, ?_⟩
          rw [← q3]
          unfold World.cell?
          rw [h1]) (by omega) ((HME.out z).2 h2.out))
      go_wp2_with fail
      go_loopw [6] (fun i wx => ∃ k : Nat, k ≤ zs.length ∧ i = .int .i64 (k : Int) ∧ Hid (wx.heap = w2.heap) ∧ Hid (Below w2.heap.size w2 wx)) (fun i _ => zs.length - (intOf i).toNat)
      case atStart => exact ⟨0, Nat.zero_le _, rfl, HHP, HW⟩
      case round =>
        clear HHP HW hh hb
        obtain ⟨k2, hk2, rfl, hh, hb⟩ := hrel
        by_cases hlt : k2 < zs.length
        · have g2 : (k2 : Int) < (zs.length : Int) := by omega
          obtain ⟨g, o, rfl, hc⟩ := HA2.out.cell hb.out k2 hlt
          have HIN : Hid (zs[k2] ∈ zs) := Lib.hid (List.getElem_mem hlt)
          obtain ⟨z, hzz⟩ : ∃ z, zs[k2] = z := ⟨_, rfl⟩
          rw [hzz] at hc HIN
          clear hzz
          go_wp2_with fail
          refine (HHAS2.out z _ hh.out HIN).mono ?_
          rintro e w5 ⟨rfl, rfl⟩
          go_wp2_with fail
          go_roundw
          case rel => exact ⟨k2 + 1, by omega, by go_num, hh, hb⟩
          case measure => simp [intOf]; omega
        · have g2 : ¬ (k2 : Int) < (zs.length : Int) := by omega
          have HOX : Hid (TsAt wr.heap.size wr av os) := Lib.hid (TsAt.next HO.out hb.out)
          have g16 : (os.length : Int) ≤ 16 := by omega
          have HKX := Lib.hid (HK2.out _ hh.out)
          clear hlt
          go_wp2_with fail
          refine HKX.out.mono ?_
          rintro e w6 ⟨v6, rfl, hr6, hb6⟩
          obtain ⟨a6, c6, rfl⟩ := RowT.form hr6
          have HR6 := Lib.hid (RowT.ts hr6)
          have HO6 := Lib.hid (TsAt.next HOX.out hb6)
          have HB6 := Lib.hid (HB2.out.trans ((hb.out.trans (hb6.mono hb.out.size)).mono HB2.out.size))
          clear hr6 hb6
          go_wp2_with fail
          refine (L3.num_any 0 w6).mono ?_
          rintro e w7 ⟨rfl, rfl⟩
          go_wp2_with fail
          refine (same_any av a6 cv c6 os w6 HO6.out HR6.out (by omega)).mono ?_
          rintro e w8 ⟨rfl, hb8⟩
          have HB8 := Lib.hid (HB6.out.trans (hb8.mono HB6.out.size))
          clear hb8
          go_wp2_with fail
          refine (awake_any _).mono ?_
          rintro e w9 ⟨rfl, hb9⟩
          go_wp2_with fail
          go_ret
          exact ⟨rfl, HB8.out.trans (hb9.mono HB8.out.size)⟩
end Go.Proofs.Ytggnkpbadfabcaa.Fg
