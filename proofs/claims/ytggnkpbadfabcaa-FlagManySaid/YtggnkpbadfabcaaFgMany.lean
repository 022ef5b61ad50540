/-
  The law FlagMany returns true, of any two bytes. Condition: none of its own.
-/
import Derived.Test.YtggnkpbadfabcaaFgManyP
import Derived.Test.YtggnkpbadfabcaaFgLists
import Derived.Test.YtggnkpbadfabcaaFgKeys
import Derived.Test.YtggnkpbadfabcaaFgAwake
import Derived.Test.YtggnkpbadfabcaaL3Num
import Derived.IntWalk
namespace Go.Proofs.Ytggnkpbadfabcaa.Fg
open Go Go.RowKit Go.Joins Kit

theorem wd_run (k : Nat) (hk : k < 30) (W : World) :
    (convert 41 9 (.slice (some ⟨W.heap.size, 0, none⟩) 3 3)).run Try.prog (W.alloc (Obj.cells #[Value.int IntKind.u8 107, Value.int IntKind.u8 (97 + (k : Int) % 26), Value.int IntKind.u8 (97 + (k : Int) / 26)] 5)) = .ok (.string ⟨(wdL k).toArray⟩) (W.alloc (Obj.cells #[Value.int IntKind.u8 107, Value.int IntKind.u8 (97 + (k : Int) % 26), Value.int IntKind.u8 (97 + (k : Int) / 26)] 5)) := by
  refine run_convert_bytes_back (P := Try.prog) _ 41 9 5 ⟨W.heap.size, 0, none⟩ 3 (wdL k) Try.underlying41 Try.underlying5 Try.underlying9 ?_
  have e1 : (((UInt8.ofNat (97 + k % 26)).toNat : Nat) : Int) = 97 + (k : Int) % 26 := by simp; omega
  have e2 : (((UInt8.ofNat (97 + k / 26)).toNat : Nat) : Int) = 97 + (k : Int) / 26 := by simp; omega
  intro j hj
  have hj3 : j < 3 := hj
  have hF := Kit.fresh_block W #[Value.int IntKind.u8 107, Value.int IntKind.u8 (97 + (k : Int) % 26), Value.int IntKind.u8 (97 + (k : Int) / 26)] 5
  rcases (by omega : j = 0 ∨ j = 1 ∨ j = 2) with rfl | rfl | rfl
  · rw [show (⟨W.heap.size, 0, none⟩ : Addr).add 0 = ⟨W.heap.size, 0, none⟩ from rfl, Lib.cell_of_heap hF]
    rfl
  · rw [show (⟨W.heap.size, 0, none⟩ : Addr).add 1 = ⟨W.heap.size, 1, none⟩ from rfl, Lib.cell_of_heap hF]
    simp only [wdL, List.getElem_cons_succ, List.getElem_cons_zero, e1]
    rfl
  · rw [show (⟨W.heap.size, 0, none⟩ : Addr).add 2 = ⟨W.heap.size, 2, none⟩ from rfl, Lib.cell_of_heap hF]
    simp only [wdL, List.getElem_cons_succ, List.getElem_cons_zero, e2]
    rfl
theorem ex_app (X : ByteArray) (j : Nat) (h : X = ⟨(exL j).toArray⟩) : X ++ ⟨#[120]⟩ = ⟨(exL (j + 1)).toArray⟩ := by
  rw [h, ex_succ]
  apply ByteArray.ext
  rw [ByteArray.data_append]
  simp

set_option maxHeartbeats 4000000 in
set_option maxRecDepth 100000 in
theorem flagMany_walk (n m : Int) (h0 : 0 ≤ n) (h1 : n ≤ 255) (h2 : 0 ≤ m) (h3 : m ≤ 255) (w : World) :
    Calls Try.prog 7 #[.int .u8 n, .int .u8 m] w fun e w' => e = .returned (.bool true) ∧ Below w.heap.size w w' := by
  obtain ⟨K, hK⟩ : ∃ K : Nat, n % 30 = (K : Int) := ⟨(n % 30).toNat, by omega⟩
  obtain ⟨L, hL⟩ : ∃ L : Nat, m % 100 = (L : Int) := ⟨(m % 100).toNat, by omega⟩
  have eK : n.tmod 30 = (K : Int) := by rw [IntWalk.rem_in _ _ h0]; exact hK
  have eL : m.tmod 100 = (L : Int) := by rw [IntWalk.rem_in _ _ h2]; exact hL
  have gK : K < 30 := by omega
  have gL : L < 100 := by omega
  clear hK hL
  go_enter Try.func7, Try.ntmps7
  go_wp2_with fail
  go_loopw [7, 8] (fun kv i wr => ∃ (k : Nat) (v : Value), k ≤ K ∧ kv = v ∧ i = .int .i64 (k : Int) ∧ Hid (RowT w.heap.size v (manyL k) wr) ∧ Hid (Below w.heap.size w wr)) (fun _ i _ => K - (intOf i).toNat)
  case atStart => exact ⟨0, _, Nat.zero_le _, rfl, rfl, Lib.hid (RowT.new _ _), Lib.hid (Below.refl _ _)⟩
  case round =>
    obtain ⟨k, v, hk, rfl, rfl, hrow, hb⟩ := hrel
    by_cases hlt : k < K
    · have gk : (k : Int) < (K : Int) := by omega
      have e1 : ((k : Int)).tmod 26 = (k : Int) % 26 := IntWalk.rem_in _ _ (by omega)
      have e2 : ((k : Int)).tdiv 26 = (k : Int) / 26 := Int.tdiv_eq_ediv_of_nonneg (by omega)
      obtain ⟨av, cv, hvf⟩ := RowT.form hrow.out
      rw [many_len] at hvf
      subst hvf
      have c1 := wd_run k (by omega) wr
      have HTK : Hid (manyL (k + 1) = manyL k ++ [wdL k]) := Lib.hid (many_succ k)
      have HLN : Hid ((manyL k).length ≤ 1099511627776) := Lib.hid (by rw [many_len]; omega)
      have HML := Lib.hid (many_len k)
      obtain ⟨z, hz⟩ : ∃ z, wdL k = z := ⟨_, rfl⟩
      rw [hz] at c1 HTK
      clear hz
      obtain ⟨o1, ho1⟩ : ∃ o, Obj.cells #[Value.int IntKind.u8 107, Value.int IntKind.u8 (97 + (k : Int) % 26), Value.int IntKind.u8 (97 + (k : Int) / 26)] 5 = o := ⟨_, rfl⟩
      have HRW : Hid (RowT w.heap.size (.slice av k cv) (manyL k) ((wr.alloc o1).alloc (.cells #[.string ⟨z.toArray⟩] 9))) := Lib.hid (RowT.below (RowT.below hrow.out ((Below.refl _ wr).alloc (Nat.le_refl _) o1)) ((Below.refl _ (wr.alloc o1)).alloc (Nat.le_refl _) _))
      have HBK : Hid (((wr.alloc o1).alloc (.cells #[.string ⟨z.toArray⟩] 9)).heap[wr.heap.size + 1]? = some (.cells #[encT z] 9 (0, 0))) := Lib.hid (by
        have h := Kit.fresh_block (wr.alloc o1) #[encT z] 9
        rw [World.size_alloc] at h
        exact h)
      have HBB : Hid (Below w.heap.size w ((wr.alloc o1).alloc (.cells #[.string ⟨z.toArray⟩] 9))) := Lib.hid ((hb.out.alloc hb.out.size o1).alloc (by have := hb.out.size; rw [World.size_alloc]; omega) _)
      rw [← ho1] at HRW HBK HBB
      clear ho1
      go_wp2_with (at_builtin; refine RowT.app rfl _ _ rfl w.heap.size _ _ (manyL k) HRW.out z (wr.heap.size + 1) _ HBK.out rfl rfl HLN.out (by have := HBB.out.size; exact this) ?_)
      intro g2 c2' w6 hr6 hg6
      have HB6 : Hid (Below w.heap.size w w6) := Lib.hid (HBB.out.grown hg6 HBB.out.size (fun k e => RowT.own HRW.out k e))
      rw [← HTK.out] at hr6
      rw [HML.out] at hr6 ⊢
      have HR6 := Lib.hid hr6
      clear hr6 hg6
      go_wp2_with fail
      go_roundw
      case rel => exact ⟨k + 1, _, by omega, rfl, by go_num, HR6, HB6⟩
      case measure => simp [intOf]; omega
    · obtain rfl : k = K := by omega
      have gk : ¬ (k : Int) < (k : Int) := by omega
      obtain ⟨av, cv, hvf⟩ := RowT.form hrow.out
      have HK := keys_any av cv (manyL k) wr (by have h := hrow.out; rw [hvf] at h; exact RowT.ts h) (by rw [many_len]; omega) (fun z hz => by
        obtain ⟨i, _, rfl⟩ := List.mem_map.1 hz
        rw [wd_len]
        decide)
      rw [many_len] at hvf HK
      subst hvf
      rw [many_keys gK] at HK
      have HKK := Lib.hid HK
      have HB1 := Lib.hid hb.out
      have HLK := Lib.hid (long_keys (m := 1 + L) (by omega) (by omega))
      clear HK hb hrow
      go_wp2_with fail
      refine HKK.out.mono ?_
      rintro e w2 ⟨v2, rfl, _, hb2⟩
      have HB2 := Lib.hid (HB1.out.trans (hb2.mono HB1.out.size))
      obtain ⟨N1, hN1⟩ : ∃ N : Int, (((if 16 < k then 13 else 0 : Nat)) : Int) = N := ⟨_, rfl⟩
      have HN1 := Lib.hid hN1
      rw [hN1]
      clear hb2 hN1
      go_wp2_with fail
      go_loopw [11, 12] (fun sv i wx => ∃ (j : Nat) (X : ByteArray), j ≤ 1 + L ∧ sv = .string X ∧ i = .int .i64 (j : Int) ∧ X.size ≤ 200 ∧ Hid (X = ⟨(exL j).toArray⟩) ∧ wx = w2) (fun _ i _ => 1 + L - (intOf i).toNat)
      case atStart => exact ⟨0, _, Nat.zero_le _, rfl, rfl, by decide, Lib.hid rfl, rfl⟩
      case round =>
        obtain ⟨j, X, hj, rfl, rfl, hX2, hX, rfl⟩ := hrel
        by_cases hlt2 : j < 1 + L
        · have gj : (j : Int) < 1 + (L : Int) := by omega
          have HXN := Lib.hid (ex_app X j hX.out)
          have hsz : (X ++ ⟨#[120]⟩).size ≤ 200 := by rw [HXN.out, Lib.size_mk]; simp [exL]; omega
          have HSZ := Lib.hid hsz
          clear hsz
          go_wp2_with fail
          go_roundw
          case rel => exact ⟨j + 1, _, by omega, rfl, by go_num, HSZ.out, HXN, trivial⟩
          case measure => simp [intOf]; omega
        · obtain rfl : j = 1 + L := by omega
          have gj : ¬ ((1 + L : Nat) : Int) < 1 + (L : Int) := by omega
          have HF : Hid ((wr.alloc (.cells #[.string X] 9)).heap[wr.heap.size]? = some (.cells #[.string X] 9 (0, 0))) := Lib.hid (Kit.fresh_block wr _ _)
          have HK2 : Hid (Calls Try.prog 12 #[.slice (some ⟨wr.heap.size, 0, none⟩) 1 1] (wr.alloc (.cells #[.string X] 9)) fun e w' => ∃ v, e = .returned (.tuple #[v, .int .i64 (((if 64 < 1 + L then 1 else 0 : Nat)) : Int)]) ∧ Below (wr.alloc (.cells #[.string X] 9)).heap.size (wr.alloc (.cells #[.string X] 9)) w') := Lib.hid (by
            have h := keys_any (some ⟨wr.heap.size, 0, none⟩) 1 [exL (1 + L)] (wr.alloc (.cells #[.string X] 9)) (fun j hj => by
              have hj0 : j = 0 := by simpa using hj
              subst hj0
              refine ⟨wr.heap.size, 0, rfl, by simp, ?_⟩
              rw [Lib.cell_of_heap HF.out, hX.out]
              rfl) (by simp) (fun z hz => by
              rw [List.mem_singleton] at hz
              subst hz
              simp only [exL, List.length_replicate]
              omega)
            rw [HLK.out.1] at h
            exact h.mono (fun e w' ⟨v, he, _, hb⟩ => ⟨v, he, hb⟩))
          have HR : Hid (∀ W, Calls Try.prog 14 #[.string X] W fun e w' => e = .returned (.bool (decide (1 + L ≤ 64))) ∧ Below W.heap.size W w') := Lib.hid (fun W => by
            have h := right_any X W (by omega)
            rw [hX.out] at h
            rw [show (ByteArray.mk (exL (1 + L)).toArray).data.toList = exL (1 + L) from rfl, HLK.out.2, ← hX.out] at h
            exact h)
          clear hX HLK hX2
          go_wp2_with fail
          refine HK2.out.mono ?_
          rintro e w3 ⟨v3, rfl, hb3⟩
          have HB3 := Lib.hid ((HB2.out.alloc HB2.out.size _).trans (hb3.mono (by have := HB2.out.size; rw [World.size_alloc]; omega)))
          obtain ⟨N2, hN2⟩ : ∃ N : Int, (((if 64 < 1 + L then 1 else 0 : Nat)) : Int) = N := ⟨_, rfl⟩
          obtain ⟨B, hB⟩ : ∃ B : Bool, decide (1 + L ≤ 64) = B := ⟨_, rfl⟩
          have HN2 := Lib.hid hN2
          rw [hB] at HR
          rw [hN2]
          clear hb3 hN2
          have HBB := Lib.hid hB
          clear hB
          by_cases h16 : 16 < k
          · by_cases h64 : 64 < 1 + L
            · obtain rfl : N1 = 13 := by have h := HN1.out; rw [if_pos h16] at h; exact h.symm
              obtain rfl : N2 = 1 := by have h := HN2.out; rw [if_pos h64] at h; exact h.symm
              obtain rfl : B = false := by rw [← HBB.out]; exact decide_eq_false (by omega)
              have g16 : (16 : Int) < (k : Int) := by omega
              have g17 : decide ((16 : Int) < (k : Int)) = true := decide_eq_true g16
              have g64 : decide (1 + (L : Int) ≤ 64) = false := decide_eq_false (by omega)
              have g65 : (64 : Int) < 1 + (L : Int) := by omega
              have g66 : decide ((64 : Int) < 1 + (L : Int)) = true := decide_eq_true g65
              clear h16 h64
              go_wp2_with fail
              refine (L3.num_any _ w3).mono ?_
              rintro e w4 ⟨rfl, rfl⟩
              go_wp2_with fail
              refine (L3.num_any _ w3).mono ?_
              rintro e w6 ⟨rfl, rfl⟩
              go_wp2_with fail
              refine (HR.out w3).mono ?_
              rintro e w7 ⟨rfl, hb7⟩
              have HB7 := Lib.hid (HB3.out.trans (hb7.mono HB3.out.size))
              clear hb7
              go_wp2_with fail
              refine (awake_any w7).mono ?_
              rintro e w8 ⟨rfl, hb8⟩
              go_wp2_with fail
              go_ret
              exact ⟨rfl, HB7.out.trans (hb8.mono HB7.out.size)⟩
            · obtain rfl : N1 = 13 := by have h := HN1.out; rw [if_pos h16] at h; exact h.symm
              obtain rfl : N2 = 0 := by have h := HN2.out; rw [if_neg h64] at h; exact h.symm
              obtain rfl : B = true := by rw [← HBB.out]; exact decide_eq_true (by omega)
              have g16 : (16 : Int) < (k : Int) := by omega
              have g17 : decide ((16 : Int) < (k : Int)) = true := decide_eq_true g16
              have g64 : decide (1 + (L : Int) ≤ 64) = true := decide_eq_true (by omega)
              have g65 : ¬ (64 : Int) < 1 + (L : Int) := by omega
              have g66 : decide ((64 : Int) < 1 + (L : Int)) = false := decide_eq_false g65
              clear h16 h64
              go_wp2_with fail
              refine (L3.num_any _ w3).mono ?_
              rintro e w4 ⟨rfl, rfl⟩
              go_wp2_with fail
              refine (L3.num_any _ w3).mono ?_
              rintro e w6 ⟨rfl, rfl⟩
              go_wp2_with fail
              refine (HR.out w3).mono ?_
              rintro e w7 ⟨rfl, hb7⟩
              have HB7 := Lib.hid (HB3.out.trans (hb7.mono HB3.out.size))
              clear hb7
              go_wp2_with fail
              refine (awake_any w7).mono ?_
              rintro e w8 ⟨rfl, hb8⟩
              go_wp2_with fail
              go_ret
              exact ⟨rfl, HB7.out.trans (hb8.mono HB7.out.size)⟩
          · by_cases h64 : 64 < 1 + L
            · obtain rfl : N1 = 0 := by have h := HN1.out; rw [if_neg h16] at h; exact h.symm
              obtain rfl : N2 = 1 := by have h := HN2.out; rw [if_pos h64] at h; exact h.symm
              obtain rfl : B = false := by rw [← HBB.out]; exact decide_eq_false (by omega)
              have g16 : ¬ (16 : Int) < (k : Int) := by omega
              have g17 : decide ((16 : Int) < (k : Int)) = false := decide_eq_false g16
              have g64 : decide (1 + (L : Int) ≤ 64) = false := decide_eq_false (by omega)
              have g65 : (64 : Int) < 1 + (L : Int) := by omega
              have g66 : decide ((64 : Int) < 1 + (L : Int)) = true := decide_eq_true g65
              clear h16 h64
              go_wp2_with fail
              refine (L3.num_any _ w3).mono ?_
              rintro e w4 ⟨rfl, rfl⟩
              go_wp2_with fail
              refine (L3.num_any _ w3).mono ?_
              rintro e w5 ⟨rfl, rfl⟩
              go_wp2_with fail
              refine (L3.num_any _ w3).mono ?_
              rintro e w6 ⟨rfl, rfl⟩
              go_wp2_with fail
              refine (HR.out w3).mono ?_
              rintro e w7 ⟨rfl, hb7⟩
              have HB7 := Lib.hid (HB3.out.trans (hb7.mono HB3.out.size))
              clear hb7
              go_wp2_with fail
              refine (awake_any w7).mono ?_
              rintro e w8 ⟨rfl, hb8⟩
              go_wp2_with fail
              go_ret
              exact ⟨rfl, HB7.out.trans (hb8.mono HB7.out.size)⟩
            · obtain rfl : N1 = 0 := by have h := HN1.out; rw [if_neg h16] at h; exact h.symm
              obtain rfl : N2 = 0 := by have h := HN2.out; rw [if_neg h64] at h; exact h.symm
              obtain rfl : B = true := by rw [← HBB.out]; exact decide_eq_true (by omega)
              have g16 : ¬ (16 : Int) < (k : Int) := by omega
              have g17 : decide ((16 : Int) < (k : Int)) = false := decide_eq_false g16
              have g64 : decide (1 + (L : Int) ≤ 64) = true := decide_eq_true (by omega)
              have g65 : ¬ (64 : Int) < 1 + (L : Int) := by omega
              have g66 : decide ((64 : Int) < 1 + (L : Int)) = false := decide_eq_false g65
              clear h16 h64
              go_wp2_with fail
              refine (L3.num_any _ w3).mono ?_
              rintro e w4 ⟨rfl, rfl⟩
              go_wp2_with fail
              refine (L3.num_any _ w3).mono ?_
              rintro e w5 ⟨rfl, rfl⟩
              go_wp2_with fail
              refine (L3.num_any _ w3).mono ?_
              rintro e w6 ⟨rfl, rfl⟩
              go_wp2_with fail
              refine (HR.out w3).mono ?_
              rintro e w7 ⟨rfl, hb7⟩
              have HB7 := Lib.hid (HB3.out.trans (hb7.mono HB3.out.size))
              clear hb7
              go_wp2_with fail
              refine (awake_any w7).mono ?_
              rintro e w8 ⟨rfl, hb8⟩
              go_wp2_with fail
              go_ret
              exact ⟨rfl, HB7.out.trans (hb8.mono HB7.out.size)⟩
end Go.Proofs.Ytggnkpbadfabcaa.Fg
