/-
  The law JsonEscapes returns true, of any number: the walk. Conditions: none.
-/
import Derived.Test.YtpnffmimpkimeaaJ7Escapes
namespace Go.Proofs.Ytpnffmimpkimeaa.J7
open Go Go.RowKit Go.Joins Kit

theorem and1023 (r : Int) (h0 : 0 ≤ r) (h1 : r < 4611686018427387904) : bits .and .i64 r 1023 = r % 1024 := bits_mask .i64 62 (by decide) U8.wraps_i64 10 (by decide) r h0 (by omega)
theorem conv_text (s : ByteArray) (l : List UInt8) (hs : s.data.toList = l) (w : World) : ∃ N cap g w', (convert 9 22 (.string s)).run Try.prog w = .ok (.slice (some ⟨g, 0, none⟩) N cap) w' ∧ BytesAt w' (.slice (some ⟨g, 0, none⟩) N cap) l ∧ Below w.heap.size w w' := by
  obtain ⟨cap, w', h1, h2, h3⟩ := conv_bytes s w
  exact ⟨_, cap, _, w', h1, by rw [← hs]; exact h2, h3⟩

set_option maxHeartbeats 2000000 in
set_option maxRecDepth 100000 in
theorem jsonEscapes_walk (x : Int) (xl : 0 ≤ x) (xh : x ≤ 4294967295) (w : World) :
    Calls Try.prog 9 #[.int .u32 x] w fun e w' => e = .returned (.bool true) ∧ Below w.heap.size w w' := by
  obtain ⟨n, hn⟩ : ∃ n : Nat, x % 1114112 = (n : Int) := ⟨(x % 1114112).toNat, by omega⟩
  have hn1 : n ≤ 1114111 := by omega
  have hnb : (n : Int) ≤ 1114111 := by omega
  have HN1 := Lib.hid hn1
  clear hn1
  go_enter Try.func9, Try.ntmps9
  go_wp2_with fail
  refine (ehex_any n HN1.out w).mono ?_
  rintro e' w1 ⟨rfl, hb1⟩
  have sz1 : ((bS (hexE n)).size : Int) ≤ 4 := by rw [bS_size]; exact Int.le_refl _
  go_upto_if 16 with fail
  go_cut [4] from 15 to 82 (fun v wx => ∃ (S : ByteArray) (W : World), v = .string S ∧ (S.size : Int) ≤ 20 ∧ Hid (S.data.toList = escL n) ∧ Below w.heap.size w W ∧ W = wx)
  case first =>
    by_cases hg : 65535 < n
    · have g : (65535 : Int) < n := by omega
      obtain ⟨A, hA⟩ : ∃ A, 55296 + (n - 65536) / 1024 = A := ⟨_, rfl⟩
      obtain ⟨B, hB⟩ : ∃ B, 56320 + (n - 65536) % 1024 = B := ⟨_, rfl⟩
      have hAi : 55296 + ((n : Int) - 65536) / 1024 = (A : Int) := by omega
      have hBi : 56320 + ((n : Int) - 65536) % 1024 = (B : Int) := by omega
      have a1 := and1023 ((n : Int) - 65536) (by omega) (by omega)
      have HA : Hid (A ≤ 1114111) := by show A ≤ _; omega
      have HB : Hid (B ≤ 1114111) := by show B ≤ _; omega
      have HS : Hid (escL n = 92 :: 117 :: (hexE A ++ 92 :: 117 :: hexE B)) := by show _ = _; unfold escL; rw [if_pos hg, hA, hB]
      have szA : ((bS (hexE A)).size : Int) ≤ 4 := by rw [bS_size]; exact Int.le_refl _
      have szB : ((bS (hexE B)).size : Int) ≤ 4 := by rw [bS_size]; exact Int.le_refl _
      clear hA hB hg
      go_wp2_with fail
      refine (ehex_any A HA.out w1).mono ?_
      rintro e' w2 ⟨rfl, hb2⟩
      go_wp2_with fail
      refine (ehex_any B HB.out w2).mono ?_
      rintro e' w3 ⟨rfl, hb3⟩
      have hb4 := hb1.trans ((hb2.trans (hb3.mono hb2.size)).mono hb1.size)
      go_wp2_with fail
      go_meet
      refine ⟨_, _, rfl, ?_, Lib.hid ?_, hb4, rfl⟩
      · rw [ByteArray.size_append, ByteArray.size_append, ByteArray.size_append]
        show ((2 + (bS (hexE A)).size + 2 + (bS (hexE B)).size : Nat) : Int) ≤ 20
        omega
      · rw [HS.out]
        have h9 := cat_bS (cat_bS (cat_bS (a := ByteArray.mk #[92, 117]) (l := [92, 117]) rfl (bS_data (hexE A))) (b := ByteArray.mk #[92, 117]) (m := [92, 117]) rfl) (bS_data (hexE B))
        rw [h9]
        simp
    · have g : (n : Int) ≤ 65535 := by omega
      have HS : Hid (escL n = 92 :: 117 :: hexE n) := by show _ = _; unfold escL; rw [if_neg hg]
      clear hg
      go_wp2_with fail
      go_meet
      exact ⟨_, _, rfl, by rw [ByteArray.size_append]; show ((2 + (bS (hexE n)).size : Nat) : Int) ≤ 20; omega, Lib.hid (by rw [HS.out]; exact cat_bS rfl rfl), hb1, rfl⟩
  case rest =>
    obtain ⟨S, W, rfl, hS, HS, hbx, rfl⟩ := hcut
    clear hb1 sz1
    have hT : ((ByteArray.mk #[34, 97] ++ S) ++ ByteArray.mk #[98, 34]).data.toList = 34 :: 97 :: (escL n ++ [98, 34]) := by
      have h9 := cat_bS (cat_bS (a := ByteArray.mk #[34, 97]) (l := [34, 97]) rfl HS.out) (b := ByteArray.mk #[98, 34]) (m := [98, 34]) rfl
      rw [h9]
      simp
    obtain ⟨N1, cap, gg1, w2, hconv, hby, hb2⟩ := conv_text _ _ hT W
    have hp := parse_any _ _ w2 hby
    clear hT hby
    by_cases hs : 55296 ≤ n ∧ n ≤ 57343
    · obtain ⟨e1, e2⟩ := escape_half n hs
      have E2 := Lib.hid e2
      rw [e1] at hp
      have g1 : (55296 : Int) ≤ n := by omega
      have g2 : (n : Int) ≤ 57343 := by omega
      clear e1 e2 hs
      go_wp2_with fail
      refine hp.mono ?_
      intro e' w3 hL
      obtain ⟨hb3, x0, x1, x2, a3, l3, m3, a4, l4, m4, c, rfl, rfl, -⟩ := parse_forms hL
      have hb4 := (hbx.trans ((hb2.trans (hb3.mono hb2.size)).mono hbx.size)).alloc (by have := hbx.size; have := hb2.size; have := hb3.size; omega) (.cells #[.int .i64 x0, .int .i64 x1, .string x2, .slice a3 l3 m3, .slice a4 l4 m4] 27)
      have hT2 : ((ByteArray.mk #[34] ++ S) ++ ByteArray.mk #[92, 117, 48, 48, 52, 49, 34]).data.toList = 34 :: (escL n ++ [92, 117, 48, 48, 52, 49, 34]) := by
        have h9 := cat_bS (cat_bS (a := ByteArray.mk #[34]) (l := [34]) rfl HS.out) (b := ByteArray.mk #[92, 117, 48, 48, 52, 49, 34]) (m := [92, 117, 48, 48, 52, 49, 34]) rfl
        rw [h9]
        simp
      obtain ⟨N2, cap2, gg2, w5, hconv2, hby2, hb5⟩ := conv_text _ _ hT2 (w3.alloc (.cells #[.int .i64 x0, .int .i64 x1, .string x2, .slice a3 l3 m3, .slice a4 l4 m4] 27))
      have hp2 := parse_any _ _ w5 hby2
      rw [E2.out] at hp2
      clear hT2 hby2 hp hL hconv E2
      go_wp2_with fail
      refine hp2.mono ?_
      intro e' w6 hL
      obtain ⟨hb6, y0, y1, y2, a5, l5, m5, a6, l6, m6, c, rfl, rfl, -⟩ := parse_forms hL
      have hb7 := (hb4.trans ((hb5.trans (hb6.mono hb5.size)).mono hb4.size)).alloc (by have := hb4.size; have := hb5.size; have := hb6.size; omega) (.cells #[.int .i64 y0, .int .i64 y1, .string y2, .slice a5 l5 m5, .slice a6 l6 m6] 27)
      clear hL hp2 hconv2
      go_wp2_with fail
      refine (L3.num_any 3 _).mono ?_
      rintro e' w8 ⟨rfl, rfl⟩
      go_wp2_with fail
      refine (L3.num_any 3 _).mono ?_
      rintro e' w8 ⟨rfl, rfl⟩
      go_wp2_with fail
      refine (awake_any _).mono ?_
      rintro e' w9 ⟨rfl, hb9⟩
      go_wp2_with fail
      go_ret
      exact ⟨rfl, hb7.trans (hb9.mono hb7.size)⟩
    · have e1 := escape_ok n HN1.out hs
      rw [e1] at hp
      clear e1
      have hs2 : (n : Int) ≤ 55295 ∨ (57344 : Int) ≤ (n : Int) := by omega
      clear hs
      go_upto_region 6 with fail
      refine hp.mono ?_
      intro e' w3 hL
      obtain ⟨hb3, x0, x1, x2, a3, l3, m3, a4, l4, m4, c, rfl, rfl, hn3⟩ := parse_forms hL
      have hb4 := (hbx.trans ((hb2.trans (hb3.mono hb2.size)).mono hbx.size)).alloc (by have := hbx.size; have := hb2.size; have := hb3.size; omega) (.cells #[.int .i64 x0, .int .i64 x1, .string x2, .slice a3 l3 m3, .slice a4 l4 m4] 27)
      obtain ⟨t0, -, t2, -, -⟩ := node_cells hn3
      obtain rfl : x0 = 5 := by injection t0
      have hx2 : x2 = bS ([97] ++ U8.putL (n : Int) ++ [98]) := by injection t2
      have hcat : ((ByteArray.mk #[97] ++ U8.putB (n : Int)) ++ ByteArray.mk #[98]) = x2 := by
        rw [hx2]
        apply Kit.bytes_ext
        rw [cat_bS (cat_bS (a := ByteArray.mk #[97]) (l := [97]) rfl (show (U8.putB (n : Int)).data.toList = U8.putL (n : Int) from rfl)) (b := ByteArray.mk #[98]) (m := [98]) rfl]
        rfl
      obtain ⟨w4, hw4⟩ : ∃ w4, w3.alloc (.cells #[.int .i64 5, .int .i64 x1, .string x2, .slice a3 l3 m3, .slice a4 l4 m4] 27) = w4 := ⟨_, rfl⟩
      obtain ⟨Gn, hGn⟩ : ∃ Gn, w3.heap.size = Gn := ⟨_, rfl⟩
      have hbk : w4.heap[Gn]? = some (.cells #[.int .i64 5, .int .i64 x1, .string x2, .slice a3 l3 m3, .slice a4 l4 m4] 27 (0, 0)) := by rw [← hw4, ← hGn]; exact fresh_block _ _ _
      have hgl : Gn < w4.heap.size := (Array.getElem?_eq_some_iff.1 hbk).1
      have u0 : w4.drew.cell? ⟨Gn, 0, none⟩ = some (.int .i64 5) := by show w4.cell? _ = _; rw [Lib.cell_of_heap hbk]; rfl
      have u2 : w4.drew.cell? ⟨Gn, 2, none⟩ = some (.string x2) := by show w4.cell? _ = _; rw [Lib.cell_of_heap hbk]; rfl
      rw [hw4] at hb4
      have HW4 := Lib.hid hw4
      have heq : ((ByteArray.mk #[97] ++ U8.putB (n : Int) ++ ByteArray.mk #[98]).toList == x2.toList) = true := by rw [hcat]; simp
      have heq2 : (x2.toList == (ByteArray.mk #[97] ++ U8.putB (n : Int) ++ ByteArray.mk #[98]).toList) = true := by rw [hcat]; simp
      have hps : ((U8.putB (n : Int)).size : Int) ≤ 4 := by rw [Lib.size_eq]; exact Int.ofNat_le.2 (putL_le _)
      have hpn : (U8.putB (n : Int)).size ≤ 4 := by omega
      have hc1 : ¬ 9223372036854775807 < 1 + (U8.putB (n : Int)).size := by omega
      have hc2 : ¬ 9223372036854775807 < 1 + (U8.putB (n : Int)).size + 1 := by omega
      clear hpn
      clear hL hp hconv hn3 hw4 hbk hcat hx2 t0 t2
      rcases hs2 with g1 | g1
      all_goals
        go_wp2_with fail
        rw [HW4.out]
        (try rw [hGn])
        clear g1 hnb hn xl xh HN1
        refine wp_region_any (by kernel_rfl) ?_
        try (change wpAny _ _ _ _ _ _ _ (World.drew _))
        refine wpAny_take (i := 0) (v := ?_) rfl (by kernel_rfl) (by kernel_rfl) (by kernel_rfl) (fun _ _ _ h => h) (Or.inl ⟨by rfl, ?_⟩) ?_
        rotate_left 1
        · (intro w; go_simp) <;> with_reducible rfl
        refine wpAny_ready (rs := [1]) (by kernel_rfl) (by simp) ?_
        refine AllReady.cons rfl (fun K hK => ?_) AllReady.nil
        go_simp
        go_wp2_with fail
        refine (L3.num_any 0 _).mono ?_
        rintro e7 w7 ⟨rfl, rfl⟩
        go_wp2_with fail
        refine wpAny_take (i := 2) (v := ?_) rfl (by kernel_rfl) (by kernel_rfl) (by kernel_rfl) (fun _ _ _ h => h) (Or.inl ⟨by rfl, ?_⟩) ?_
        rotate_left 1
        · (intro w; go_simp) <;> with_reducible rfl
        refine wpAny_take (i := 3) (v := ?_) rfl (by kernel_rfl) (by kernel_rfl) (by kernel_rfl) (fun _ _ _ h => h) (Or.inl ⟨by rfl, ?_⟩) ?_
        rotate_left 1
        · (intro w; go_simp) <;> with_reducible rfl
        refine wpAny_take (i := 4) (v := ?_) rfl (by kernel_rfl) (by kernel_rfl) (by kernel_rfl) (fun _ _ _ h => h) (Or.inl ⟨by rfl, ?_⟩) ?_
        rotate_left 1
        · (intro w; go_simp) <;> with_reducible rfl
        refine wpAny_ready (rs := [5]) (by kernel_rfl) (by simp) ?_
        refine AllReady.cons rfl (fun K hK => ?_) AllReady.nil
        go_simp
        refine hK _ _ ?_
        clear hK K
        refine wpAny_take (i := 6) (v := ?_) rfl (by kernel_rfl) (by kernel_rfl) (by kernel_rfl) (fun _ _ _ h => h) (Or.inl ⟨by rfl, ?_⟩) ?_
        rotate_left 1
        · (intro w; go_simp) <;> with_reducible rfl
        refine wpAny_take (i := 7) (v := ?_) rfl (by kernel_rfl) (by kernel_rfl) (by kernel_rfl) (fun _ _ _ h => h) (Or.inl ⟨by rfl, ?_⟩) ?_
        rotate_left 1
        · (intro w; go_simp) <;> with_reducible rfl
        refine wpAny_take (i := 8) (v := ?_) rfl (by kernel_rfl) (by kernel_rfl) (by kernel_rfl) (fun _ _ _ h => h) (Or.inl ⟨by rfl, ?_⟩) ?_
        rotate_left 1
        · (intro w; go_simp) <;> with_reducible rfl
        refine wpAny_take (i := 9) (v := ?_) rfl (by kernel_rfl) (by kernel_rfl) (by kernel_rfl) (fun _ _ _ h => h) (Or.inl ⟨by rfl, ?_⟩) ?_
        rotate_left 1
        · (intro w; go_simp) <;> with_reducible rfl
        refine wpAny_take (i := 11) (v := ?_) rfl (by kernel_rfl) (by kernel_rfl) (by kernel_rfl) (fun _ _ _ h => h) (Or.inl ⟨by rfl, ?_⟩) ?_
        rotate_left 1
        · (intro w; go_simp) <;> with_reducible rfl
        refine wpAny_ready (rs := [10, 12]) (by kernel_rfl) (by simp) ?_
        refine AllReady.cons rfl (fun K hK => ?_) (AllReady.cons rfl (fun K hK => ?_) AllReady.nil)
        · go_simp
          refine hK _ _ ?_
          clear hK K
          refine wpAny_ready (rs := [12]) (by kernel_rfl) (by simp) ?_
          refine AllReady.cons rfl (fun K hK => ?_) AllReady.nil
          go_simp
          go_wp2_with fail
          refine (U8.ref_put (n : Int) _).mono ?_
          rintro e7 w7 ⟨rfl, hb7⟩
          have u3 : w7.cell? ⟨Gn, 2, none⟩ = some (.string x2) := (hb7.cell (p := ⟨Gn, 2, none⟩) hgl).trans u2
          go_wp2_with fail
          refine wpAny_take (i := 13) (v := ?_) rfl (by kernel_rfl) (by kernel_rfl) (by kernel_rfl) (fun _ _ _ h => h) (Or.inl ⟨by rfl, ?_⟩) ?_
          rotate_left 1
          · (intro w; go_simp) <;> with_reducible rfl
          refine wpAny_take (i := 14) (v := ?_) rfl (by kernel_rfl) (by kernel_rfl) (by kernel_rfl) (fun _ _ _ h => h) (Or.inl ⟨by rfl, ?_⟩) ?_
          rotate_left 1
          · (intro w; go_simp) <;> with_reducible rfl
          refine wpAny_take (i := 15) (v := ?_) rfl (by kernel_rfl) (by kernel_rfl) (by kernel_rfl) (fun _ _ _ h => h) (Or.inl ⟨by rfl, ?_⟩) ?_
          rotate_left 1
          · (intro w; go_simp) <;> with_reducible rfl
          refine wpAny_take (i := 16) (v := ?_) rfl (by kernel_rfl) (by kernel_rfl) (by kernel_rfl) (fun _ _ _ h => h) (Or.inl ⟨by rfl, ?_⟩) ?_
          rotate_left 1
          · (intro w; go_simp) <;> with_reducible rfl
          refine wpAny_take (i := 17) (v := ?_) rfl (by kernel_rfl) (by kernel_rfl) (by kernel_rfl) (fun _ _ _ h => h) (Or.inl ⟨by rfl, ?_⟩) ?_
          rotate_left 1
          · (intro w; go_simp) <;> with_reducible rfl
          refine wpAny_ready (rs := [18]) (by kernel_rfl) (by simp) ?_
          refine AllReady.cons rfl (fun K hK => ?_) AllReady.nil
          go_simp
          go_wp2_with fail
          refine (awake_any _).mono ?_
          rintro e8 w8 ⟨rfl, hb8⟩
          go_wp2_with fail
          refine wpAny_take (i := 19) (v := ?_) rfl (by kernel_rfl) (by kernel_rfl) (by kernel_rfl) (fun _ _ _ h => h) (Or.inl ⟨by rfl, ?_⟩) ?_
          rotate_left 1
          · (intro w; go_simp) <;> with_reducible rfl
          refine wpAny_take (i := 20) (v := ?_) rfl (by kernel_rfl) (by kernel_rfl) (by kernel_rfl) (fun _ _ _ h => h) (Or.inl ⟨by rfl, ?_⟩) ?_
          rotate_left 1
          · (intro w; go_simp) <;> with_reducible rfl
          refine wpAny_done (by kernel_rfl) ?_ _
          go_wp2_with fail
          go_ret
          exact ⟨rfl, hb4.trans ((Below.trans (show Below w4.heap.size w4 w7 from ((Below.refl _ w4).drew).trans hb7) (hb8.mono hb7.size)).mono hb4.size)⟩
        · go_simp
          go_wp2_with fail
          refine (U8.ref_put (n : Int) _).mono ?_
          rintro e7 w7 ⟨rfl, hb7⟩
          have u3 : w7.cell? ⟨Gn, 2, none⟩ = some (.string x2) := (hb7.cell (p := ⟨Gn, 2, none⟩) hgl).trans u2
          go_wp2_with fail
          refine wpAny_take (i := 13) (v := ?_) rfl (by kernel_rfl) (by kernel_rfl) (by kernel_rfl) (fun _ _ _ h => h) (Or.inl ⟨by rfl, ?_⟩) ?_
          rotate_left 1
          · (intro w; go_simp) <;> with_reducible rfl
          refine wpAny_take (i := 14) (v := ?_) rfl (by kernel_rfl) (by kernel_rfl) (by kernel_rfl) (fun _ _ _ h => h) (Or.inl ⟨by rfl, ?_⟩) ?_
          rotate_left 1
          · (intro w; go_simp) <;> with_reducible rfl
          refine wpAny_ready (rs := [10]) (by kernel_rfl) (by simp) ?_
          refine AllReady.cons rfl (fun K hK => ?_) AllReady.nil
          go_simp
          refine hK _ _ ?_
          clear hK K
          refine wpAny_take (i := 15) (v := ?_) rfl (by kernel_rfl) (by kernel_rfl) (by kernel_rfl) (fun _ _ _ h => h) (Or.inl ⟨by rfl, ?_⟩) ?_
          rotate_left 1
          · (intro w; go_simp) <;> with_reducible rfl
          refine wpAny_take (i := 16) (v := ?_) rfl (by kernel_rfl) (by kernel_rfl) (by kernel_rfl) (fun _ _ _ h => h) (Or.inl ⟨by rfl, ?_⟩) ?_
          rotate_left 1
          · (intro w; go_simp) <;> with_reducible rfl
          refine wpAny_take (i := 17) (v := ?_) rfl (by kernel_rfl) (by kernel_rfl) (by kernel_rfl) (fun _ _ _ h => h) (Or.inl ⟨by rfl, ?_⟩) ?_
          rotate_left 1
          · (intro w; go_simp) <;> with_reducible rfl
          refine wpAny_ready (rs := [18]) (by kernel_rfl) (by simp) ?_
          refine AllReady.cons rfl (fun K hK => ?_) AllReady.nil
          go_simp
          go_wp2_with fail
          refine (awake_any _).mono ?_
          rintro e8 w8 ⟨rfl, hb8⟩
          go_wp2_with fail
          refine wpAny_take (i := 19) (v := ?_) rfl (by kernel_rfl) (by kernel_rfl) (by kernel_rfl) (fun _ _ _ h => h) (Or.inl ⟨by rfl, ?_⟩) ?_
          rotate_left 1
          · (intro w; go_simp) <;> with_reducible rfl
          refine wpAny_take (i := 20) (v := ?_) rfl (by kernel_rfl) (by kernel_rfl) (by kernel_rfl) (fun _ _ _ h => h) (Or.inl ⟨by rfl, ?_⟩) ?_
          rotate_left 1
          · (intro w; go_simp) <;> with_reducible rfl
          refine wpAny_done (by kernel_rfl) ?_ _
          go_wp2_with fail
          go_ret
          exact ⟨rfl, hb4.trans ((Below.trans (show Below w4.heap.size w4 w7 from ((Below.refl _ w4).drew).trans hb7) (hb8.mono hb7.size)).mono hb4.size)⟩
end Go.Proofs.Ytpnffmimpkimeaa.J7
