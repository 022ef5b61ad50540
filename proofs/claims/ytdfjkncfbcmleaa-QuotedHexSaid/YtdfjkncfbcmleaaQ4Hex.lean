/-
  The law QuotedHex returns true: each byte by its two digits, great or small, is that byte. Conditions: the bound of the library's search is some number.
-/
import Derived.Test.YtdfjkncfbcmleaaQ4Laws
import Derived.Test.YtdfjkncfbcmleaaBuf2
namespace Go.Proofs.Ytdfjkncfbcmleaa.Q4
open Go Go.RowKit Go.Joins Kit Srch

theorem dim_get (k : Nat) (h : k < (ByteArray.mk #[48, 49, 50, 51, 52, 53, 54, 55, 56, 57, 97, 98, 99, 100, 101, 102]).size) : (ByteArray.mk #[48, 49, 50, 51, 52, 53, 54, 55, 56, 57, 97, 98, 99, 100, 101, 102])[k]'h = dm k := by
  have hk : k < 16 := h
  rw [← byte_get]
  unfold dm
  rw [List.getD_eq_getElem?_getD, List.getElem?_eq_getElem (show k < dimL.length from hk), Option.getD_some]
  rfl
theorem take_snoc (t : ByteArray) (k : Nat) (h : k < t.size) : t.data.toList.take (k + 1) = t.data.toList.take k ++ [t[k]] := by
  have hl : k < t.data.toList.length := by rw [← Lib.size_eq]; exact h
  rw [List.take_succ_eq_append_getElem hl, byte_get t k h]
theorem hex_next (f : Nat → UInt8) (s : ByteArray) (k : Nat) (h : k < s.size) : hexL f (s.data.toList.take (k + 1)) = hexL f (s.data.toList.take k) ++ [61, f ((s[k].toNat : Int) / 16).toNat, f ((s[k].toNat : Int) % 16).toNat] := by
  rw [take_snoc s k h, hex_snoc, show ((s[k].toNat : Int) / 16).toNat = s[k].toNat / 16 by omega, show ((s[k].toNat : Int) % 16).toNat = s[k].toNat % 16 by omega]

set_option maxHeartbeats 1000000 in
set_option maxRecDepth 100000 in
theorem quotedHex_walk (s : ByteArray) (w : World) (hE : Env w) :
    Calls Try.prog 6 #[.string s] w fun e w' => e = .returned (.bool true) ∧ Below w.heap.size w w' := by
  by_cases h : 1000 < s.size
  · have g : (1000 : Int) < s.size := by omega
    go_enter Try.func6, Try.ntmps6
    go_wp2_with fail
    refine (awake_any w hE).mono ?_
    rintro e w1 ⟨rfl, hb1⟩
    go_wp2
    go_ret
    exact ⟨rfl, hb1⟩
  have g : (s.size : Int) ≤ 1000 := by omega
  have hT0 : Two w (.slice none 0 0) (hexL dg (s.data.toList.take 0)) (.slice none 0 0) (hexL dm (s.data.toList.take 0)) w := Two.empty (Below.refl _ _)
  have hlen : Hid (∀ (f : Nat → UInt8) (k : Nat), (hexL f (s.data.toList.take k)).length ≤ 3 * s.size) := by
    show ∀ f k, _
    intro f k
    rw [hex_length, List.length_take, ← Lib.size_eq]
    omega
  go_enter Try.func6, Try.ntmps6
  go_wp2_with fail
  go_loopw [3, 4, 5] (fun va vb i wr => ∃ k : Nat, k ≤ s.size ∧ i = .int .i64 k ∧ Two w va (hexL dg (s.data.toList.take k)) vb (hexL dm (s.data.toList.take k)) wr) (fun _ _ i _ => s.size - (intOf i).toNat)
  case atStart => exact ⟨0, by omega, rfl, hT0⟩
  case round =>
    clear hT0
    obtain ⟨k, hk, rfl, hT⟩ := hrel
    by_cases hlt : k < s.size
    · have g1 : (k : Int) < s.size := by omega
      have hc8 := s[k].toNat_lt
      have i1 : 0 ≤ (s[k].toNat : Int) / 16 := by omega
      have i2 : (s[k].toNat : Int) / 16 < 16 := by omega
      have i3 : 0 ≤ (s[k].toNat : Int) % 16 := by omega
      have i4 : (s[k].toNat : Int) % 16 < 16 := by omega
      have eq : IntKind.u8.wrap ((s[k].toNat : Int) / 16) = (s[k].toNat : Int) / 16 := IntWalk.u8_in _ (by omega)
      have er : (s[k].toNat : Int).tmod 16 = (s[k].toNat : Int) % 16 := Int.tmod_eq_emod_of_nonneg (by omega)
      have er' : IntKind.u8.wrap ((s[k].toNat : Int) % 16) = (s[k].toNat : Int) % 16 := IntWalk.u8_in _ (by omega)
      have hn1 := Lib.hid (hex_next dg s k hlt)
      have hn2 := Lib.hid (hex_next dm s k hlt)
      have l1 := hlen.out dg k
      have l2 := hlen.out dm k
      generalize hexL dg (s.data.toList.take k) = L1 at hT hn1 l1
      generalize hexL dm (s.data.toList.take k) = L2 at hT hn2 l2
      go_wp2_with fail
      refine wp_region_any (by kernel_rfl) ?_
      try (change wpAny _ _ _ _ _ _ _ (World.drew _))
      refine wpAny_take (i := 0) (v := ?_) rfl (by kernel_rfl) (by kernel_rfl) (by kernel_rfl) (fun _ _ _ h => h) (Or.inl ⟨by rfl, ?_⟩) ?_
      rotate_left 1
      · (intro w; go_simp) <;> with_reducible rfl
      refine wpAny_take (i := 1) (v := ?_) rfl (by kernel_rfl) (by kernel_rfl) (by kernel_rfl) (fun _ _ _ h => h) (Or.inl ⟨by rfl, ?_⟩) ?_
      rotate_left 1
      · (intro w; go_simp) <;> with_reducible rfl
      refine wpAny_take (i := 2) (v := ?_) rfl (by kernel_rfl) (by kernel_rfl) (by kernel_rfl) (fun _ _ _ h => h) (Or.inl ⟨by rfl, ?_⟩) ?_
      rotate_left 1
      · (intro w; go_simp) <;> with_reducible rfl
      refine wpAny_take (i := 3) (v := ?_) rfl (by kernel_rfl) (by kernel_rfl) (by kernel_rfl) (fun _ _ _ h => h) (Or.inl ⟨by rfl, ?_⟩) ?_
      rotate_left 1
      · (intro w; go_simp) <;> with_reducible rfl
      refine wpAny_take (i := 4) (v := ?_) rfl (by kernel_rfl) (by kernel_rfl) (by kernel_rfl) (fun _ _ _ h => h) (Or.inl ⟨by rfl, ?_⟩) ?_
      rotate_left 1
      · (intro w; go_simp) <;> with_reducible rfl
      refine wpAny_take (i := 5) (v := ?_) rfl (by kernel_rfl) (by kernel_rfl) (by kernel_rfl) (fun _ _ _ h => h) (Or.inl ⟨by rfl, ?_⟩) ?_
      rotate_left 1
      · (intro w; go_simp) <;> with_reducible rfl
      refine wpAny_take (i := 6) (v := ?_) rfl (by kernel_rfl) (by kernel_rfl) (by kernel_rfl) (fun _ _ _ h => h) (Or.inl ⟨by rfl, ?_⟩) ?_
      rotate_left 1
      · (intro w; go_simp) <;> with_reducible rfl
      refine wpAny_take (i := 7) (v := ?_) rfl (by kernel_rfl) (by kernel_rfl) (by kernel_rfl) (fun _ _ _ h => h) (Or.inl ⟨by rfl, ?_⟩) ?_
      rotate_left 1
      · (intro w; go_simp) <;> with_reducible rfl
      refine wpAny_take (i := 8) (v := ?_) rfl (by kernel_rfl) (by kernel_rfl) (by kernel_rfl) (fun _ _ _ h => h) (Or.inl ⟨by rfl, ?_⟩) ?_
      rotate_left 1
      · (intro w; go_simp) <;> with_reducible rfl
      refine wpAny_take (i := 9) (v := ?_) rfl (by kernel_rfl) (by kernel_rfl) (by kernel_rfl) (fun _ _ _ h => h) (Or.inl ⟨by rfl, ?_⟩) ?_
      rotate_left 1
      · (intro w; go_simp) <;> with_reducible rfl
      refine wpAny_take (i := 10) (v := ?_) rfl (by kernel_rfl) (by kernel_rfl) (by kernel_rfl) (fun _ _ _ h => h) (Or.inl ⟨by rfl, ?_⟩) ?_
      rotate_left 1
      · (intro w; go_simp) <;> with_reducible rfl
      refine wpAny_ready (rs := [11]) (by kernel_rfl) (by simp) ?_
      refine AllReady.cons rfl (fun K hK => ?_) AllReady.nil
      go_simp
      refine hK _ _ ?_
      clear hK K
      refine wpAny_ready (rs := [12]) (by kernel_rfl) (by simp) ?_
      refine AllReady.cons rfl (fun K hK => ?_) AllReady.nil
      refine Buf.step rfl (.tmp 16) (.tmp 27) rfl w _ u3 L1 (hT.fst.allocB _).drewB [61, dg ((s[k].toNat : Int) / 16).toNat, dg ((s[k].toNat : Int) % 16).toNat] 3 3 wr.heap.size _ (0, 0) rfl (by decide) ?cs1 (Kit.fresh_block wr _ _) (by first | rfl | simp [Act.eval, Act.put]) (by first | rfl | simp [Act.eval, Act.put]) ?len1 ?_
      case cs1 => rw [dig_get, dig_get]; rfl
      case len1 => omega
      intro g1 c1 w1 hB1 hg1 hat1 _
      have hT1 := (hT.alloc _).drew.grow hB1 hg1 hat1
      rw [← hn1.out] at hT1
      refine hK _ _ ?_
      clear hK K hB1 hg1 hat1 hT
      refine wpAny_take (i := 13) (v := ?_) rfl (by kernel_rfl) (by kernel_rfl) (by kernel_rfl) (fun _ _ _ h => h) (Or.inl ⟨by rfl, ?_⟩) ?_
      rotate_left 1
      · (intro w; go_simp) <;> with_reducible rfl
      refine wpAny_done (by kernel_rfl) ?_ _
      go_wp2_with fail
      refine wp_region_any (by kernel_rfl) ?_
      try (change wpAny _ _ _ _ _ _ _ (World.drew _))
      refine wpAny_take (i := 0) (v := ?_) rfl (by kernel_rfl) (by kernel_rfl) (by kernel_rfl) (fun _ _ _ h => h) (Or.inl ⟨by rfl, ?_⟩) ?_
      rotate_left 1
      · (intro w; go_simp) <;> with_reducible rfl
      refine wpAny_take (i := 1) (v := ?_) rfl (by kernel_rfl) (by kernel_rfl) (by kernel_rfl) (fun _ _ _ h => h) (Or.inl ⟨by rfl, ?_⟩) ?_
      rotate_left 1
      · (intro w; go_simp) <;> with_reducible rfl
      refine wpAny_take (i := 2) (v := ?_) rfl (by kernel_rfl) (by kernel_rfl) (by kernel_rfl) (fun _ _ _ h => h) (Or.inl ⟨by rfl, ?_⟩) ?_
      rotate_left 1
      · (intro w; go_simp) <;> with_reducible rfl
      refine wpAny_take (i := 3) (v := ?_) rfl (by kernel_rfl) (by kernel_rfl) (by kernel_rfl) (fun _ _ _ h => h) (Or.inl ⟨by rfl, ?_⟩) ?_
      rotate_left 1
      · (intro w; go_simp) <;> with_reducible rfl
      refine wpAny_take (i := 4) (v := ?_) rfl (by kernel_rfl) (by kernel_rfl) (by kernel_rfl) (fun _ _ _ h => h) (Or.inl ⟨by rfl, ?_⟩) ?_
      rotate_left 1
      · (intro w; go_simp) <;> with_reducible rfl
      refine wpAny_take (i := 5) (v := ?_) rfl (by kernel_rfl) (by kernel_rfl) (by kernel_rfl) (fun _ _ _ h => h) (Or.inl ⟨by rfl, ?_⟩) ?_
      rotate_left 1
      · (intro w; go_simp) <;> with_reducible rfl
      refine wpAny_take (i := 6) (v := ?_) rfl (by kernel_rfl) (by kernel_rfl) (by kernel_rfl) (fun _ _ _ h => h) (Or.inl ⟨by rfl, ?_⟩) ?_
      rotate_left 1
      · (intro w; go_simp) <;> with_reducible rfl
      refine wpAny_take (i := 7) (v := ?_) rfl (by kernel_rfl) (by kernel_rfl) (by kernel_rfl) (fun _ _ _ h => h) (Or.inl ⟨by rfl, ?_⟩) ?_
      rotate_left 1
      · (intro w; go_simp) <;> with_reducible rfl
      refine wpAny_take (i := 8) (v := ?_) rfl (by kernel_rfl) (by kernel_rfl) (by kernel_rfl) (fun _ _ _ h => h) (Or.inl ⟨by rfl, ?_⟩) ?_
      rotate_left 1
      · (intro w; go_simp) <;> with_reducible rfl
      refine wpAny_take (i := 9) (v := ?_) rfl (by kernel_rfl) (by kernel_rfl) (by kernel_rfl) (fun _ _ _ h => h) (Or.inl ⟨by rfl, ?_⟩) ?_
      rotate_left 1
      · (intro w; go_simp) <;> with_reducible rfl
      refine wpAny_take (i := 10) (v := ?_) rfl (by kernel_rfl) (by kernel_rfl) (by kernel_rfl) (fun _ _ _ h => h) (Or.inl ⟨by rfl, ?_⟩) ?_
      rotate_left 1
      · (intro w; go_simp) <;> with_reducible rfl
      refine wpAny_ready (rs := [11]) (by kernel_rfl) (by simp) ?_
      refine AllReady.cons rfl (fun K hK => ?_) AllReady.nil
      go_simp
      refine hK _ _ ?_
      clear hK K
      refine wpAny_ready (rs := [12]) (by kernel_rfl) (by simp) ?_
      refine AllReady.cons rfl (fun K hK => ?_) AllReady.nil
      refine Buf.step rfl (.tmp 29) (.tmp 40) rfl w _ u4 L2 (hT1.swap.fst.allocB _).drewB [61, dm ((s[k].toNat : Int) / 16).toNat, dm ((s[k].toNat : Int) % 16).toNat] 3 3 w1.heap.size _ (0, 0) rfl (by decide) ?cs2 (Kit.fresh_block w1 _ _) (by first | rfl | simp [Act.eval, Act.put]) (by first | rfl | simp [Act.eval, Act.put]) ?len2 ?_
      case cs2 => rw [dim_get, dim_get]; rfl
      case len2 => omega
      intro g2 c2 w2 hB2 hg2 hat2 _
      have hT2 := ((hT1.swap.alloc _).drew.grow hB2 hg2 hat2).swap
      rw [← hn2.out] at hT2
      refine hK _ _ ?_
      clear hK K hB2 hg2 hat2 hT1
      refine wpAny_take (i := 13) (v := ?_) rfl (by kernel_rfl) (by kernel_rfl) (by kernel_rfl) (fun _ _ _ h => h) (Or.inl ⟨by rfl, ?_⟩) ?_
      rotate_left 1
      · (intro w; go_simp) <;> with_reducible rfl
      refine wpAny_done (by kernel_rfl) ?_ _
      go_wp2
      go_roundw
      case rel => exact ⟨k + 1, by omega, by go_num, hT2⟩
      case measure => simp [intOf]; omega
    · have he : s.data.toList.take k = s.data.toList := List.take_of_length_le (by rw [← Lib.size_eq]; omega)
      have g1 : ¬ (k : Int) < s.size := by omega
      rw [he] at hT
      have z1 := hlen.out dg k
      have z2 := hlen.out dm k
      rw [he] at z1 z2
      obtain ⟨t1, h1⟩ : ∃ t : ByteArray, (⟨(hexL dg s.data.toList).toArray⟩ : ByteArray) = t := ⟨_, rfl⟩
      obtain ⟨t2, h2⟩ : ∃ t : ByteArray, (⟨(hexL dm s.data.toList).toArray⟩ : ByteArray) = t := ⟨_, rfl⟩
      have e1 := Lib.hid (show plainL t1.data.toList = s.data.toList by rw [← h1]; simpa using plain_hexes dg hx_dg s.data.toList)
      have e2 := Lib.hid (show plainL t2.data.toList = s.data.toList by rw [← h2]; simpa using plain_hexes dm hx_dm s.data.toList)
      have q1 : t1.size ≤ 3000 := by rw [← h1]; show (hexL dg s.data.toList).toArray.size ≤ _; simp; omega
      have q2 : t2.size ≤ 3000 := by rw [← h2]; show (hexL dm s.data.toList).toArray.size ≤ _; simp; omega
      have hrun := hT.fst.string
      have hb := hT.fst.below
      have H2 := Lib.hid h2
      rw [h1] at hrun
      clear he z1 z2 h1 h2 hlen
      go_wp2_with fail
      refine (dec_to e1.out wr (by omega) (hE.next hb)).mono ?_
      rintro e w3 ⟨rfl, hb3⟩
      have hrun3 := (hT.snd.next hb3).string
      rw [H2.out] at hrun3
      have hbb := hb.trans (hb3.mono hb.size)
      clear hrun
      go_wp2_with fail
      refine (dec_to e2.out w3 (by omega) (hE.next hbb)).mono ?_
      rintro e w4 ⟨rfl, hb4⟩
      replace hb4 := hbb.trans (hb4.mono hbb.size)
      clear hrun3
      go_wp2_with fail
      refine (awake_tail w w4 hE hb4).mono ?_
      rintro e w5 ⟨rfl, hb5⟩
      go_wp2
      go_ret
      exact ⟨rfl, hb5⟩
end Go.Proofs.Ytdfjkncfbcmleaa.Q4
