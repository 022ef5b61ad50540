/-
  The laws' quote returns each byte of its text by a sign of equality and its two digits. Condition: the text has at most 2^30 bytes.
-/
import Derived.Test.YtlckhhdkjjfijaaDoorWdRBytes
import Derived.Test.YtlckhhdkjjfijaaDoorBuf2
import Derived.IntWalk
namespace Go.Proofs.YtlckhhdkjjfijaaDoor.Wd
open Go Go.RowKit Go.Joins Kit

def q2 (c : UInt8) : List UInt8 := [61, Q4.dg (c.toNat / 16), Q4.dm (c.toNat % 16)]
def quoL (l : List UInt8) : List UInt8 := l.flatMap q2
theorem quo_nil : quoL [] = [] := rfl
theorem quo_cons (c : UInt8) (r : List UInt8) : quoL (c :: r) = q2 c ++ quoL r := by simp [quoL]
theorem quo_app (a b : List UInt8) : quoL (a ++ b) = quoL a ++ quoL b := by simp [quoL]
theorem quo_length : ∀ l : List UInt8, (quoL l).length = 3 * l.length
  | [] => rfl
  | c :: r => by rw [quo_cons, List.length_append, quo_length r, List.length_cons]; simp [q2]; omega
theorem plain_quo : ∀ l : List UInt8, Q4.plainL (quoL l) = l
  | [] => Q4.plain_nil
  | c :: r => by
    rw [quo_cons]
    show Q4.plainL (61 :: Q4.dg (c.toNat / 16) :: Q4.dm (c.toNat % 16) :: quoL r) = _
    have := c.toNat_lt
    rw [Q4.hex_byte (Q4.hx_dg _ (by omega)) (Q4.hx_dm _ (by omega)), plain_quo r]
theorem dg_vis : ∀ k, k < 16 → visB (Q4.dg k) = true ∧ Q4.dg k ≠ 63 ∧ Q4.dg k ≠ 95 := by decide +kernel
theorem dm_vis : ∀ k, k < 16 → visB (Q4.dm k) = true ∧ Q4.dm k ≠ 63 ∧ Q4.dm k ≠ 95 := by decide +kernel
theorem quo_vis : ∀ (l : List UInt8), ∀ c ∈ quoL l, visB c = true ∧ c ≠ 63 ∧ c ≠ 95
  | [], c, h => by cases h
  | d :: r, c, h => by
    rw [quo_cons, List.mem_append] at h
    have := d.toNat_lt
    rcases h with h | h
    · unfold q2 at h
      simp only [List.mem_cons, List.not_mem_nil, or_false] at h
      rcases h with rfl | rfl | rfl
      · decide
      · exact dg_vis _ (by omega)
      · exact dm_vis _ (by omega)
    · exact quo_vis r c h
theorem quo_take (s : ByteArray) (k : Nat) (h : k < s.size) : quoL (s.data.toList.take (k + 1)) = quoL (s.data.toList.take k) ++ [61, Q4.dg ((s[k].toNat : Int) / 16).toNat, Q4.dm ((s[k].toNat : Int) % 16).toNat] := by
  have hl : k < s.data.toList.length := by rw [← Lib.size_eq]; exact h
  rw [List.take_succ_eq_append_getElem hl, quo_app, byte_get s k h, quo_cons, quo_nil, List.append_nil, show ((s[k].toNat : Int) / 16).toNat = s[k].toNat / 16 by omega, show ((s[k].toNat : Int) % 16).toNat = s[k].toNat % 16 by omega]
  rfl
theorem dig_get (k : Nat) (h : k < (ByteArray.mk #[48, 49, 50, 51, 52, 53, 54, 55, 56, 57, 65, 66, 67, 68, 69, 70]).size) : (ByteArray.mk #[48, 49, 50, 51, 52, 53, 54, 55, 56, 57, 65, 66, 67, 68, 69, 70])[k]'h = Q4.dg k := by
  have hk : k < 16 := h
  rw [← byte_get]
  unfold Q4.dg
  rw [List.getD_eq_getElem?_getD, List.getElem?_eq_getElem (show k < Q4.digL.length from hk), Option.getD_some]
  rfl
theorem dim_get (k : Nat) (h : k < (ByteArray.mk #[48, 49, 50, 51, 52, 53, 54, 55, 56, 57, 97, 98, 99, 100, 101, 102]).size) : (ByteArray.mk #[48, 49, 50, 51, 52, 53, 54, 55, 56, 57, 97, 98, 99, 100, 101, 102])[k]'h = Q4.dm k := by
  have hk : k < 16 := h
  rw [← byte_get]
  unfold Q4.dm
  rw [List.getD_eq_getElem?_getD, List.getElem?_eq_getElem (show k < Q4.dimL.length from hk), Option.getD_some]
  rfl

set_option maxHeartbeats 1000000 in
set_option maxRecDepth 100000 in
theorem quote_any (s : ByteArray) (w : World) (hs : s.size ≤ 1099511627) :
    Calls Tryd.prog 13 #[.string s] w fun e w' => e = .returned (.string ⟨(quoL s.data.toList).toArray⟩) ∧ Below w.heap.size w w' := by
  have hB0 : Buf w (.slice none 0 0) (quoL (s.data.toList.take 0)) w := by
    rw [List.take_zero]; exact Buf.empty (Below.refl _ w)
  go_enter Tryd.func13, Tryd.ntmps13
  go_wp2_with fail
  go_loopw [3, 4] (fun v i wr => ∃ k : Nat, k ≤ s.size ∧ i = .int .i64 k ∧ Buf w v (quoL (s.data.toList.take k)) wr) (fun _ i _ => s.size - (intOf i).toNat)
  case atStart => exact ⟨0, by omega, rfl, hB0⟩
  case round =>
    clear hB0
    obtain ⟨k, hk, rfl, hB⟩ := hrel
    by_cases hlt : k < s.size
    · have g1 : (k : Int) < s.size := by omega
      have hc8 := s[k].toNat_lt
      have i1 : 0 ≤ (s[k].toNat : Int) / 16 := by omega
      have i2 : (s[k].toNat : Int) / 16 < 16 := by omega
      have i3 : 0 ≤ (s[k].toNat : Int) % 16 := by omega
      have i4 : (s[k].toNat : Int) % 16 < 16 := by omega
      have eq : IntKind.u8.wrap ((s[k].toNat : Int) / 16) = (s[k].toNat : Int) / 16 := IntWalk.u8_in _ (by omega)
      have er : (s[k].toNat : Int).tmod 16 = (s[k].toNat : Int) % 16 := Int.tmod_eq_emod_of_nonneg (by omega)
      have er' : IntKind.u8.wrap ((s[k].toNat : Int) % 16) = (s[k].toNat : Int) % 16 := IntWalk.u8_in _ (by omega)
      have hn1 := Lib.hid (quo_take s k hlt)
      have l1 : (quoL (s.data.toList.take k)).length ≤ 3 * s.size := by rw [quo_length, List.length_take]; omega
      generalize quoL (s.data.toList.take k) = L1 at hB hn1 l1
      go_wp2_with fail
      refine wp_region_any (by kernel_rfl) ?_
      try (change wpAny _ _ _ _ _ _ _ (World.drew _))
      refine wpAny_take (i := 0) (v := ?_) rfl (by kernel_rfl) (by kernel_rfl) (by kernel_rfl) (fun _ _ _ h => h) (Or.inl ⟨by rfl, ?_⟩) ?_
      rotate_left 1
      · (intro w; go_simp) <;> with_reducible rfl
      refine wpAny_take (i := 1) (v := ?_) rfl (by kernel_rfl) (by kernel_rfl) (by kernel_rfl) (fun _ _ _ h => h) (Or.inl ⟨by rfl, ?_⟩) ?_
      rotate_left 1
      · (intro w; go_simp) <;> with_reducible rfl
      refine wpAny_take (i := 2) (v := ?_) rfl (by kernel_rfl) (by kernel_rfl) (by kernel_rfl) (fun _ _ _ h => h) (Or.inl ⟨by rfl, ?_⟩) ?_
      rotate_left 1
      · (intro w; go_simp) <;> with_reducible rfl
      refine wpAny_take (i := 3) (v := ?_) rfl (by kernel_rfl) (by kernel_rfl) (by kernel_rfl) (fun _ _ _ h => h) (Or.inl ⟨by rfl, ?_⟩) ?_
      rotate_left 1
      · (intro w; go_simp) <;> with_reducible rfl
      refine wpAny_take (i := 4) (v := ?_) rfl (by kernel_rfl) (by kernel_rfl) (by kernel_rfl) (fun _ _ _ h => h) (Or.inl ⟨by rfl, ?_⟩) ?_
      rotate_left 1
      · (intro w; go_simp) <;> with_reducible rfl
      refine wpAny_take (i := 5) (v := ?_) rfl (by kernel_rfl) (by kernel_rfl) (by kernel_rfl) (fun _ _ _ h => h) (Or.inl ⟨by rfl, ?_⟩) ?_
      rotate_left 1
      · (intro w; go_simp) <;> with_reducible rfl
      refine wpAny_take (i := 6) (v := ?_) rfl (by kernel_rfl) (by kernel_rfl) (by kernel_rfl) (fun _ _ _ h => h) (Or.inl ⟨by rfl, ?_⟩) ?_
      rotate_left 1
      · (intro w; go_simp) <;> with_reducible rfl
      refine wpAny_take (i := 7) (v := ?_) rfl (by kernel_rfl) (by kernel_rfl) (by kernel_rfl) (fun _ _ _ h => h) (Or.inl ⟨by rfl, ?_⟩) ?_
      rotate_left 1
      · (intro w; go_simp) <;> with_reducible rfl
      refine wpAny_take (i := 8) (v := ?_) rfl (by kernel_rfl) (by kernel_rfl) (by kernel_rfl) (fun _ _ _ h => h) (Or.inl ⟨by rfl, ?_⟩) ?_
      rotate_left 1
      · (intro w; go_simp) <;> with_reducible rfl
      refine wpAny_take (i := 9) (v := ?_) rfl (by kernel_rfl) (by kernel_rfl) (by kernel_rfl) (fun _ _ _ h => h) (Or.inl ⟨by rfl, ?_⟩) ?_
      rotate_left 1
      · (intro w; go_simp) <;> with_reducible rfl
      refine wpAny_take (i := 10) (v := ?_) rfl (by kernel_rfl) (by kernel_rfl) (by kernel_rfl) (fun _ _ _ h => h) (Or.inl ⟨by rfl, ?_⟩) ?_
      rotate_left 1
      · (intro w; go_simp) <;> with_reducible rfl
      refine wpAny_ready (rs := [11]) (by kernel_rfl) (by simp) ?_
      refine AllReady.cons rfl (fun K hK => ?_) AllReady.nil
      go_simp
      refine hK _ _ ?_
      clear hK K
      refine wpAny_ready (rs := [12]) (by kernel_rfl) (by simp) ?_
      refine AllReady.cons rfl (fun K hK => ?_) AllReady.nil
      refine Buf.step rfl (.tmp 11) (.tmp 22) rfl w _ u3 L1 (hB.allocB _).drewB [61, Q4.dg ((s[k].toNat : Int) / 16).toNat, Q4.dm ((s[k].toNat : Int) % 16).toNat] 3 3 wr.heap.size _ (0, 0) rfl (by decide) ?cs1 (Kit.fresh_block wr _ _) (by first | rfl | simp [Act.eval, Act.put]) (by first | rfl | simp [Act.eval, Act.put]) ?len1 ?_
      case cs1 => rw [dig_get, dim_get]; rfl
      case len1 => omega
      intro g1 c1 w1 hB1 hg1 hat1 _
      rw [← hn1.out] at hB1
      refine hK _ _ ?_
      clear hK K hg1 hat1 hB
      refine wpAny_take (i := 13) (v := ?_) rfl (by kernel_rfl) (by kernel_rfl) (by kernel_rfl) (fun _ _ _ h => h) (Or.inl ⟨by rfl, ?_⟩) ?_
      rotate_left 1
      · (intro w; go_simp) <;> with_reducible rfl
      refine wpAny_done (by kernel_rfl) ?_ _
      go_wp2
      go_roundw
      case rel => exact ⟨k + 1, by omega, by go_num, hB1⟩
      case measure => simp [intOf]; omega
    · have gk : ¬ (k : Int) < (s.size : Int) := by omega
      rw [List.take_of_length_le (by rw [← Lib.size_eq]; omega)] at hB
      have hrun := hB.string
      have hb := hB.below
      clear hB
      go_wp2
      go_ret
      exact ⟨rfl, hb⟩
end Go.Proofs.YtlckhhdkjjfijaaDoor.Wd
