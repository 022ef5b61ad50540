/-
  utf7.writePoints writes the code points of units one by one. Conditions: the units have at most 10^6 bytes, the Builder at most 2^40.
-/
import Derived.Test.YtcakcpnmbclieaaDoorU7Put
import Derived.Test.YtcakcpnmbclieaaDoorU8Put
import Derived.RegionTactic
namespace Go.Proofs.YtcakcpnmbclieaaDoor.U7C
open Go Go.RowKit Go.Joins Kit
open U7 (ptU)
open U8 (putL putB)
open Bld (BSet Kept)

/-- Nothing is kept beside. -/
def S0 : Nat → Prop := fun _ => False
theorem two_at (s : ByteArray) (k : Nat) (h : k + 1 < s.size) : s.data.toList.drop k = s[k] :: s[k + 1] :: s.data.toList.drop (k + 2) := by
  have h1 : k + 1 < s.data.toList.length := by rw [← Lib.size_eq]; exact h
  rw [List.drop_eq_getElem_cons (by omega), List.drop_eq_getElem_cons h1, byte_get s k (by omega), byte_get s (k + 1) h]
theorem putB_data (r : Int) : (putB r).data.toList = putL r := rfl
theorem putB_le (r : Int) : (putB r).size ≤ 4 := by
  rw [putB, Lib.size_mk, U8.putL_length]
  exact U8.sizeN_le r
theorem at_len {l0 : List UInt8} {s : ByteArray} {out x : List UInt8} (h : out ++ x = l0 ++ ptU 0 s.data.toList) : out.length ≤ l0.length + 4 * s.size := by
  have h1 := congrArg List.length h
  have h2 := U7.ptU_len s.data.toList 0
  rw [List.length_append, List.length_append] at h1
  rw [Lib.size_eq]
  omega

set_option maxHeartbeats 2000000 in
set_option maxRecDepth 100000 in
theorem points_any (B b : Nat) (l0 : List UInt8) (s : ByteArray) (w : World) (h : BSet S0 B b l0 w) (hl : l0.length ≤ 1099511627776) (hs : s.size ≤ 1000000) :
    Calls Tryd.prog 39 #[.pointer (some ⟨b, 0, none⟩), .string s] w fun e w' => e = .returned (.tuple #[]) ∧ BSet S0 B b (l0 ++ ptU 0 s.data.toList) w' ∧ Below B w w' := by
  obtain ⟨full, hfull⟩ : ∃ full, l0 ++ ptU 0 s.data.toList = full := ⟨_, rfl⟩
  rw [hfull]
  have HF := Lib.hid hfull
  clear hfull
  go_enter Tryd.func39, Tryd.ntmps39
  go_wp2_with fail
  go_loopw [4, 5] (fun hi i wr => ∃ (k high : Nat) (out : List UInt8), i = .int .i64 ((k : Int) + 1) ∧ hi = .int .i64 high ∧ k ≤ s.size + 1 ∧ high ≤ 1023 ∧ Hid (out ++ ptU high (s.data.toList.drop k) = full) ∧ BSet S0 B b out wr ∧ Below B w wr) (fun _ i _ => s.size + 4 - (intOf i).toNat)
  case atStart => exact ⟨0, 0, l0, rfl, rfl, Nat.zero_le _, Nat.zero_le _, Lib.hid (by rw [List.drop_zero]; exact HF.out), h, Below.refl _ _⟩
  case round =>
    clear h
    obtain ⟨k, high, out, rfl, rfl, hk, hhi, HQ, hS, hB⟩ := hrel
    have hBw : B ≤ wr.heap.size := by have := hS.base; have := hS.blt; omega
    have hol := at_len (HQ.out.trans HF.out.symm)
    by_cases hlt : k + 1 < s.size
    · have g1 : (k : Int) + 1 < s.size := by omega
      have g0 : (k : Int) < s.size := by omega
      have c0 := s[k].toNat_lt
      have c1 := s[k + 1].toNat_lt
      have m1 : IntKind.i64.wrap ((k : Int) + 1) = (k : Int) + 1 := IntWalk.i64_in _ (by omega)
      have m0 : IntKind.i64.wrap (k : Int) = (k : Int) := IntWalk.i64_in _ (by omega)
      have n0 : IntKind.i64.wrap (s[k].toNat : Int) = (s[k].toNat : Int) := IntWalk.i64_in _ (by omega)
      have n1 : IntKind.i64.wrap (s[k + 1].toNat : Int) = (s[k + 1].toNat : Int) := IntWalk.i64_in _ (by omega)
      have m4 : 0 ≤ (k : Int) := by omega
      have m2 : 0 ≤ (k : Int) + 1 := by omega
      have m3 : ((k : Int) + 1).toNat = k + 1 := by omega
      obtain ⟨X, hX⟩ : ∃ X : Nat, s[k].toNat * 256 + s[k + 1].toNat = X := ⟨_, rfl⟩
      have hX2 : (s[k].toNat : Int) * 256 + s[k + 1].toNat = (X : Int) := by omega
      have xl : (X : Int) ≤ 65535 := by omega
      have e1 : bits .or .i64 ((s[k].toNat : Int) * 256) (s[k + 1].toNat : Int) = (X : Int) := by rw [B6.or8 _ _ (by omega) (by omega) (by omega) (by omega) (by omega), hX2]
      have e2 : IntKind.i64.wrap ((s[k].toNat : Int) * 256) = (s[k].toNat : Int) * 256 := IntWalk.i64_in _ (by omega)
      have HX := Lib.hid hX
      clear hX2 hX
      go_wp2_with fail
      refine wp_region_any (by kernel_rfl) ?_
      try (change wpAny _ _ _ _ _ _ _ (World.drew _))
      refine wpAny_take (i := 0) (v := ?_) rfl (by kernel_rfl) (by kernel_rfl) (by kernel_rfl) (fun _ _ _ h => h) (Or.inl ⟨by rfl, ?_⟩) ?_
      rotate_left 1
      · (intro w; go_simp) <;> with_reducible rfl
      refine wpAny_take (i := 1) (v := ?_) rfl (by kernel_rfl) (by kernel_rfl) (by kernel_rfl) (fun _ _ _ h => h) (Or.inl ⟨by rfl, ?_⟩) ?_
      rotate_left 1
      · (intro w; go_simp) <;> with_reducible rfl
      refine wpAny_take (i := 2) (v := ?_) rfl (by kernel_rfl) (by kernel_rfl) (by kernel_rfl) (fun _ _ _ h => h) (Or.inl ⟨by rfl, ?_⟩) ?_
      rotate_left 1
      · (intro w; go_simp) <;> with_reducible rfl
      refine wpAny_take (i := 3) (v := ?_) rfl (by kernel_rfl) (by kernel_rfl) (by kernel_rfl) (fun _ _ _ h => h) (Or.inl ⟨by rfl, ?_⟩) ?_
      rotate_left 1
      · (intro w; go_simp) <;> with_reducible rfl
      refine wpAny_take (i := 4) (v := ?_) rfl (by kernel_rfl) (by kernel_rfl) (by kernel_rfl) (fun _ _ _ h => h) (Or.inl ⟨by rfl, ?_⟩) ?_
      rotate_left 1
      · (intro w; go_simp) <;> with_reducible rfl
      refine wpAny_take (i := 5) (v := ?_) rfl (by kernel_rfl) (by kernel_rfl) (by kernel_rfl) (fun _ _ _ h => h) (Or.inl ⟨by rfl, ?_⟩) ?_
      rotate_left 1
      · (intro w; go_simp) <;> with_reducible rfl
      refine wpAny_take (i := 6) (v := ?_) rfl (by kernel_rfl) (by kernel_rfl) (by kernel_rfl) (fun _ _ _ h => h) (Or.inl ⟨by rfl, ?_⟩) ?_
      rotate_left 1
      · (intro w; go_simp) <;> with_reducible rfl
      refine wpAny_take (i := 7) (v := ?_) rfl (by kernel_rfl) (by kernel_rfl) (by kernel_rfl) (fun _ _ _ h => h) (Or.inl ⟨by rfl, ?_⟩) ?_
      rotate_left 1
      · (intro w; go_simp) <;> with_reducible rfl
      refine wpAny_take (i := 8) (v := ?_) rfl (by kernel_rfl) (by kernel_rfl) (by kernel_rfl) (fun _ _ _ h => h) (Or.inl ⟨by rfl, ?_⟩) ?_
      rotate_left 1
      · (intro w; go_simp) <;> with_reducible rfl
      refine wpAny_take (i := 9) (v := ?_) rfl (by kernel_rfl) (by kernel_rfl) (by kernel_rfl) (fun _ _ _ h => h) (Or.inl ⟨by rfl, ?_⟩) ?_
      rotate_left 1
      · (intro w; go_simp) <;> with_reducible rfl
      refine wpAny_take (i := 10) (v := ?_) rfl (by kernel_rfl) (by kernel_rfl) (by kernel_rfl) (fun _ _ _ h => h) (Or.inl ⟨by rfl, ?_⟩) ?_
      rotate_left 1
      · (intro w; go_simp) <;> with_reducible rfl
      refine wpAny_take (i := 11) (v := ?_) rfl (by kernel_rfl) (by kernel_rfl) (by kernel_rfl) (fun _ _ _ h => h) (Or.inl ⟨by rfl, ?_⟩) ?_
      rotate_left 1
      · (intro w; go_simp) <;> with_reducible rfl
      refine wpAny_done (by kernel_rfl) ?_ _
      have hhi' : (high : Int) ≤ 1023 := by omega
      rcases (show X < 55296 ∨ 57343 < X ∨ (55296 ≤ X ∧ X < 56320) ∨ (56320 ≤ X ∧ X ≤ 57343) by omega) with hk1 | hk1 | hk1 | hk1
      · have p1 : (X : Int) < 55296 := by omega
        have HN := Lib.hid (show (out ++ putL (X : Int)) ++ ptU high (s.data.toList.drop (k + 2)) = full by
          rw [← HQ.out, two_at s k hlt, U7.ptU_other high _ _ _ (by rw [HX.out]; omega), HX.out, List.append_assoc])
        go_wp2_with fail
        refine (U8.put_any (X : Int) _).mono ?_
        rintro e w3 ⟨rfl, hb3⟩
        have hb4 := below_first hb3
        have hS3 := hS.below hb4
        have hB3 := hB.trans (hb4.mono hBw)
        clear hb3
        go_wp2_with fail
        refine (Bld.text_any S0 B b out (putB (X : Int)) w3 hS3 (by have := putB_le (X : Int); omega)).mono ?_
        rintro e w4 ⟨rfl, hS4, _, hB4⟩
        rw [putB_data] at hS4
        go_wp2
        go_roundw
        case rel => exact ⟨k + 2, high, out ++ putL (X : Int), by go_num, rfl, by omega, hhi, HN, hS4, hB3.trans hB4⟩
        case measure => simp [intOf]; omega
      · have p1 : 57343 < (X : Int) := by omega
        have p0 : ¬ (X : Int) < 55296 := by omega
        have HN := Lib.hid (show (out ++ putL (X : Int)) ++ ptU high (s.data.toList.drop (k + 2)) = full by
          rw [← HQ.out, two_at s k hlt, U7.ptU_other high _ _ _ (by rw [HX.out]; omega), HX.out, List.append_assoc])
        go_wp2_with fail
        refine (U8.put_any (X : Int) _).mono ?_
        rintro e w3 ⟨rfl, hb3⟩
        have hb4 := below_first hb3
        have hS3 := hS.below hb4
        have hB3 := hB.trans (hb4.mono hBw)
        clear hb3
        go_wp2_with fail
        refine (Bld.text_any S0 B b out (putB (X : Int)) w3 hS3 (by have := putB_le (X : Int); omega)).mono ?_
        rintro e w4 ⟨rfl, hS4, _, hB4⟩
        rw [putB_data] at hS4
        go_wp2
        go_roundw
        case rel => exact ⟨k + 2, high, out ++ putL (X : Int), by go_num, rfl, by omega, hhi, HN, hS4, hB3.trans hB4⟩
        case measure => simp [intOf]; omega
      · have p0 : ¬ (X : Int) < 55296 := by omega
        have p1 : ¬ 57343 < (X : Int) := by omega
        have p2 : (X : Int) < 56320 := by omega
        obtain ⟨H, hH⟩ : ∃ H : Nat, X - 55296 = H := ⟨_, rfl⟩
        have hHi : (X : Int) - 55296 = (H : Int) := by omega
        have hH3 : H ≤ 1023 := by omega
        have HN := Lib.hid (show out ++ ptU H (s.data.toList.drop (k + 2)) = full by
          rw [← HQ.out, two_at s k hlt, U7.ptU_high high _ _ _ (by rw [HX.out]; omega) (by rw [HX.out]; omega), HX.out, hH])
        have hbd : Below wr.heap.size wr wr.drew := (Below.refl _ wr).drew
        have hS3 := hS.below hbd
        have hB3 := hB.trans (hbd.mono hBw)
        clear hH
        go_wp2
        go_roundw
        case rel => exact ⟨k + 2, H, out, by go_num, rfl, by omega, hH3, HN, hS3, hB3⟩
        case measure => simp [intOf]; omega
      · have p0 : ¬ (X : Int) < 55296 := by omega
        have p1 : ¬ 57343 < (X : Int) := by omega
        have p2 : ¬ (X : Int) < 56320 := by omega
        obtain ⟨N, hN⟩ : ∃ N : Nat, 65536 + high * 1024 + X - 56320 = N := ⟨_, rfl⟩
        have hNi : 65536 + (high : Int) * 1024 + X - 56320 = (N : Int) := by omega
        have HN := Lib.hid (show (out ++ putL (N : Int)) ++ ptU high (s.data.toList.drop (k + 2)) = full by
          rw [← HQ.out, two_at s k hlt, U7.ptU_low high _ _ _ (by rw [HX.out]; omega) (by rw [HX.out]; omega), HX.out, hN, List.append_assoc])
        clear hN
        go_wp2_with fail
        refine (U8.put_any (N : Int) _).mono ?_
        rintro e w3 ⟨rfl, hb3⟩
        have hb4 := below_first hb3
        have hS3 := hS.below hb4
        have hB3 := hB.trans (hb4.mono hBw)
        clear hb3
        go_wp2_with fail
        refine (Bld.text_any S0 B b out (putB (N : Int)) w3 hS3 (by have := putB_le (N : Int); omega)).mono ?_
        rintro e w4 ⟨rfl, hS4, _, hB4⟩
        rw [putB_data] at hS4
        go_wp2
        go_roundw
        case rel => exact ⟨k + 2, high, out ++ putL (N : Int), by go_num, rfl, by omega, hhi, HN, hS4, hB3.trans hB4⟩
        case measure => simp [intOf]; omega
    · have g1 : ¬ (k : Int) + 1 < s.size := by omega
      have HE := Lib.hid (show out = full by
        have := HQ.out
        rwa [U7.ptU_short high (by rw [List.length_drop, ← Lib.size_eq]; omega), List.append_nil] at this)
      go_wp2
      go_end0
      exact ⟨rfl, by rw [← HE.out]; exact hS, hB⟩
end Go.Proofs.YtcakcpnmbclieaaDoor.U7C
