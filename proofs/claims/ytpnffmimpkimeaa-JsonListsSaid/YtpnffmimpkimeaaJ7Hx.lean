/-
  The statements' own hexadecimal digits of a number. Conditions: the number is not negative, and no greater than a code point.
-/
import Derived.Test.YtpnffmimpkimeaaJ7Deep
namespace Go.Proofs.Ytpnffmimpkimeaa.J7
open Go Go.RowKit Go.Joins Kit

def hexT : ByteArray := ⟨#[48, 49, 50, 51, 52, 53, 54, 55, 56, 57, 97, 66, 99, 68, 101, 70]⟩
/-- A digit, as the statements have them. -/
def dgE (k : Nat) : UInt8 := hexT.data.toList.getD k 0
theorem and15 (r : Int) (h0 : 0 ≤ r) (h1 : r < 4611686018427387904) : bits .and .i64 r 15 = r % 16 := bits_mask .i64 62 (by decide) U8.wraps_i64 4 (by decide) r h0 (by omega)
theorem hexlt (k : Int) (h0 : 0 ≤ k) (h1 : k < 16) : k.toNat < (ByteArray.mk #[48, 49, 50, 51, 52, 53, 54, 55, 56, 57, 97, 66, 99, 68, 101, 70]).size := by show _ < 16; omega
theorem hexgetN (m : Nat) (h : m < hexT.size) : hexT[m] = dgE m := by
  unfold dgE
  rw [List.getD_eq_getElem?_getD, List.getElem?_eq_getElem (by rw [← Lib.size_eq]; exact h), Option.getD_some, byte_get hexT m h]
theorem hexget (k : Int) (h0 : 0 ≤ k) (h1 : k < 16) : (ByteArray.mk #[48, 49, 50, 51, 52, 53, 54, 55, 56, 57, 97, 66, 99, 68, 101, 70])[k.toNat]'(hexlt k h0 h1) = dgE k.toNat := hexgetN k.toNat (hexlt k h0 h1)
def hexE (n : Nat) : List UInt8 := [dgE (n / 4096 % 16), dgE (n / 256 % 16), dgE (n / 16 % 16), dgE (n % 16)]
set_option maxHeartbeats 2000000 in
set_option maxRecDepth 100000 in
theorem ehex_any (n : Nat) (hn : n ≤ 1114111) (w : World) :
    Calls Try.prog 18 #[.int .i64 (n : Int)] w fun e w' => e = .returned (.string (bS (hexE n))) ∧ Below w.heap.size w w' := by
  have a1 := and15 ((n : Int) / 4096) (by omega) (by omega)
  have a2 := and15 ((n : Int) / 256) (by omega) (by omega)
  have a3 := and15 ((n : Int) / 16) (by omega) (by omega)
  have a4 := and15 (n : Int) (by omega) (by omega)
  have b1 : 0 ≤ (n : Int) / 4096 % 16 := by omega
  have b2 : 0 ≤ (n : Int) / 256 % 16 := by omega
  have b3 : 0 ≤ (n : Int) / 16 % 16 := by omega
  have b4 : 0 ≤ (n : Int) % 16 := by omega
  have d1 : (n : Int) / 4096 % 16 < 16 := by omega
  have d2 : (n : Int) / 256 % 16 < 16 := by omega
  have d3 : (n : Int) / 16 % 16 < 16 := by omega
  have d4 : (n : Int) % 16 < 16 := by omega
  have hlit : (convert 22 9 (.slice (some ⟨w.heap.size, 0, none⟩) 4 4)).run Try.prog ((w.alloc (Obj.cells #[Value.int IntKind.u8 ((((ByteArray.mk #[48, 49, 50, 51, 52, 53, 54, 55, 56, 57, 97, 66, 99, 68, 101, 70])[((n : Int) / 4096 % 16).toNat]'(hexlt _ b1 d1)).toNat : Nat) : Int), Value.int IntKind.u8 ((((ByteArray.mk #[48, 49, 50, 51, 52, 53, 54, 55, 56, 57, 97, 66, 99, 68, 101, 70])[((n : Int) / 256 % 16).toNat]'(hexlt _ b2 d2)).toNat : Nat) : Int), Value.int IntKind.u8 ((((ByteArray.mk #[48, 49, 50, 51, 52, 53, 54, 55, 56, 57, 97, 66, 99, 68, 101, 70])[((n : Int) / 16 % 16).toNat]'(hexlt _ b3 d3)).toNat : Nat) : Int), Value.int IntKind.u8 ((((ByteArray.mk #[48, 49, 50, 51, 52, 53, 54, 55, 56, 57, 97, 66, 99, 68, 101, 70])[((n : Int) % 16).toNat]'(hexlt _ b4 d4)).toNat : Nat) : Int)] 5)).drew) = .ok (.string (bS (hexE n))) ((w.alloc (Obj.cells #[Value.int IntKind.u8 ((((ByteArray.mk #[48, 49, 50, 51, 52, 53, 54, 55, 56, 57, 97, 66, 99, 68, 101, 70])[((n : Int) / 4096 % 16).toNat]'(hexlt _ b1 d1)).toNat : Nat) : Int), Value.int IntKind.u8 ((((ByteArray.mk #[48, 49, 50, 51, 52, 53, 54, 55, 56, 57, 97, 66, 99, 68, 101, 70])[((n : Int) / 256 % 16).toNat]'(hexlt _ b2 d2)).toNat : Nat) : Int), Value.int IntKind.u8 ((((ByteArray.mk #[48, 49, 50, 51, 52, 53, 54, 55, 56, 57, 97, 66, 99, 68, 101, 70])[((n : Int) / 16 % 16).toNat]'(hexlt _ b3 d3)).toNat : Nat) : Int), Value.int IntKind.u8 ((((ByteArray.mk #[48, 49, 50, 51, 52, 53, 54, 55, 56, 57, 97, 66, 99, 68, 101, 70])[((n : Int) % 16).toNat]'(hexlt _ b4 d4)).toNat : Nat) : Int)] 5)).drew) := by
    have h9 := U8.run_lit (hexE n) #[Value.int IntKind.u8 ((((ByteArray.mk #[48, 49, 50, 51, 52, 53, 54, 55, 56, 57, 97, 66, 99, 68, 101, 70])[((n : Int) / 4096 % 16).toNat]'(hexlt _ b1 d1)).toNat : Nat) : Int), Value.int IntKind.u8 ((((ByteArray.mk #[48, 49, 50, 51, 52, 53, 54, 55, 56, 57, 97, 66, 99, 68, 101, 70])[((n : Int) / 256 % 16).toNat]'(hexlt _ b2 d2)).toNat : Nat) : Int), Value.int IntKind.u8 ((((ByteArray.mk #[48, 49, 50, 51, 52, 53, 54, 55, 56, 57, 97, 66, 99, 68, 101, 70])[((n : Int) / 16 % 16).toNat]'(hexlt _ b3 d3)).toNat : Nat) : Int), Value.int IntKind.u8 ((((ByteArray.mk #[48, 49, 50, 51, 52, 53, 54, 55, 56, 57, 97, 66, 99, 68, 101, 70])[((n : Int) % 16).toNat]'(hexlt _ b4 d4)).toNat : Nat) : Int)] w.drew 4 (by
      rw [hexget _ b1 d1, hexget _ b2 d2, hexget _ b3 d3, hexget _ b4 d4]
      unfold hexE Lib.byteCells
      rw [show ((n : Int) / 4096 % 16).toNat = n / 4096 % 16 by omega, show ((n : Int) / 256 % 16).toNat = n / 256 % 16 by omega, show ((n : Int) / 16 % 16).toNat = n / 16 % 16 by omega, show ((n : Int) % 16).toNat = n % 16 by omega]
      rfl)
    exact h9
  have HN := Lib.hid hn
  clear hn
  go_enter Try.func18, Try.ntmps18
  go_wp2_with fail
  refine wp_region_any (by kernel_rfl) ?_
  try (change wpAny _ _ _ _ _ _ _ (World.drew _))
  refine wpAny_take (i := 0) (v := ?_) rfl (by kernel_rfl) (by kernel_rfl) (by kernel_rfl) (fun _ _ _ h => h) (Or.inl ⟨by rfl, ?_⟩) ?_
  rotate_left 1
  · (intro w; go_simp) <;> with_reducible rfl
  refine wpAny_take (i := 1) (v := ?_) rfl (by kernel_rfl) (by kernel_rfl) (by kernel_rfl) (fun _ _ _ h => h) (Or.inl ⟨by rfl, ?_⟩) ?_
  rotate_left 1
  · (intro w; go_simp) <;> with_reducible rfl
  refine wpAny_take (i := 2) (v := ?_) rfl (by kernel_rfl) (by kernel_rfl) (by kernel_rfl) (fun _ _ _ h => h) (Or.inl ⟨by rfl, ?_⟩) ?_
  rotate_left 1
  · (intro w; go_simp) <;> with_reducible rfl
  refine wpAny_take (i := 3) (v := ?_) rfl (by kernel_rfl) (by kernel_rfl) (by kernel_rfl) (fun _ _ _ h => h) (Or.inl ⟨by rfl, ?_⟩) ?_
  rotate_left 1
  · (intro w; go_simp) <;> with_reducible rfl
  refine wpAny_take (i := 4) (v := ?_) rfl (by kernel_rfl) (by kernel_rfl) (by kernel_rfl) (fun _ _ _ h => h) (Or.inl ⟨by rfl, ?_⟩) ?_
  rotate_left 1
  · (intro w; go_simp) <;> with_reducible rfl
  refine wpAny_take (i := 5) (v := ?_) rfl (by kernel_rfl) (by kernel_rfl) (by kernel_rfl) (fun _ _ _ h => h) (Or.inl ⟨by rfl, ?_⟩) ?_
  rotate_left 1
  · (intro w; go_simp) <;> with_reducible rfl
  refine wpAny_take (i := 6) (v := ?_) rfl (by kernel_rfl) (by kernel_rfl) (by kernel_rfl) (fun _ _ _ h => h) (Or.inl ⟨by rfl, ?_⟩) ?_
  rotate_left 1
  · (intro w; go_simp) <;> with_reducible rfl
  refine wpAny_take (i := 7) (v := ?_) rfl (by kernel_rfl) (by kernel_rfl) (by kernel_rfl) (fun _ _ _ h => h) (Or.inl ⟨by rfl, ?_⟩) ?_
  rotate_left 1
  · (intro w; go_simp) <;> with_reducible rfl
  refine wpAny_take (i := 8) (v := ?_) rfl (by kernel_rfl) (by kernel_rfl) (by kernel_rfl) (fun _ _ _ h => h) (Or.inl ⟨by rfl, ?_⟩) ?_
  rotate_left 1
  · (intro w; go_simp) <;> with_reducible rfl
  refine wpAny_take (i := 9) (v := ?_) rfl (by kernel_rfl) (by kernel_rfl) (by kernel_rfl) (fun _ _ _ h => h) (Or.inl ⟨by rfl, ?_⟩) ?_
  rotate_left 1
  · (intro w; go_simp) <;> with_reducible rfl
  refine wpAny_take (i := 10) (v := ?_) rfl (by kernel_rfl) (by kernel_rfl) (by kernel_rfl) (fun _ _ _ h => h) (Or.inl ⟨by rfl, ?_⟩) ?_
  rotate_left 1
  · (intro w; go_simp) <;> with_reducible rfl
  refine wpAny_take (i := 11) (v := ?_) rfl (by kernel_rfl) (by kernel_rfl) (by kernel_rfl) (fun _ _ _ h => h) (Or.inl ⟨by rfl, ?_⟩) ?_
  rotate_left 1
  · (intro w; go_simp) <;> with_reducible rfl
  refine wpAny_take (i := 12) (v := ?_) rfl (by kernel_rfl) (by kernel_rfl) (by kernel_rfl) (fun _ _ _ h => h) (Or.inl ⟨by rfl, ?_⟩) ?_
  rotate_left 1
  · (intro w; go_simp) <;> with_reducible rfl
  refine wpAny_take (i := 13) (v := ?_) rfl (by kernel_rfl) (by kernel_rfl) (by kernel_rfl) (fun _ _ _ h => h) (Or.inl ⟨by rfl, ?_⟩) ?_
  rotate_left 1
  · (intro w; go_simp) <;> with_reducible rfl
  refine wpAny_take (i := 14) (v := ?_) rfl (by kernel_rfl) (by kernel_rfl) (by kernel_rfl) (fun _ _ _ h => h) (Or.inl ⟨by rfl, ?_⟩) ?_
  rotate_left 1
  · (intro w; go_simp) <;> with_reducible rfl
  refine wpAny_take (i := 15) (v := ?_) rfl (by kernel_rfl) (by kernel_rfl) (by kernel_rfl) (fun _ _ _ h => h) (Or.inl ⟨by rfl, ?_⟩) ?_
  rotate_left 1
  · (intro w; go_simp) <;> with_reducible rfl
  refine wpAny_take (i := 16) (v := ?_) rfl (by kernel_rfl) (by kernel_rfl) (by kernel_rfl) (fun _ _ _ h => h) (Or.inl ⟨by rfl, ?_⟩) ?_
  rotate_left 1
  · (intro w; go_simp) <;> with_reducible rfl
  refine wpAny_take (i := 17) (v := ?_) rfl (by kernel_rfl) (by kernel_rfl) (by kernel_rfl) (fun _ _ _ h => h) (Or.inl ⟨by rfl, ?_⟩) ?_
  rotate_left 1
  · (intro w; go_simp) <;> with_reducible rfl
  refine wpAny_take (i := 18) (v := ?_) rfl (by kernel_rfl) (by kernel_rfl) (by kernel_rfl) (fun _ _ _ h => h) (Or.inl ⟨by rfl, ?_⟩) ?_
  rotate_left 1
  · (intro w; go_simp) <;> with_reducible rfl
  refine wpAny_ready (rs := [19]) (by kernel_rfl) (by simp) ?_
  refine AllReady.cons rfl (fun K hK => ?_) AllReady.nil
  go_simp
  refine hK _ _ ?_
  clear hK K
  refine wpAny_ready (rs := [20]) (by kernel_rfl) (by simp) ?_
  refine AllReady.cons rfl (fun K hK => ?_) AllReady.nil
  go_simp
  refine hK _ _ ?_
  clear hK K
  refine wpAny_take (i := 21) (v := ?_) rfl (by kernel_rfl) (by kernel_rfl) (by kernel_rfl) (fun _ _ _ h => h) (Or.inl ⟨by rfl, ?_⟩) ?_
  rotate_left 1
  · (intro w; go_simp) <;> with_reducible rfl
  refine wpAny_done (by kernel_rfl) ?_ _
  go_wp2_with fail
  go_ret
  exact ⟨rfl, (Below.refl _ w).drew.alloc (Nat.le_refl _) _⟩
end Go.Proofs.Ytpnffmimpkimeaa.J7
