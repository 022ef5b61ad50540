/-
  utf7.writeRow writes a row, '&' ahead and '-' behind it, into a Builder; of an empty row nothing. Conditions: the row has at most 3000000 bytes, the Builder at most 2^40.
-/
import Derived.Test.YtcakcpnmbclieaaDoorBldK
import Derived.Test.YtcakcpnmbclieaaDoorBuf2
import Derived.Test.YtcakcpnmbclieaaDoorEnv
import Derived.Test.YtcakcpnmbclieaaDoorB6Enc
import Derived.Test.YtcakcpnmbclieaaDoorB6Loose
import Derived.Test.YtcakcpnmbclieaaDoorU7Loo
namespace Go.Proofs.YtcakcpnmbclieaaDoor.U7C
open Go Go.RowKit Go.Joins Kit
open U7 (com uncom rowL)
open Bld (BSet Kept)

/-- The search's bound is some number, in every world that keeps what lay below B. -/
def MaxB (B : Nat) (w : World) : Prop := ∀ w', Below B w w' → ∃ m : Int, w'.cell? ⟨0, 0, none⟩ = some (.int .i64 m)
theorem MaxB.next {B : Nat} {w w1 : World} (h : MaxB B w) (hb : Below B w w1) : MaxB B w1 := fun w' hb' => h w' (hb.trans hb')
theorem MaxB.of {w : World} (h : Srch.Env w) : MaxB w.heap.size w := h.max
theorem MaxB.env {B : Nat} {w : World} (h : MaxB B w) (hB : B ≤ w.heap.size) : Srch.Env w := ⟨fun w' hb => h w' (hb.mono hB)⟩
theorem MaxB.b6 {B : Nat} {w : World} (h : MaxB B w) (hB : B ≤ w.heap.size) : B6.Env w := ⟨fun w' hb => h w' (hb.mono hB)⟩

theorem byte_at (S : Nat → Prop) (B b : Nat) (l : List UInt8) (c : UInt8) (x : Int) (hx : x = (c.toNat : Int)) (w : World) (h : BSet S B b l w) (hlen : l.length + 1 ≤ 140737488355328) :
    Calls Tryd.prog 22 #[.pointer (some ⟨b, 0, none⟩), .int .u8 x] w fun e w' => e = .returned .nilIface ∧ BSet S B b (l ++ [c]) w' ∧ Kept S w w' ∧ Below B w w' := by
  subst hx
  exact Bld.byte_any S B b l c w h hlen
theorem trim_any (l : List UInt8) (w : World) (hl : (B6.encL l).length ≤ 9223372036854775807) :
    Calls Tryd.prog 33 #[.string ⟨(B6.encL l).toArray⟩, .string ⟨#[61]⟩] w fun e w' => e = .returned (.string ⟨(B6.letL l).toArray⟩) ∧ w' = w := by
  refine (Tryd.strings_TrimRight_one ⟨(B6.encL l).toArray⟩ 61 (by decide) w (by rw [Lib.size_mk]; exact hl)).mono ?_
  rintro e w' ⟨rfl, rfl⟩
  refine ⟨?_, rfl⟩
  rw [show (ByteArray.mk (B6.encL l).toArray).data.toList = B6.encL l from rfl, U7.trim_enc]
theorem swap_any (x y : UInt8) (hxy : x ≠ y) (s : ByteArray) (w : World) (hs : s.size ≤ 1099511627) (hE : Srch.Env w) :
    Calls Tryd.prog 36 #[.string s, .string ⟨#[x]⟩, .string ⟨#[y]⟩] w fun e w' => e = .returned (.string ⟨(s.data.toList.map (fun c => if c = x then y else c)).toArray⟩) ∧ Below w.heap.size w w' := by
  obtain ⟨m, hm⟩ := hE.max w (Below.refl _ _)
  have hc := Lib.countB_le ⟨#[x]⟩ (by show 1 ≤ 1; decide) s.size s (Nat.le_refl _)
  refine (Tryd.strings_ReplaceAll s ⟨#[x]⟩ ⟨#[y]⟩ m w (by omega) hm (by show 1 ≤ 1; decide) (by show s.size + Lib.countB s ⟨#[x]⟩ * 1 ≤ _; omega)).mono ?_
  rintro e w' ⟨rfl, hb⟩
  refine ⟨?_, hb⟩
  rw [show (ByteArray.mk #[x]).data.toList = [x] from rfl, show (ByteArray.mk #[y]).data.toList = [y] from rfl, U7.replace_one x y hxy]
theorem com_any (l : List UInt8) (w : World) (hl : l.length ≤ 1099511627) (hE : Srch.Env w) :
    Calls Tryd.prog 36 #[.string ⟨l.toArray⟩, .string ⟨#[47]⟩, .string ⟨#[44]⟩] w fun e w' => e = .returned (.string ⟨(l.map com).toArray⟩) ∧ Below w.heap.size w w' :=
  swap_any 47 44 (by decide) ⟨l.toArray⟩ w (by rw [Lib.size_mk]; exact hl) hE
theorem uncom_any (s : ByteArray) (w : World) (hs : s.size ≤ 1099511627) (hE : Srch.Env w) :
    Calls Tryd.prog 36 #[.string s, .string ⟨#[44]⟩, .string ⟨#[47]⟩] w fun e w' => e = .returned (.string ⟨(s.data.toList.map uncom).toArray⟩) ∧ Below w.heap.size w w' :=
  swap_any 44 47 (by decide) s w hs hE

set_option maxHeartbeats 1000000 in
set_option maxRecDepth 100000 in
theorem row_any (S : Nat → Prop) (W0 w : World) (b : Nat) (l row : List UInt8) (v : Value) (h : BSet S W0.heap.size b l w) (hR : Buf W0 v row w) (hM : MaxB W0.heap.size w) (hl : l.length ≤ 1099511627776) (hr : row.length ≤ 3000000) :
    Calls Tryd.prog 21 #[.pointer (some ⟨b, 0, none⟩), v] w fun e w' => e = .returned (.tuple #[]) ∧ BSet S W0.heap.size b (l ++ rowL row) w' ∧ Kept S w w' ∧ Below W0.heap.size w w' := by
  have hstr := hR.string
  have hBw := hR.below.size
  obtain ⟨ao, cap, rfl⟩ := hR.form
  have hel : (B6.encL row).length ≤ 5000000 := by rw [B6.encL_length]; omega
  have hll : (B6.letL row).length ≤ 5000000 := by rw [B6.letL_length]; omega
  have HEL := Lib.hid hel
  have HLL := Lib.hid hll
  clear hel hll
  go_enter Tryd.func21, Tryd.ntmps21
  by_cases h0 : row = []
  · subst h0
    go_wp2
    refine bodyPost_ret (results_none rfl _ _ _) rfl ?_
    exact ⟨rfl, by rw [U7.row_nil, List.append_nil]; exact h, Kept.refl _ _, Below.refl _ _⟩
  · have hn : (row.length : Int) ≠ 0 := by have := List.length_pos_iff.2 h0; omega
    have HR := Lib.hid (U7.row_cons h0)
    clear h0
    go_wp2_with fail
    refine (B6.encode_any ⟨row.toArray⟩ w (by rw [Lib.size_mk]; omega)).mono ?_
    rintro e w1 ⟨rfl, hb1⟩
    have h1 := h.below hb1
    have k1 := Kept.below h hb1
    have hB1 := hb1.mono hBw
    go_wp2_with fail
    refine (trim_any row w1 (by have := HEL.out; omega)).mono ?_
    rintro e w2 ⟨rfl, rfl⟩
    go_wp2_with fail
    refine (byte_at S W0.heap.size b l 38 38 rfl _ h1 (by omega)).mono ?_
    rintro e w3 ⟨rfl, h3, k3, hB3⟩
    have hB03 := hB1.trans hB3
    have hM3 := (hM.next hB03).env (by have := hB03.size; omega)
    obtain ⟨L1, hL1⟩ : ∃ L, l ++ [38] = L := ⟨_, rfl⟩
    have hl1 : L1.length = l.length + 1 := by rw [← hL1, List.length_append]; rfl
    rw [hL1] at h3
    go_wp2_with fail
    refine (com_any (B6.letL row) w3 (by have := HLL.out; omega) hM3).mono ?_
    rintro e w4 ⟨rfl, hb4⟩
    have h4 := h3.below hb4
    have k4 := Kept.below h3 hb4
    have hB4 := hb4.mono (show W0.heap.size ≤ w3.heap.size by have := hB03.size; omega)
    go_wp2_with fail
    refine (Bld.text_any S W0.heap.size b L1 _ _ h4 (by rw [Lib.size_mk, List.length_map]; have := HLL.out; omega)).mono ?_
    rintro e w5 ⟨rfl, h5, k5, hB5⟩
    obtain ⟨L2, hL2⟩ : ∃ L, L1 ++ (B6.letL row).map com = L := ⟨_, rfl⟩
    have hl2 : L2.length ≤ L1.length + 5000000 := by rw [← hL2, List.length_append, List.length_map]; have := HLL.out; omega
    rw [show (ByteArray.mk ((B6.letL row).map com).toArray).data.toList = (B6.letL row).map com from rfl, hL2] at h5
    go_wp2_with fail
    refine (byte_at S W0.heap.size b L2 45 45 rfl _ h5 (by omega)).mono ?_
    rintro e w6 ⟨rfl, h6, k6, hB6⟩
    go_wp2
    go_end0
    refine ⟨rfl, ?_, k1.trans (k3.trans (k4.trans (k5.trans k6))), hB03.trans (hB4.trans (hB5.trans hB6))⟩
    rw [HR.out, show l ++ (38 :: ((B6.letL row).map com ++ [45])) = L2 ++ [45] by rw [← hL2, ← hL1]; simp]
    exact h6
end Go.Proofs.YtcakcpnmbclieaaDoor.U7C
