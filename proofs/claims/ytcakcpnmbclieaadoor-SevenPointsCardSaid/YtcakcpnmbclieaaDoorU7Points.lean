/-
  The law SevenPoints returns true: code points, one behind the other, go there and back. Conditions: what Encode and Decode want (Env); the argument is a slice of uint32 that can be read.
-/
import Derived.Test.YtcakcpnmbclieaaDoorU7Laws
import Derived.Test.YtcakcpnmbclieaaDoorU8Ref
namespace Go.Proofs.YtcakcpnmbclieaaDoor.U7
open Go Go.RowKit Go.Joins Kit
open U8 (validL validL_append ref_put putB putL sizeN putL_length)

theorem putB_data (r : Int) : (putB r).data.toList = putL r := rfl
theorem putB_size (r : Int) : (putB r).size ≤ 4 := by rw [Lib.size_eq, putB_data, putL_length]; exact U8.sizeN_le r

set_option maxHeartbeats 2000000 in
set_option maxRecDepth 100000 in
theorem sevenPoints_walk (A : Option Addr) (n cap : Nat) (xs : List Int) (w : World) (_hn : n ≤ 9223372036854775807) (_hlen : xs.length = n)
    (hR : ∀ k, k < n → ∃ b off, A = some ⟨b, off, none⟩ ∧ b < w.heap.size ∧ w.cell? ⟨b, off + k, none⟩ = some (.int .u32 (xs.getD k 0)))
    (hB : ∀ k, 0 ≤ xs.getD k 0 ∧ xs.getD k 0 ≤ 4294967295) (hE : Env w) :
    Calls Tryd.prog 5 #[.slice A n cap] w fun e w' => e = .returned (.bool true) ∧ Below w.heap.size w w' := by
  have HR := Lib.hid hR
  have HBD := Lib.hid hB
  clear hR hB
  by_cases h : 100 < n
  · have g : (100 : Int) < n := by omega
    go_enter Tryd.func5, Tryd.ntmps5
    go_wp2_with fail
    refine (awake_any w hE).mono ?_
    rintro e w9 ⟨rfl, hb9⟩
    go_wp2
    go_ret
    exact ⟨rfl, hb9⟩
  have g : (n : Int) ≤ 100 := by omega
  have hb0 := Below.refl w.heap.size w
  go_enter Tryd.func5, Tryd.ntmps5
  go_wp2_with fail
  go_loopw [3, 4] (fun v i wr => ∃ (k : Nat) (t : ByteArray), k ≤ n ∧ t.size ≤ 4 * k ∧ v = .string t ∧ i = .int .i64 k ∧ Hid (validL t.data.toList = true) ∧ Below w.heap.size w wr) (fun _ i _ => n - (intOf i).toNat)
  case atStart => exact ⟨0, ⟨#[]⟩, by omega, Nat.le_refl _, rfl, rfl, rfl, hb0⟩
  case round =>
    clear hb0
    obtain ⟨k, t, hk, hts, rfl, rfl, hv, hb⟩ := hrel
    by_cases hlt : k < n
    · obtain ⟨b, off, rfl, hbl, hcell⟩ := HR.out k hlt
      have hc : wr.cell? ⟨b, off + k, none⟩ = some (.int .u32 (xs.getD k 0)) := (hb.cell (p := ⟨b, off + k, none⟩) hbl).trans hcell
      have hbd := HBD.out k
      clear hcell
      generalize xs.getD k 0 = x at hc hbd
      obtain ⟨x0, x1⟩ := hbd
      have er : x.tmod 1114112 = x % 1114112 := Int.tmod_eq_emod_of_nonneg x0
      have er2 : IntKind.i64.wrap (x % 1114112) = x % 1114112 := IntWalk.i64_in _ (by omega)
      obtain ⟨y, hy⟩ : ∃ y : Int, x % 1114112 = y := ⟨_, rfl⟩
      have HY := Lib.hid hy
      have g1 : (k : Int) < n := by omega
      have gS : t.size ≤ 400 := by omega
      have hp2 := putB_size y
      have hnx := Lib.hid (show validL (t ++ putB y).data.toList = true by rw [app_data, validL_append _ _ hv.out, putB_data]; exact U8.validL_put y)
      have hz : (t ++ putB y).size ≤ 4 * (k + 1) := by rw [ByteArray.size_append]; omega
      clear hy
      go_wp2_with fail
      rw [HY.out]
      refine (ref_put y wr).mono ?_
      rintro e w1 ⟨rfl, hb1⟩
      replace hb1 := hb.trans (hb1.mono hb.size)
      go_wp2
      go_roundw
      case rel => exact ⟨k + 1, _, by omega, hz, rfl, by go_num, hnx, hb1⟩
      case measure => simp [intOf]; omega
    · have g1 : ¬ (k : Int) < n := by omega
      have e1 := Lib.hid (nameB_enc hv.out)
      have e2 := Lib.hid (nameB_dec hv.out)
      have hz1 : (nameB t).size ≤ 4803 := Nat.le_trans (nameB_size t) (by omega)
      have gS : t.size ≤ 400 := by omega
      go_wp2_with fail
      refine (enc_to e1.out wr (by omega) (hE.next hb)).mono ?_
      rintro e w1 ⟨rfl, hb'⟩
      replace hb := hb.trans (hb'.mono hb.size)
      clear hb'
      go_wp2_with fail
      refine (dec_to e2.out w1 (by omega) (hE.next hb)).mono ?_
      rintro e w2 ⟨rfl, hb'⟩
      replace hb := hb.trans (hb'.mono hb.size)
      clear hb'
      go_wp2_with fail
      refine (L3.num_any 0 w2).mono ?_
      rintro e w' ⟨rfl, rfl⟩
      go_wp2_with fail
      refine (L3.num_any 0 w2).mono ?_
      rintro e w' ⟨rfl, rfl⟩
      go_wp2_with fail
      refine (awake_tail w w2 hE hb).mono ?_
      rintro e w9 ⟨rfl, hb9⟩
      go_wp2
      go_ret
      exact ⟨rfl, hb9⟩
end Go.Proofs.YtcakcpnmbclieaaDoor.U7
