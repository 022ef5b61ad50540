/-
  The laws SevenBack, SevenPlain, SevenJoins, SevenBad return true. Conditions: what Encode and Decode want (Env); the numbers are bytes.
-/
import Derived.Test.YtcakcpnmbclieaaDoorU7Code
import Derived.Test.YtcakcpnmbclieaaDoorU8RefValid
import Derived.Test.YtcakcpnmbclieaaDoorL3Num
import Derived.Test.YtcakcpnmbclieaaDoorBld
namespace Go.Proofs.YtcakcpnmbclieaaDoor.U7
open Go Go.RowKit Go.Joins Kit
open U8 (validL rvalid_any validL_append)

theorem enc_to {s t : ByteArray} (h : encU s.data.toList = some t.data.toList) (w : World) (hs : s.size ≤ 131072) (hE : Env w) :
    Calls Tryd.prog 10 #[.string s] w fun e w' => e = .returned (.tuple #[.string t, .int .i64 0]) ∧ Below w.heap.size w w' := by
  have := enc_any s w hs hE
  rwa [encV_to h] at this
theorem enc_no {s : ByteArray} (h : encU s.data.toList = none) (w : World) (hs : s.size ≤ 131072) (hE : Env w) :
    Calls Tryd.prog 10 #[.string s] w fun e w' => e = .returned (.tuple #[.string ⟨#[]⟩, .int .i64 3]) ∧ Below w.heap.size w w' := by
  have := enc_any s w hs hE
  rwa [encV_none h] at this
theorem dec_to {s t : ByteArray} (h : decU s.data.toList = some t.data.toList) (w : World) (hs : s.size ≤ 131072) (hE : Env w) :
    Calls Tryd.prog 12 #[.string s] w fun e w' => e = .returned (.tuple #[.string t, .int .i64 0]) ∧ Below w.heap.size w w' := by
  have := dec_any s w hs hE
  rwa [decV_to h] at this
theorem dec_no {s : ByteArray} (h : decU s.data.toList = none) (w : World) (hs : s.size ≤ 131072) (hE : Env w) :
    Calls Tryd.prog 12 #[.string s] w fun e w' => e = .returned (.tuple #[.string ⟨#[]⟩, .int .i64 3]) ∧ Below w.heap.size w w' := by
  have := dec_any s w hs hE
  rwa [decV_none h] at this
theorem valid_yes {s : ByteArray} (h : validL s.data.toList = true) (w : World) (hs : s.size ≤ 131072) :
    Calls Tryd.prog 15 #[.string s] w fun e w' => e = .returned (.bool true) ∧ Below w.heap.size w w' := by
  have := rvalid_any s (by omega) w
  rwa [h] at this
theorem valid_no {s : ByteArray} (h : validL s.data.toList = false) (w : World) (hs : s.size ≤ 131072) :
    Calls Tryd.prog 15 #[.string s] w fun e w' => e = .returned (.bool false) ∧ Below w.heap.size w w' := by
  have := rvalid_any s (by omega) w
  rwa [h] at this

set_option maxHeartbeats 400000 in
theorem awake_any (w : World) (hE : Env w) :
    Calls Tryd.prog 9 #[] w fun e w' => e = .returned (.bool true) ∧ Below w.heap.size w w' := by
  have k1 : Hid (encU (ByteArray.mk #[38]).data.toList = some (ByteArray.mk #[38, 45]).data.toList) := by show _ = _; decide +kernel
  have k2 : Hid (encU (ByteArray.mk #[195, 164]).data.toList = some (ByteArray.mk #[38, 65, 79, 81, 45]).data.toList) := by show _ = _; decide +kernel
  have hb := Below.refl w.heap.size w
  go_enter Tryd.func9, Tryd.ntmps9
  go_wp2_with fail
  refine (enc_to (s := { data := #[38] }) (t := { data := #[38, 45] }) k1.out w (by decide) hE).mono ?_
  rintro e w1 ⟨rfl, hb'⟩
  replace hb := hb.trans (hb'.mono hb.size)
  clear hb'
  go_wp2_with fail
  refine (enc_to (s := { data := #[195, 164] }) (t := { data := #[38, 65, 79, 81, 45] }) k2.out w1 (by decide) (hE.next hb)).mono ?_
  rintro e w2 ⟨rfl, hb'⟩
  replace hb := hb.trans (hb'.mono hb.size)
  clear hb'
  go_wp2_with fail
  refine (L3.num_any 0 w2).mono ?_
  rintro e w' ⟨rfl, rfl⟩
  go_wp2_with fail
  refine (L3.num_any 0 w2).mono ?_
  rintro e w' ⟨rfl, rfl⟩
  go_wp2
  go_ret
  exact ⟨rfl, hb⟩
theorem awake_tail (w w1 : World) (hE : Env w) (hb : Below w.heap.size w w1) :
    Calls Tryd.prog 9 #[] w1 fun e w' => e = .returned (.bool true) ∧ Below w.heap.size w w' :=
  (awake_any w1 (hE.next hb)).mono fun _ _ h => ⟨h.1, hb.trans (h.2.mono hb.size)⟩

/-! ### SevenBad -/
theorem or_high : ∀ n, n < 256 → 128 ≤ (128 ||| n) ∧ (128 ||| n) < 256 := by decide +kernel
theorem high_byte (c0 : Int) (h0 : 0 ≤ c0) (h1 : c0 ≤ 255) : ∃ y : UInt8, bits .or .u8 128 c0 = (y.toNat : Int) ∧ 128 ≤ y.toNat := by
  obtain ⟨n, rfl⟩ : ∃ n : Nat, c0 = (n : Int) := ⟨c0.toNat, by omega⟩
  have hn := or_high n (by omega)
  refine ⟨UInt8.ofNat (128 ||| n), ?_, ?_⟩
  · rw [show (128 : Int) = ((128 : Nat) : Int) from rfl, u8_or_nat 128 n (by decide) (by omega), ofNat_u8 hn.2]
  · rw [ofNat_u8 hn.2]
    exact hn.1
set_option maxHeartbeats 1000000 in
set_option maxRecDepth 100000 in
theorem sevenBad_walk (a : ByteArray) (c0 : Int) (p0 : 0 ≤ c0) (p1 : c0 ≤ 255) (w : World) (hE : Env w) :
    Calls Tryd.prog 8 #[.string a, .int .u8 c0] w fun e w' => e = .returned (.bool true) ∧ Below w.heap.size w w' := by
  by_cases h : 1000 < a.size
  · have g : (1000 : Int) < a.size := by omega
    go_enter Tryd.func8, Tryd.ntmps8
    go_wp2_with fail
    refine (awake_any w hE).mono ?_
    rintro e w9 ⟨rfl, hb9⟩
    go_wp2
    go_ret
    exact ⟨rfl, hb9⟩
  have g : (a.size : Int) ≤ 1000 := by omega
  have hb := Below.refl w.heap.size w
  cases hv : validL a.data.toList with
  | false =>
    have HV := Lib.hid hv
    clear hv
    go_enter Tryd.func8, Tryd.ntmps8
    go_wp2_with fail
    refine (valid_no HV.out w (by omega)).mono ?_
    rintro e w1 ⟨rfl, hb'⟩
    replace hb := hb.trans (hb'.mono hb.size)
    clear hb'
    go_wp2_with fail
    refine (awake_tail w w1 hE hb).mono ?_
    rintro e w9 ⟨rfl, hb9⟩
    go_wp2
    go_ret
    exact ⟨rfl, hb9⟩
  | true =>
    have HV := Lib.hid hv
    go_enter Tryd.func8, Tryd.ntmps8
    go_wp2_with fail
    refine (valid_yes HV.out w (by omega)).mono ?_
    rintro e w1 ⟨rfl, hb'⟩
    replace hb := hb.trans (hb'.mono hb.size)
    clear hb'
    obtain ⟨y, hy, hy2⟩ := high_byte c0 p0 p1
    have hconv := Bld.lit [y] #[Value.int .u8 (y.toNat : Int)] w1 1 1 rfl rfl
    obtain ⟨t, ht⟩ : ∃ t, a ++ (ByteArray.mk [y].toArray) = t := ⟨_, rfl⟩
    have hts : t.size ≤ 1001 := by rw [← ht, ByteArray.size_append]; show a.size + 1 ≤ _; omega
    have hno := Lib.hid (show encU t.data.toList = none by rw [← ht, app_data]; exact bad_enc hv hy2)
    have HT := Lib.hid ht
    clear ht
    have hb2 := hb.alloc hb.size (Obj.cells #[Value.int .u8 (y.toNat : Int)] 5)
    have hE2 := hE.next hb2
    clear hv hy2
    go_wp2_with fail
    generalize hw2 : w1.alloc (Obj.cells #[Value.int .u8 (y.toNat : Int)] 5) = w2 at hb2 hE2 ⊢
    clear hw2 hconv hb
    have hb := hb2
    clear hb2
    rw [HT.out]
    refine (enc_no hno.out w2 (by omega) hE2).mono ?_
    rintro e w3 ⟨rfl, hb'⟩
    replace hb := hb.trans (hb'.mono hb.size)
    clear hb'
    go_wp2_with fail
    refine (L3.num_any 3 w3).mono ?_
    rintro e w' ⟨rfl, rfl⟩
    go_wp2_with fail
    refine (awake_tail w w3 hE hb).mono ?_
    rintro e w9 ⟨rfl, hb9⟩
    go_wp2
    go_ret
    exact ⟨rfl, hb9⟩

/-! ### SevenBack -/
theorem print_at {s : ByteArray} (h : Print s.data.toList) {k : Nat} (hk : k < s.size) : 32 ≤ s[k].toNat ∧ s[k].toNat ≤ 126 := by
  have hl : k < s.data.toList.length := by rw [← Lib.size_eq]; exact hk
  have := h (s.data.toList[k]) (List.getElem_mem hl)
  rwa [byte_get s k hk] at this
theorem name_ne {a b : ByteArray} (ha : validL a.data.toList = true) (hb : validL b.data.toList = true) (h : (a.toList == b.toList) = false) : ((nameB a).toList == (nameB b).toList) = false := by
  rw [beq_eq_false_iff_ne] at h ⊢
  intro e
  apply h
  rw [Lib.toList_data, Lib.toList_data] at e ⊢
  have h1 := nameB_enc ha
  rw [e] at h1
  exact enc_inj h1 (nameB_enc hb)

set_option maxHeartbeats 2000000 in
set_option maxRecDepth 100000 in
theorem sevenBack_walk (a b : ByteArray) (w : World) (hE : Env w) :
    Calls Tryd.prog 4 #[.string a, .string b] w fun e w' => e = .returned (.bool true) ∧ Below w.heap.size w w' := by
  by_cases h : 2000 < a.size
  · have g : (2000 : Int) < a.size := by omega
    go_enter Tryd.func4, Tryd.ntmps4
    go_wp2_with fail
    refine (awake_any w hE).mono ?_
    rintro e w9 ⟨rfl, hb9⟩
    go_wp2
    go_ret
    exact ⟨rfl, hb9⟩
  have g : (a.size : Int) ≤ 2000 := by omega
  by_cases h' : 2000 < b.size
  · have g' : (2000 : Int) < b.size := by omega
    go_enter Tryd.func4, Tryd.ntmps4
    go_wp2_with fail
    refine (awake_any w hE).mono ?_
    rintro e w9 ⟨rfl, hb9⟩
    go_wp2
    go_ret
    exact ⟨rfl, hb9⟩
  have g' : (b.size : Int) ≤ 2000 := by omega
  have hb := Below.refl w.heap.size w
  cases hv : validL a.data.toList with
  | false =>
    have HV := Lib.hid hv
    clear hv
    go_enter Tryd.func4, Tryd.ntmps4
    go_wp2_with fail
    refine (valid_no HV.out w (by omega)).mono ?_
    rintro e w1 ⟨rfl, hb'⟩
    replace hb := hb.trans (hb'.mono hb.size)
    clear hb'
    go_wp2_with fail
    refine (awake_tail w w1 hE hb).mono ?_
    rintro e w9 ⟨rfl, hb9⟩
    go_wp2
    go_ret
    exact ⟨rfl, hb9⟩
  | true =>
  cases hv2 : validL b.data.toList with
  | false =>
    have HV := Lib.hid hv
    have HV2 := Lib.hid hv2
    clear hv hv2
    go_enter Tryd.func4, Tryd.ntmps4
    go_wp2_with fail
    refine (valid_yes HV.out w (by omega)).mono ?_
    rintro e w1 ⟨rfl, hb'⟩
    replace hb := hb.trans (hb'.mono hb.size)
    clear hb'
    go_wp2_with fail
    refine (valid_no HV2.out w1 (by omega)).mono ?_
    rintro e w2 ⟨rfl, hb'⟩
    replace hb := hb.trans (hb'.mono hb.size)
    clear hb'
    go_wp2_with fail
    refine (awake_tail w w2 hE hb).mono ?_
    rintro e w9 ⟨rfl, hb9⟩
    go_wp2
    go_ret
    exact ⟨rfl, hb9⟩
  | true =>
    have HV := Lib.hid hv
    have HV2 := Lib.hid hv2
    have e1 := Lib.hid (nameB_enc hv)
    have e2 := Lib.hid (nameB_enc hv2)
    have e3 := Lib.hid (nameB_dec hv)
    have hpr := Lib.hid (show Print (nameB a).data.toList by rw [nameB_data]; exact print_name _ _)
    have hz1 : (nameB a).size ≤ 24003 := Nat.le_trans (nameB_size a) (by omega)
    have hz2 : (nameB b).size ≤ 24003 := Nat.le_trans (nameB_size b) (by omega)
    cases hab : (a.toList == b.toList) with
    | false =>
      have hst := Lib.hid (name_ne hv hv2 hab)
      have HAB := Lib.hid hab
      clear hv hv2 hab
      go_enter Tryd.func4, Tryd.ntmps4
      go_wp2_with fail
      refine (valid_yes HV.out w (by omega)).mono ?_
      rintro e w1 ⟨rfl, hb'⟩
      replace hb := hb.trans (hb'.mono hb.size)
      clear hb'
      go_wp2_with fail
      refine (valid_yes HV2.out w1 (by omega)).mono ?_
      rintro e w2 ⟨rfl, hb'⟩
      replace hb := hb.trans (hb'.mono hb.size)
      clear hb'
      go_wp2_with fail
      refine (enc_to e1.out w2 (by omega) (hE.next hb)).mono ?_
      rintro e w3 ⟨rfl, hb'⟩
      replace hb := hb.trans (hb'.mono hb.size)
      clear hb'
      go_wp2_with fail
      refine (enc_to e2.out w3 (by omega) (hE.next hb)).mono ?_
      rintro e w4 ⟨rfl, hb'⟩
      replace hb := hb.trans (hb'.mono hb.size)
      clear hb'
      go_wp2_with fail
      refine (dec_to e3.out w4 (by omega) (hE.next hb)).mono ?_
      rintro e w5 ⟨rfl, hb'⟩
      replace hb := hb.trans (hb'.mono hb.size)
      clear hb'
      clear e1 e2 e3
      generalize nameB a = s at hpr hz1 hst ⊢
      generalize nameB b = t at hst hz2 ⊢
      go_wp2_with fail
      go_loop [11] (fun i => ∃ k : Nat, k ≤ s.size ∧ i = .int .i64 k) (fun i => s.size - (intOf i).toNat)
      case atStart => exact ⟨0, by omega, rfl⟩
      case round =>
        obtain ⟨k, hk, rfl⟩ := hrel
        by_cases hlt : k < s.size
        · have hp := print_at hpr.out hlt
          have g1 : (k : Int) < s.size := by omega
          have q1 : (32 : Int) ≤ s[k].toNat := by omega
          have q2 : (s[k].toNat : Int) ≤ 126 := by omega
          clear hp
          go_wp2
          go_round
          case rel => exact ⟨k + 1, by omega, by go_num⟩
          case measure => simp [intOf]; omega
        · have g1 : ¬ (k : Int) < s.size := by omega
          go_wp2_with fail
          refine (L3.num_any 0 w5).mono ?_
          rintro e w' ⟨rfl, rfl⟩
          go_wp2_with fail
          refine (L3.num_any 0 w5).mono ?_
          rintro e w' ⟨rfl, rfl⟩
          go_wp2_with fail
          refine (L3.num_any 0 w5).mono ?_
          rintro e w' ⟨rfl, rfl⟩
          have q3 := hst.out
          have q4 := HAB.out
          go_wp2_with fail
          refine (awake_tail w w5 hE hb).mono ?_
          rintro e w9 ⟨rfl, hb9⟩
          go_wp2
          go_ret
          exact ⟨rfl, hb9⟩
    | true =>
      have hab2 : a = b := by
        rw [beq_iff_eq, Lib.toList_data, Lib.toList_data] at hab
        exact Kit.bytes_ext hab
      clear hv hv2 hab
      subst hab2
      go_enter Tryd.func4, Tryd.ntmps4
      go_wp2_with fail
      refine (valid_yes HV.out w (by omega)).mono ?_
      rintro e w1 ⟨rfl, hb'⟩
      replace hb := hb.trans (hb'.mono hb.size)
      clear hb'
      go_wp2_with fail
      refine (valid_yes HV2.out w1 (by omega)).mono ?_
      rintro e w2 ⟨rfl, hb'⟩
      replace hb := hb.trans (hb'.mono hb.size)
      clear hb'
      go_wp2_with fail
      refine (enc_to e1.out w2 (by omega) (hE.next hb)).mono ?_
      rintro e w3 ⟨rfl, hb'⟩
      replace hb := hb.trans (hb'.mono hb.size)
      clear hb'
      go_wp2_with fail
      refine (enc_to e2.out w3 (by omega) (hE.next hb)).mono ?_
      rintro e w4 ⟨rfl, hb'⟩
      replace hb := hb.trans (hb'.mono hb.size)
      clear hb'
      go_wp2_with fail
      refine (dec_to e3.out w4 (by omega) (hE.next hb)).mono ?_
      rintro e w5 ⟨rfl, hb'⟩
      replace hb := hb.trans (hb'.mono hb.size)
      clear hb'
      clear e1 e2 e3
      generalize nameB a = s at hpr hz1 ⊢
      go_wp2_with fail
      go_loop [11] (fun i => ∃ k : Nat, k ≤ s.size ∧ i = .int .i64 k) (fun i => s.size - (intOf i).toNat)
      case atStart => exact ⟨0, by omega, rfl⟩
      case round =>
        obtain ⟨k, hk, rfl⟩ := hrel
        by_cases hlt : k < s.size
        · have hp := print_at hpr.out hlt
          have g1 : (k : Int) < s.size := by omega
          have q1 : (32 : Int) ≤ s[k].toNat := by omega
          have q2 : (s[k].toNat : Int) ≤ 126 := by omega
          clear hp
          go_wp2
          go_round
          case rel => exact ⟨k + 1, by omega, by go_num⟩
          case measure => simp [intOf]; omega
        · have g1 : ¬ (k : Int) < s.size := by omega
          go_wp2_with fail
          refine (L3.num_any 0 w5).mono ?_
          rintro e w' ⟨rfl, rfl⟩
          go_wp2_with fail
          refine (L3.num_any 0 w5).mono ?_
          rintro e w' ⟨rfl, rfl⟩
          go_wp2_with fail
          refine (L3.num_any 0 w5).mono ?_
          rintro e w' ⟨rfl, rfl⟩
          go_wp2_with fail
          refine (awake_tail w w5 hE hb).mono ?_
          rintro e w9 ⟨rfl, hb9⟩
          go_wp2
          go_ret
          exact ⟨rfl, hb9⟩
end Go.Proofs.YtcakcpnmbclieaaDoor.U7
