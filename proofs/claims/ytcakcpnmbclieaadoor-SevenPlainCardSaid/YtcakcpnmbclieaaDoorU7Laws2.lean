/-
  The laws SevenPlain, SevenJoins return true. Conditions: what Encode and Decode want (Env); the numbers are bytes.
-/
import Derived.Test.YtcakcpnmbclieaaDoorU7Laws
namespace Go.Proofs.YtcakcpnmbclieaaDoor.U7
open Go Go.RowKit Go.Joins Kit
open U8 (validL rvalid_any validL_append)

/-! ### SevenPlain -/
theorem flat_next {s : ByteArray} {k : Nat} (h : k < s.size) (hk : Flat (s.data.toList.take k)) (h1 : 32 ≤ s[k].toNat) (h2 : s[k].toNat ≤ 126) (h3 : s[k].toNat ≠ 38) : Flat (s.data.toList.take (k + 1)) := by
  have hl : k < s.data.toList.length := by rw [← Lib.size_eq]; exact h
  rw [List.take_succ_eq_append_getElem hl, byte_get s k h]
  intro c hc
  rcases List.mem_append.1 hc with hc | hc
  · exact hk c hc
  · simp only [List.mem_singleton] at hc
    subst hc
    exact ⟨h1, h2, h3⟩

set_option maxHeartbeats 2000000 in
set_option maxRecDepth 100000 in
theorem sevenPlain_walk (s : ByteArray) (c0 : Int) (p0 : 0 ≤ c0) (p1 : c0 ≤ 255) (w : World) (hE : Env w) :
    Calls Tryd.prog 6 #[.string s, .int .u8 c0] w fun e w' => e = .returned (.bool true) ∧ Below w.heap.size w w' := by
  by_cases h : 1000 < s.size
  · have g : (1000 : Int) < s.size := by omega
    go_enter Tryd.func6, Tryd.ntmps6
    go_wp2_with fail
    refine (awake_any w hE).mono ?_
    rintro e w9 ⟨rfl, hb9⟩
    go_wp2
    go_ret
    exact ⟨rfl, hb9⟩
  have g : (s.size : Int) ≤ 1000 := by omega
  go_enter Tryd.func6, Tryd.ntmps6
  go_wp2_with fail
  go_loop [5] (fun i => ∃ k : Nat, k ≤ s.size ∧ i = .int .i64 k ∧ Hid (Flat (s.data.toList.take k))) (fun i => s.size - (intOf i).toNat)
  case atStart => exact ⟨0, by omega, rfl, by show Flat _; intro c hc; simp at hc⟩
  case round =>
    obtain ⟨k, hk, rfl, hfl⟩ := hrel
    by_cases hlt : k < s.size
    · have g1 : (k : Int) < s.size := by omega
      have hc8 := s[k].toNat_lt
      rcases (show s[k].toNat < 32 ∨ 126 < s[k].toNat ∨ s[k].toNat = 38 ∨ (32 ≤ s[k].toNat ∧ s[k].toNat ≤ 126 ∧ s[k].toNat ≠ 38) by omega) with h1 | h1 | h1 | ⟨h1, h2, h3⟩
      · have q1 : (s[k].toNat : Int) < 32 := by omega
        clear h1
        go_wp2_with fail
        refine (awake_any w hE).mono ?_
        rintro e w9 ⟨rfl, hb9⟩
        go_wp2
        go_ret
        exact ⟨rfl, hb9⟩
      · have q0 : (32 : Int) ≤ s[k].toNat := by omega
        have q1 : 126 < (s[k].toNat : Int) := by omega
        clear h1
        go_wp2_with fail
        refine (awake_any w hE).mono ?_
        rintro e w9 ⟨rfl, hb9⟩
        go_wp2
        go_ret
        exact ⟨rfl, hb9⟩
      · have q0 : (32 : Int) ≤ s[k].toNat := by omega
        have q1 : (s[k].toNat : Int) ≤ 126 := by omega
        have q2 : ((s[k].toNat : Int) == 38) = true := by rw [beq_iff_eq]; omega
        clear h1
        go_wp2_with fail
        refine (awake_any w hE).mono ?_
        rintro e w9 ⟨rfl, hb9⟩
        go_wp2
        go_ret
        exact ⟨rfl, hb9⟩
      · have q0 : (32 : Int) ≤ s[k].toNat := by omega
        have q1 : (s[k].toNat : Int) ≤ 126 := by omega
        have q2 : ((s[k].toNat : Int) == 38) = false := by rw [beq_eq_false_iff_ne]; omega
        have hnx := Lib.hid (flat_next hlt hfl.out h1 h2 h3)
        clear h1 h2 h3
        go_wp2
        go_round
        case rel => exact ⟨k + 1, by omega, by go_num, hnx⟩
        case measure => simp [intOf]; omega
    · have g1 : ¬ (k : Int) < s.size := by omega
      have hall : Flat s.data.toList := by
        have := hfl.out
        rwa [List.take_of_length_le (by rw [← Lib.size_eq]; omega)] at this
      obtain ⟨y, hy, hy2⟩ := high_byte c0 p0 p1
      obtain ⟨t1, h1⟩ : ∃ t, s ++ (ByteArray.mk #[38, 65, 79, 81]) = t := ⟨_, rfl⟩
      obtain ⟨t2, h2⟩ : ∃ t, s ++ (ByteArray.mk #[38, 65, 79, 33, 45]) = t := ⟨_, rfl⟩
      obtain ⟨t3, h3⟩ : ∃ t, (ByteArray.mk [y].toArray) ++ s = t := ⟨_, rfl⟩
      have z1 : t1.size ≤ 1004 := by rw [← h1, ByteArray.size_append, show (ByteArray.mk #[38, 65, 79, 81]).size = 4 from rfl]; omega
      have z2 : t2.size ≤ 1005 := by rw [← h2, ByteArray.size_append, show (ByteArray.mk #[38, 65, 79, 33, 45]).size = 5 from rfl]; omega
      have z3 : t3.size ≤ 1001 := by rw [← h3, ByteArray.size_append, show (ByteArray.mk [y].toArray).size = 1 from rfl]; omega
      have e0 := Lib.hid (flat_enc hall)
      have e1 := Lib.hid (flat_dec hall)
      have n1 := Lib.hid (show decU t1.data.toList = none by rw [← h1, app_data]; exact open_dec hall)
      have n2 := Lib.hid (show decU t2.data.toList = none by rw [← h2, app_data]; exact spoilt_dec hall)
      have n3 := Lib.hid (show decU t3.data.toList = none by rw [← h3, app_data]; exact high_dec hy2 _)
      have H1 := Lib.hid h1
      have H2 := Lib.hid h2
      have H3 := Lib.hid h3
      have hb := Below.refl w.heap.size w
      clear hall h1 h2 h3 hy2 hfl
      go_wp2_with fail
      refine (enc_to e0.out w (by omega) hE).mono ?_
      rintro e w1 ⟨rfl, hb'⟩
      replace hb := hb.trans (hb'.mono hb.size)
      clear hb'
      go_wp2_with fail
      refine (dec_to e1.out w1 (by omega) (hE.next hb)).mono ?_
      rintro e w2 ⟨rfl, hb'⟩
      replace hb := hb.trans (hb'.mono hb.size)
      clear hb'
      go_wp2_with fail
      rw [H1.out]
      refine (dec_no n1.out w2 (by omega) (hE.next hb)).mono ?_
      rintro e w3 ⟨rfl, hb'⟩
      replace hb := hb.trans (hb'.mono hb.size)
      clear hb'
      go_wp2_with fail
      rw [H2.out]
      refine (dec_no n2.out w3 (by omega) (hE.next hb)).mono ?_
      rintro e w4 ⟨rfl, hb'⟩
      replace hb := hb.trans (hb'.mono hb.size)
      clear hb'
      have hconv := Bld.lit [y] #[Value.int .u8 (y.toNat : Int)] w4 1 1 rfl rfl
      go_wp2_with fail
      have hb2 := hb.alloc hb.size (Obj.cells #[Value.int .u8 (y.toNat : Int)] 5)
      generalize hw2 : w4.alloc (Obj.cells #[Value.int .u8 (y.toNat : Int)] 5) = w5 at hb2 ⊢
      clear hw2 hconv hb
      have hb := hb2
      clear hb2
      rw [H3.out]
      refine (dec_no n3.out w5 (by omega) (hE.next hb)).mono ?_
      rintro e w6 ⟨rfl, hb'⟩
      replace hb := hb.trans (hb'.mono hb.size)
      clear hb'
      go_wp2_with fail
      refine (L3.num_any 0 w6).mono ?_
      rintro e w' ⟨rfl, rfl⟩
      go_wp2_with fail
      refine (L3.num_any 0 w6).mono ?_
      rintro e w' ⟨rfl, rfl⟩
      go_wp2_with fail
      refine (L3.num_any 3 w6).mono ?_
      rintro e w' ⟨rfl, rfl⟩
      go_wp2_with fail
      refine (L3.num_any 3 w6).mono ?_
      rintro e w' ⟨rfl, rfl⟩
      go_wp2_with fail
      refine (L3.num_any 3 w6).mono ?_
      rintro e w' ⟨rfl, rfl⟩
      go_wp2_with fail
      refine (awake_tail w w6 hE hb).mono ?_
      rintro e w9 ⟨rfl, hb9⟩
      go_wp2
      go_ret
      exact ⟨rfl, hb9⟩

/-! ### SevenJoins -/
theorem mid_byte (c0 : Int) (_h0 : 0 ≤ c0) : ∃ y : UInt8, (y.toNat : Int) = 32 + c0 % 95 ∧ 32 ≤ y.toNat ∧ y.toNat ≤ 126 := by
  refine ⟨UInt8.ofNat (32 + c0 % 95).toNat, ?_, ?_, ?_⟩
  · rw [ofNat_u8 (by omega)]; omega
  · rw [ofNat_u8 (by omega)]; omega
  · rw [ofNat_u8 (by omega)]; omega
theorem join_name {a b : ByteArray} (ha : validL a.data.toList = true) (hb : validL b.data.toList = true) {c : UInt8} (h1 : 32 ≤ c.toNat) (h2 : c.toNat ≤ 126) (h3 : c.toNat ≠ 38) :
    encU (a ++ (ByteArray.mk #[c]) ++ b).data.toList = some (nameB a ++ (ByteArray.mk #[c]) ++ nameB b).data.toList := by
  rw [app_data, app_data, app_data, app_data, nameB_data, nameB_data, List.append_assoc, List.append_assoc]
  exact join_enc ha hb h1 h2 h3

set_option maxHeartbeats 2000000 in
set_option maxRecDepth 100000 in
theorem sevenJoins_walk (a b : ByteArray) (c0 : Int) (p0 : 0 ≤ c0) (_p1 : c0 ≤ 255) (w : World) (hE : Env w) :
    Calls Tryd.prog 7 #[.string a, .string b, .int .u8 c0] w fun e w' => e = .returned (.bool true) ∧ Below w.heap.size w w' := by
  by_cases h : 1000 < a.size
  · have g : (1000 : Int) < a.size := by omega
    go_enter Tryd.func7, Tryd.ntmps7
    go_wp2_with fail
    refine (awake_any w hE).mono ?_
    rintro e w9 ⟨rfl, hb9⟩
    go_wp2
    go_ret
    exact ⟨rfl, hb9⟩
  have g : (a.size : Int) ≤ 1000 := by omega
  by_cases h' : 1000 < b.size
  · have g' : (1000 : Int) < b.size := by omega
    go_enter Tryd.func7, Tryd.ntmps7
    go_wp2_with fail
    refine (awake_any w hE).mono ?_
    rintro e w9 ⟨rfl, hb9⟩
    go_wp2
    go_ret
    exact ⟨rfl, hb9⟩
  have g' : (b.size : Int) ≤ 1000 := by omega
  have hb := Below.refl w.heap.size w
  cases hv : validL a.data.toList with
  | false =>
    have HV := Lib.hid hv
    clear hv
    go_enter Tryd.func7, Tryd.ntmps7
    go_wp2_with fail
    refine (valid_no HV.out w (by omega)).mono ?_
    rintro e w1 ⟨rfl, hb'⟩
    replace hb := hb.trans (hb'.mono hb.size)
    clear hb'
    go_wp2_with fail
    refine (awake_tail w w1 hE hb).mono ?_
    rintro e w9 ⟨rfl, hb9⟩
    go_wp2
    go_ret
    exact ⟨rfl, hb9⟩
  | true =>
  cases hv2 : validL b.data.toList with
  | false =>
    have HV := Lib.hid hv
    have HV2 := Lib.hid hv2
    clear hv hv2
    go_enter Tryd.func7, Tryd.ntmps7
    go_wp2_with fail
    refine (valid_yes HV.out w (by omega)).mono ?_
    rintro e w1 ⟨rfl, hb'⟩
    replace hb := hb.trans (hb'.mono hb.size)
    clear hb'
    go_wp2_with fail
    refine (valid_no HV2.out w1 (by omega)).mono ?_
    rintro e w2 ⟨rfl, hb'⟩
    replace hb := hb.trans (hb'.mono hb.size)
    clear hb'
    go_wp2_with fail
    refine (awake_tail w w2 hE hb).mono ?_
    rintro e w9 ⟨rfl, hb9⟩
    go_wp2
    go_ret
    exact ⟨rfl, hb9⟩
  | true =>
    have HV := Lib.hid hv
    have HV2 := Lib.hid hv2
    have e1 := Lib.hid (nameB_enc hv)
    have e2 := Lib.hid (nameB_enc hv2)
    have hz1 : (nameB a).size ≤ 12003 := Nat.le_trans (nameB_size a) (by omega)
    have hz2 : (nameB b).size ≤ 12003 := Nat.le_trans (nameB_size b) (by omega)
    obtain ⟨y, hy, hy1, hy2⟩ := mid_byte c0 p0
    have er : c0.tmod 95 = c0 % 95 := Int.tmod_eq_emod_of_nonneg p0
    have er2 : IntKind.u8.wrap (c0 % 95) = c0 % 95 := IntWalk.u8_in _ (by omega)
    have er3 : IntKind.u8.wrap (32 + c0 % 95) = 32 + c0 % 95 := IntWalk.u8_in _ (by omega)
    by_cases h38 : y.toNat = 38
    · have hy38 : y = 38 := UInt8.toNat.inj h38
      have hq : 32 + c0 % 95 = 38 := by omega
      have hj := join_name hv hv2 (c := 120) (by decide) (by decide) (by decide)
      obtain ⟨t, ht⟩ : ∃ t, a ++ (ByteArray.mk #[120]) ++ b = t := ⟨_, rfl⟩
      rw [ht] at hj
      have hts : t.size ≤ 2001 := by rw [← ht, ByteArray.size_append, ByteArray.size_append, show (ByteArray.mk #[120]).size = 1 from rfl]; omega
      have e3 := Lib.hid hj
      have HT := Lib.hid ht
      have HQ := Lib.hid hq
      clear hv hv2 hy hy1 hy2 h38 hy38 hj ht hq
      go_enter Tryd.func7, Tryd.ntmps7
      go_wp2_with fail
      refine (valid_yes HV.out w (by omega)).mono ?_
      rintro e w1 ⟨rfl, hb'⟩
      replace hb := hb.trans (hb'.mono hb.size)
      clear hb'
      go_wp2_with fail
      refine (valid_yes HV2.out w1 (by omega)).mono ?_
      rintro e w2 ⟨rfl, hb'⟩
      replace hb := hb.trans (hb'.mono hb.size)
      clear hb'
      have hconv := Bld.lit [38] #[Value.int .u8 (32 + c0 % 95)] w2 1 1 rfl (by rw [HQ.out]; rfl)
      have hb2 := hb.alloc hb.size (Obj.cells #[Value.int .u8 (32 + c0 % 95)] 5)
      go_wp2_with fail
      generalize hw2 : w2.alloc (Obj.cells #[Value.int .u8 (32 + c0 % 95)] 5) = w3 at hb2 ⊢
      clear hw2 hconv hb
      have hb := hb2
      clear hb2
      refine (enc_to e1.out w3 (by omega) (hE.next hb)).mono ?_
      rintro e w4 ⟨rfl, hb'⟩
      replace hb := hb.trans (hb'.mono hb.size)
      clear hb'
      go_wp2_with fail
      refine (enc_to e2.out w4 (by omega) (hE.next hb)).mono ?_
      rintro e w5 ⟨rfl, hb'⟩
      replace hb := hb.trans (hb'.mono hb.size)
      clear hb'
      go_wp2_with fail
      rw [HT.out]
      refine (enc_to e3.out w5 (by omega) (hE.next hb)).mono ?_
      rintro e w6 ⟨rfl, hb'⟩
      replace hb := hb.trans (hb'.mono hb.size)
      clear hb'
      clear e1 e2 e3
      generalize nameB a = s at hz1 ⊢
      generalize nameB b = t at hz2 ⊢
      go_wp2_with fail
      refine (L3.num_any 0 w6).mono ?_
      rintro e w' ⟨rfl, rfl⟩
      go_wp2_with fail
      refine (L3.num_any 0 w6).mono ?_
      rintro e w' ⟨rfl, rfl⟩
      go_wp2_with fail
      refine (L3.num_any 0 w6).mono ?_
      rintro e w' ⟨rfl, rfl⟩
      go_wp2_with fail
      refine (awake_tail w w6 hE hb).mono ?_
      rintro e w9 ⟨rfl, hb9⟩
      go_wp2
      go_ret
      exact ⟨rfl, hb9⟩
    · have hj := join_name hv hv2 hy1 hy2 h38
      obtain ⟨t, ht⟩ : ∃ t, a ++ (ByteArray.mk #[y]) ++ b = t := ⟨_, rfl⟩
      rw [ht] at hj
      have hts : t.size ≤ 2001 := by rw [← ht, ByteArray.size_append, ByteArray.size_append, show (ByteArray.mk #[y]).size = 1 from rfl]; omega
      have hye : (y == 38) = false := by rw [beq_eq_false_iff_ne]; intro e; exact h38 (by rw [e]; rfl)
      have e3 := Lib.hid hj
      have HT := Lib.hid ht
      have HY := Lib.hid hy
      clear hv hv2 hy hy1 hy2 h38 hj ht
      go_enter Tryd.func7, Tryd.ntmps7
      go_wp2_with fail
      refine (valid_yes HV.out w (by omega)).mono ?_
      rintro e w1 ⟨rfl, hb'⟩
      replace hb := hb.trans (hb'.mono hb.size)
      clear hb'
      go_wp2_with fail
      refine (valid_yes HV2.out w1 (by omega)).mono ?_
      rintro e w2 ⟨rfl, hb'⟩
      replace hb := hb.trans (hb'.mono hb.size)
      clear hb'
      have hconv := Bld.lit [y] #[Value.int .u8 (32 + c0 % 95)] w2 1 1 rfl (by rw [← HY.out]; rfl)
      have hb2 := hb.alloc hb.size (Obj.cells #[Value.int .u8 (32 + c0 % 95)] 5)
      go_wp2_with fail
      generalize hw2 : w2.alloc (Obj.cells #[Value.int .u8 (32 + c0 % 95)] 5) = w3 at hb2 ⊢
      clear hw2 hconv hb
      have hb := hb2
      clear hb2
      refine (enc_to e1.out w3 (by omega) (hE.next hb)).mono ?_
      rintro e w4 ⟨rfl, hb'⟩
      replace hb := hb.trans (hb'.mono hb.size)
      clear hb'
      go_wp2_with fail
      refine (enc_to e2.out w4 (by omega) (hE.next hb)).mono ?_
      rintro e w5 ⟨rfl, hb'⟩
      replace hb := hb.trans (hb'.mono hb.size)
      clear hb'
      go_wp2_with fail
      rw [HT.out]
      refine (enc_to e3.out w5 (by omega) (hE.next hb)).mono ?_
      rintro e w6 ⟨rfl, hb'⟩
      replace hb := hb.trans (hb'.mono hb.size)
      clear hb'
      clear e1 e2 e3
      generalize nameB a = s at hz1 ⊢
      generalize nameB b = t at hz2 ⊢
      go_wp2_with fail
      refine (L3.num_any 0 w6).mono ?_
      rintro e w' ⟨rfl, rfl⟩
      go_wp2_with fail
      refine (L3.num_any 0 w6).mono ?_
      rintro e w' ⟨rfl, rfl⟩
      go_wp2_with fail
      refine (L3.num_any 0 w6).mono ?_
      rintro e w' ⟨rfl, rfl⟩
      go_wp2_with fail
      refine (awake_tail w w6 hE hb).mono ?_
      rintro e w9 ⟨rfl, hb9⟩
      go_wp2
      go_ret
      exact ⟨rfl, hb9⟩
end Go.Proofs.YtcakcpnmbclieaaDoor.U7
