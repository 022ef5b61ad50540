/-
  The laws QuotedBack, QuotedPlain, QuotedBad return true. Conditions: the bound of the library's search is some number.
-/
import Derived.Test.YtdfjkncfbcmleaaQ4Encode
import Derived.Test.YtdfjkncfbcmleaaQ4Decode
namespace Go.Proofs.Ytdfjkncfbcmleaa.Q4
open Go Go.RowKit Go.Joins Kit Srch

theorem enc_call (s : ByteArray) (w : World) (hs : s.size ≤ 1099511627776) :
    Calls Try.prog 8 #[.string s] w fun e w' => e = .returned (.string (quoB s)) ∧ Below w.heap.size w w' := encode_any s w hs
theorem mk_data (s : ByteArray) {l : List UInt8} (h : l = s.data.toList) : (⟨l.toArray⟩ : ByteArray) = s := Kit.bytes_ext (by simpa using h)
/-- Decode, where what is told is known. -/
theorem dec_to {s t : ByteArray} (h : plainL s.data.toList = t.data.toList) (w : World) (hs : s.size ≤ 1099511627) (hE : Env w) :
    Calls Try.prog 10 #[.string s] w fun e w' => e = .returned (.string t) ∧ Below w.heap.size w w' := by
  have := decode_any s w hs hE
  rwa [mk_data t h] at this
theorem quoB_size (s : ByteArray) : (quoB s).size ≤ 6 * s.size := by
  rw [Lib.size_eq, quoB_data, Lib.size_eq]
  exact quo_len 0 _
theorem plainB_size (s : ByteArray) : (plainB s).size ≤ s.size := by
  rw [Lib.size_eq, plainB_data, Lib.size_eq]
  exact plain_length _
theorem app_data (a b : ByteArray) : (a ++ b).data.toList = a.data.toList ++ b.data.toList := by simp

set_option maxHeartbeats 400000 in
theorem awake_any (w : World) (hE : Env w) :
    Calls Try.prog 12 #[] w fun e w' => e = .returned (.bool true) ∧ Below w.heap.size w w' := by
  have k1 : Hid (quoB ⟨#[97, 61, 98]⟩ = ⟨#[97, 61, 51, 68, 98]⟩) := by show _ = _; exact Kit.bytes_ext (by rw [quoB_data]; decide +kernel)
  have k2 : Hid (plainL (ByteArray.mk #[97, 61, 51, 100, 98]).data.toList = (ByteArray.mk #[97, 61, 98]).data.toList) := by show _ = _; exact plain_x4
  go_enter Try.func12, Try.ntmps12
  go_wp2_with fail
  refine (enc_call { data := #[97, 61, 98] } w (by decide)).mono ?_
  rintro e w1 ⟨rfl, hb1⟩
  rw [k1.out]
  go_wp2_with fail
  refine (dec_to (s := { data := #[97, 61, 51, 100, 98] }) (t := { data := #[97, 61, 98] }) k2.out w1 (by decide) (hE.next hb1)).mono ?_
  rintro e w2 ⟨rfl, hb2⟩
  go_wp2
  go_ret
  exact ⟨rfl, hb1.trans (hb2.mono hb1.size)⟩
theorem awake_tail (w w1 : World) (hE : Env w) (hb : Below w.heap.size w w1) :
    Calls Try.prog 12 #[] w1 fun e w' => e = .returned (.bool true) ∧ Below w.heap.size w w' :=
  (awake_any w1 (hE.next hb)).mono fun _ _ h => ⟨h.1, hb.trans (h.2.mono hb.size)⟩

/-! ### QuotedBack -/
theorem ok_drop {s : ByteArray} {k n : Nat} (h : k < s.size) (hk : okL n (s.data.toList.drop k) = true) :
    (s[k].toNat = 10 ∧ okL 0 (s.data.toList.drop (k + 1)) = true) ∨ (s[k].toNat = 13 ∧ n ≤ 76 ∧ okL n (s.data.toList.drop (k + 1)) = true) ∨ (s[k].toNat ≠ 10 ∧ s[k].toNat ≠ 13 ∧ n + 1 ≤ 76 ∧ 32 ≤ s[k].toNat ∧ s[k].toNat ≤ 126 ∧ okL (n + 1) (s.data.toList.drop (k + 1)) = true) := by
  have hl : k < s.data.toList.length := by rw [← Lib.size_eq]; exact h
  rw [List.drop_eq_getElem_cons hl, byte_get s k h, okL] at hk
  split at hk
  · rename_i hc
    exact Or.inl ⟨by rw [hc]; rfl, hk⟩
  · rename_i hc
    split at hk
    · rename_i hc2
      simp only [Bool.and_eq_true, decide_eq_true_eq] at hk
      exact Or.inr (Or.inl ⟨by rw [hc2]; rfl, hk.1, hk.2⟩)
    · rename_i hc2
      simp only [Bool.and_eq_true, decide_eq_true_eq] at hk
      exact Or.inr (Or.inr ⟨fun e => hc (UInt8.toNat.inj e), fun e => hc2 (UInt8.toNat.inj e), by omega, by omega, by omega, hk.2⟩)

set_option maxHeartbeats 1000000 in
set_option maxRecDepth 100000 in
theorem quotedBack_walk (s : ByteArray) (w : World) (hE : Env w) :
    Calls Try.prog 4 #[.string s] w fun e w' => e = .returned (.bool true) ∧ Below w.heap.size w w' := by
  by_cases h : 3000 < s.size
  · have g : (3000 : Int) < s.size := by omega
    go_enter Try.func4, Try.ntmps4
    go_wp2_with fail
    refine (awake_any w hE).mono ?_
    rintro e w1 ⟨rfl, hb1⟩
    go_wp2
    go_ret
    exact ⟨rfl, hb1⟩
  have g : (s.size : Int) ≤ 3000 := by omega
  have hok := Lib.hid (show okL 0 (quoB s).data.toList = true by rw [quoB_data]; exact ok_quo 0 _ (by omega))
  have hbk := Lib.hid (show plainL (quoB s).data.toList = s.data.toList by rw [quoB_data]; exact plain_quo 0 _)
  have hz := quoB_size s
  have hz1 : (quoB s).size ≤ 18000 := by omega
  clear hz
  go_enter Try.func4, Try.ntmps4
  go_wp2_with fail
  refine (enc_call s w (by omega)).mono ?_
  rintro e w1 ⟨rfl, hb1⟩
  generalize quoB s = t at hok hbk hz1 ⊢
  go_wp2_with fail
  go_loop [4, 5] (fun n i => ∃ k m : Nat, k ≤ t.size ∧ m ≤ k ∧ i = .int .i64 k ∧ n = .int .i64 m ∧ Hid (okL m (t.data.toList.drop k) = true)) (fun _ i => t.size - (intOf i).toNat)
  case atStart => exact ⟨0, 0, by omega, by omega, rfl, rfl, hok⟩
  case round =>
    clear hok
    obtain ⟨k, m, hk, hm, rfl, rfl, ho⟩ := hrel
    by_cases hlt : k < t.size
    · have g1 : (k : Int) < t.size := by omega
      rcases ok_drop hlt ho.out with ⟨h1, h2⟩ | ⟨h1, h2, h3⟩ | ⟨h1, h2, h3, h4, h5, h6⟩
      · have q1 : ((t[k].toNat : Int) == 10) = true := by rw [beq_iff_eq]; omega
        have H2 := Lib.hid h2
        clear h1 h2
        go_wp2
        go_round
        case rel => exact ⟨k + 1, 0, by omega, by omega, by go_num, rfl, H2⟩
        case measure => simp [intOf]; omega
      · have q1 : ((t[k].toNat : Int) == 10) = false := by rw [beq_eq_false_iff_ne]; omega
        have q2 : ((t[k].toNat : Int) == 13) = true := by rw [beq_iff_eq]; omega
        have q3 : (m : Int) ≤ 76 := by omega
        have q4 : (t[k].toNat : Int) ≤ 126 := by omega
        have q5 : (t[k].toNat : Int) < 32 := by omega
        have H2 := Lib.hid h3
        clear h1 h2 h3
        go_wp2
        go_round
        case rel => exact ⟨k + 1, m, by omega, by omega, by go_num, rfl, H2⟩
        case measure => simp [intOf]; omega
      · have q1 : ((t[k].toNat : Int) == 10) = false := by rw [beq_eq_false_iff_ne]; omega
        have q2 : ((t[k].toNat : Int) == 13) = false := by rw [beq_eq_false_iff_ne]; omega
        have q3 : (m : Int) + 1 ≤ 76 := by omega
        have q4 : (t[k].toNat : Int) ≤ 126 := by omega
        have q5 : (32 : Int) ≤ t[k].toNat := by omega
        have H2 := Lib.hid h6
        clear h1 h2 h3 h4 h5 h6
        go_wp2
        go_round
        case rel => exact ⟨k + 1, m + 1, by omega, by omega, by go_num, by go_num, H2⟩
        case measure => simp [intOf]; omega
    · have g1 : ¬ (k : Int) < t.size := by omega
      go_wp2_with fail
      refine (dec_to hbk.out w1 (by omega) (hE.next hb1)).mono ?_
      rintro e w2 ⟨rfl, hb2⟩
      replace hb2 := hb1.trans (hb2.mono hb1.size)
      go_wp2_with fail
      refine (awake_tail w w2 hE hb2).mono ?_
      rintro e w4 ⟨rfl, hb4⟩
      go_wp2
      go_ret
      exact ⟨rfl, hb4⟩

/-! ### QuotedBad -/
def digB (n : Nat) : Bool := (hxN n).isSome
theorem dig_not {c : UInt8} (h : digB c.toNat = false) : hx c = none := by
  unfold digB at h
  unfold hx
  cases e : hxN c.toNat with
  | none => rfl
  | some v => rw [e] at h; cases h
theorem dig_is (n : Nat) : digB n = (decide (48 ≤ n ∧ n ≤ 57) || decide (97 ≤ n ∧ n ≤ 102) || decide (65 ≤ n ∧ n ≤ 70)) := by
  unfold digB hxN
  by_cases h1 : 48 ≤ n ∧ n ≤ 57
  · simp [h1]
  · by_cases h2 : 97 ≤ n ∧ n ≤ 102
    · simp [h1, h2]
    · by_cases h3 : 65 ≤ n ∧ n ≤ 70
      · simp [h1, h2, h3]
      · simp [h1, h2, h3]
theorem digit_any (c : UInt8) (w : World) :
    Calls Try.prog 13 #[.int .u8 (c.toNat : Int)] w fun e w' => e = .returned (.bool (digB c.toNat)) ∧ w = w' := by
  have hc := c.toNat_lt
  rcases (show c.toNat < 48 ∨ (48 ≤ c.toNat ∧ c.toNat ≤ 57) ∨ (57 < c.toNat ∧ c.toNat < 65) ∨ (65 ≤ c.toNat ∧ c.toNat ≤ 70) ∨ (70 < c.toNat ∧ c.toNat < 97) ∨ (97 ≤ c.toNat ∧ c.toNat ≤ 102) ∨ 102 < c.toNat by omega) with h | h | h | h | h | h | h
  · have hd : Hid (digB c.toNat = false) := by show _ = _; rw [dig_is]; simp; omega
    have g0 : (c.toNat : Int) < 48 := by omega
    clear h
    go_enter Try.func13, Try.ntmps13
    go_wp2
    go_ret
    exact ⟨ret_bool (by rw [hd.out] <;> first | rfl | (simp; omega)), rfl⟩
  · have hd : Hid (digB c.toNat = true) := by show _ = _; rw [dig_is]; simp; omega
    have g0 : 48 ≤ (c.toNat : Int) := by omega
    have g1 : (c.toNat : Int) ≤ 57 := by omega
    clear h
    go_enter Try.func13, Try.ntmps13
    go_wp2
    go_ret
    exact ⟨ret_bool (by rw [hd.out] <;> first | rfl | (simp; omega)), rfl⟩
  · have hd : Hid (digB c.toNat = false) := by show _ = _; rw [dig_is]; simp; omega
    have g0 : 57 < (c.toNat : Int) := by omega
    have g1 : (c.toNat : Int) < 65 := by omega
    clear h
    go_enter Try.func13, Try.ntmps13
    go_wp2
    go_ret
    exact ⟨ret_bool (by rw [hd.out] <;> first | rfl | (simp; omega)), rfl⟩
  · have hd : Hid (digB c.toNat = true) := by show _ = _; rw [dig_is]; simp; omega
    have g0 : 65 ≤ (c.toNat : Int) := by omega
    have g1 : (c.toNat : Int) ≤ 70 := by omega
    clear h
    go_enter Try.func13, Try.ntmps13
    go_wp2
    go_ret
    exact ⟨ret_bool (by rw [hd.out] <;> first | rfl | (simp; omega)), rfl⟩
  · have hd : Hid (digB c.toNat = false) := by show _ = _; rw [dig_is]; simp; omega
    have g0 : 70 < (c.toNat : Int) := by omega
    have g1 : (c.toNat : Int) < 97 := by omega
    clear h
    go_enter Try.func13, Try.ntmps13
    go_wp2
    go_ret
    exact ⟨ret_bool (by rw [hd.out] <;> first | rfl | (simp; omega)), rfl⟩
  · have hd : Hid (digB c.toNat = true) := by show _ = _; rw [dig_is]; simp; omega
    have g0 : 97 ≤ (c.toNat : Int) := by omega
    have g1 : (c.toNat : Int) ≤ 102 := by omega
    clear h
    go_enter Try.func13, Try.ntmps13
    go_wp2
    go_ret
    exact ⟨ret_bool (by rw [hd.out] <;> first | rfl | (simp; omega)), rfl⟩
  · have hd : Hid (digB c.toNat = false) := by show _ = _; rw [dig_is]; simp; omega
    have g0 : 102 < (c.toNat : Int) := by omega
    clear h
    go_enter Try.func13, Try.ntmps13
    go_wp2
    go_ret
    exact ⟨ret_bool (by rw [hd.out] <;> first | rfl | (simp; omega)), rfl⟩

set_option maxHeartbeats 1000000 in
set_option maxRecDepth 100000 in
theorem quotedBad_walk (c0 d0 : Int) (p0 : 0 ≤ c0) (p1 : c0 ≤ 255) (p2 : 0 ≤ d0) (p3 : d0 ≤ 255) (w : World) (hE : Env w) :
    Calls Try.prog 7 #[.int .u8 c0, .int .u8 d0] w fun e w' => e = .returned (.bool true) ∧ Below w.heap.size w w' := by
  obtain ⟨c, rfl⟩ : ∃ c : UInt8, c0 = (c.toNat : Int) := ⟨UInt8.ofNat c0.toNat, by simp; omega⟩
  obtain ⟨d, rfl⟩ : ∃ d : UInt8, d0 = (d.toNat : Int) := ⟨UInt8.ofNat d0.toNat, by simp; omega⟩
  have k1 : Hid (plainL (ByteArray.mk #[120, 61]).data.toList = (ByteArray.mk #[120, 61]).data.toList) := by show _ = _; exact plain_x1
  have k2 : Hid (plainL (ByteArray.mk #[120, 61, 65]).data.toList = (ByteArray.mk #[120, 61, 65]).data.toList) := by show _ = _; exact plain_x2
  have k3 : Hid (plainL (ByteArray.mk #[61, 13]).data.toList = (ByteArray.mk #[61, 13]).data.toList) := by show _ = _; exact plain_x3
  cases hc : digB c.toNat with
  | false =>
    have HN : Hid (hx c = none ∨ hx d = none) := by show _ ∨ _; exact Or.inl (dig_not hc)
    have HC := Lib.hid hc
    clear hc
    rcases (show c.toNat = 10 ∨ (c.toNat ≠ 10 ∧ c.toNat = 13) ∨ (c.toNat ≠ 10 ∧ c.toNat ≠ 13 ∧ c.toNat = 61) ∨ (c.toNat ≠ 10 ∧ c.toNat ≠ 13 ∧ c.toNat ≠ 61 ∧ d.toNat = 61) ∨ (c.toNat ≠ 10 ∧ c.toNat ≠ 13 ∧ c.toNat ≠ 61 ∧ d.toNat ≠ 61) by omega) with h | h | h | h | ⟨n0, n1, n2, n3⟩
    · have q0 : ((c.toNat : Int) == 10) = true := by rw [beq_iff_eq]; omega
      clear h
      go_enter Try.func7, Try.ntmps7
      go_wp2_with fail
      refine (digit_any c w).mono ?_
      rintro e w1 ⟨rfl, rfl⟩
      rw [HC.out]
      go_wp2_with fail
      refine (awake_any w hE).mono ?_
      rintro e w1 ⟨rfl, hb1⟩
      go_wp2
      go_ret
      exact ⟨rfl, hb1⟩
    · have q0 : ((c.toNat : Int) == 10) = false := by rw [beq_eq_false_iff_ne]; omega
      have q1 : ((c.toNat : Int) == 13) = true := by rw [beq_iff_eq]; omega
      clear h
      go_enter Try.func7, Try.ntmps7
      go_wp2_with fail
      refine (digit_any c w).mono ?_
      rintro e w1 ⟨rfl, rfl⟩
      rw [HC.out]
      go_wp2_with fail
      refine (awake_any w hE).mono ?_
      rintro e w1 ⟨rfl, hb1⟩
      go_wp2
      go_ret
      exact ⟨rfl, hb1⟩
    · have q0 : ((c.toNat : Int) == 10) = false := by rw [beq_eq_false_iff_ne]; omega
      have q1 : ((c.toNat : Int) == 13) = false := by rw [beq_eq_false_iff_ne]; omega
      have q2 : ((c.toNat : Int) == 61) = true := by rw [beq_iff_eq]; omega
      clear h
      go_enter Try.func7, Try.ntmps7
      go_wp2_with fail
      refine (digit_any c w).mono ?_
      rintro e w1 ⟨rfl, rfl⟩
      rw [HC.out]
      go_wp2_with fail
      refine (awake_any w hE).mono ?_
      rintro e w1 ⟨rfl, hb1⟩
      go_wp2
      go_ret
      exact ⟨rfl, hb1⟩
    · have q0 : ((c.toNat : Int) == 10) = false := by rw [beq_eq_false_iff_ne]; omega
      have q1 : ((c.toNat : Int) == 13) = false := by rw [beq_eq_false_iff_ne]; omega
      have q2 : ((c.toNat : Int) == 61) = false := by rw [beq_eq_false_iff_ne]; omega
      have q3 : ((d.toNat : Int) == 61) = true := by rw [beq_iff_eq]; omega
      clear h
      go_enter Try.func7, Try.ntmps7
      go_wp2_with fail
      refine (digit_any c w).mono ?_
      rintro e w1 ⟨rfl, rfl⟩
      rw [HC.out]
      go_wp2_with fail
      refine (awake_any w hE).mono ?_
      rintro e w1 ⟨rfl, hb1⟩
      go_wp2
      go_ret
      exact ⟨rfl, hb1⟩
    · have q0 : ((c.toNat : Int) == 10) = false := by rw [beq_eq_false_iff_ne]; omega
      have q1 : ((c.toNat : Int) == 13) = false := by rw [beq_eq_false_iff_ne]; omega
      have q2 : ((c.toNat : Int) == 61) = false := by rw [beq_eq_false_iff_ne]; omega
      have q3 : ((d.toNat : Int) == 61) = false := by rw [beq_eq_false_iff_ne]; omega
      obtain ⟨t, ht⟩ : ∃ t, (ByteArray.mk #[120, 61]) ++ (ByteArray.mk [c, d].toArray) = t := ⟨_, rfl⟩
      have hpl := Lib.hid (show plainL t.data.toList = t.data.toList by rw [← ht, app_data]; exact plain_bad HN.out (fun e => n0 (by rw [e]; rfl)) (fun e => n1 (by rw [e]; rfl)) (fun e => n2 (by rw [e]; rfl)) (fun e => n3 (by rw [e]; rfl)))
      have hts : t.size ≤ 4 := by rw [← ht, ByteArray.size_append]; exact Nat.le_refl _
      have HT := Lib.hid ht
      have hconv := Bld.lit [c, d] #[Value.int .u8 (c.toNat : Int), Value.int .u8 (d.toNat : Int)] w 2 2 rfl rfl
      have hb2 := (Below.refl w.heap.size w).alloc (Nat.le_refl _) (Obj.cells #[Value.int .u8 (c.toNat : Int), Value.int .u8 (d.toNat : Int)] 5)
      have hE2 := hE.next hb2
      clear ht
      clear n0 n1 n2 n3
      go_enter Try.func7, Try.ntmps7
      go_wp2_with fail
      refine (digit_any c w).mono ?_
      rintro e w1 ⟨rfl, rfl⟩
      rw [HC.out]
      go_wp2_with fail
      generalize hw2 : w.alloc (Obj.cells #[Value.int .u8 (c.toNat : Int), Value.int .u8 (d.toNat : Int)] 5) = w2 at hb2 hE2 ⊢
      clear hw2 hconv
      rw [HT.out]
      refine (dec_to hpl.out w2 (by omega) hE2).mono ?_
      rintro e w3 ⟨rfl, hb3⟩
      replace hb3 := hb2.trans (hb3.mono hb2.size)
      go_wp2_with fail
      refine (dec_to (s := { data := #[120, 61] }) (t := { data := #[120, 61] }) k1.out w3 (by decide) (hE.next hb3)).mono ?_
      rintro e w4 ⟨rfl, hb4⟩
      replace hb4 := hb3.trans (hb4.mono hb3.size)
      go_wp2_with fail
      refine (dec_to (s := { data := #[120, 61, 65] }) (t := { data := #[120, 61, 65] }) k2.out w4 (by decide) (hE.next hb4)).mono ?_
      rintro e w5 ⟨rfl, hb5⟩
      replace hb5 := hb4.trans (hb5.mono hb4.size)
      go_wp2_with fail
      refine (dec_to (s := { data := #[61, 13] }) (t := { data := #[61, 13] }) k3.out w5 (by decide) (hE.next hb5)).mono ?_
      rintro e w6 ⟨rfl, hb6⟩
      replace hb6 := hb5.trans (hb6.mono hb5.size)
      go_wp2_with fail
      refine (awake_tail w w6 hE hb6).mono ?_
      rintro e w7 ⟨rfl, hb7⟩
      go_wp2
      go_ret
      exact ⟨rfl, hb7⟩
  | true =>
    have HC := Lib.hid hc
    clear hc
    cases hd : digB d.toNat with
    | true =>
      have HD := Lib.hid hd
      clear hd
      go_enter Try.func7, Try.ntmps7
      go_wp2_with fail
      refine (digit_any c w).mono ?_
      rintro e w1 ⟨rfl, rfl⟩
      rw [HC.out]
      go_wp2_with fail
      refine (digit_any d w).mono ?_
      rintro e w1 ⟨rfl, rfl⟩
      rw [HD.out]
      go_wp2_with fail
      refine (awake_any w hE).mono ?_
      rintro e w1 ⟨rfl, hb1⟩
      go_wp2
      go_ret
      exact ⟨rfl, hb1⟩
    | false =>
      have HN : Hid (hx c = none ∨ hx d = none) := by show _ ∨ _; exact Or.inr (dig_not hd)
      have HD := Lib.hid hd
      clear hd
      rcases (show c.toNat = 10 ∨ (c.toNat ≠ 10 ∧ c.toNat = 13) ∨ (c.toNat ≠ 10 ∧ c.toNat ≠ 13 ∧ c.toNat = 61) ∨ (c.toNat ≠ 10 ∧ c.toNat ≠ 13 ∧ c.toNat ≠ 61 ∧ d.toNat = 61) ∨ (c.toNat ≠ 10 ∧ c.toNat ≠ 13 ∧ c.toNat ≠ 61 ∧ d.toNat ≠ 61) by omega) with h | h | h | h | ⟨n0, n1, n2, n3⟩
      · have q0 : ((c.toNat : Int) == 10) = true := by rw [beq_iff_eq]; omega
        clear h
        go_enter Try.func7, Try.ntmps7
        go_wp2_with fail
        refine (digit_any c w).mono ?_
        rintro e w1 ⟨rfl, rfl⟩
        rw [HC.out]
        go_wp2_with fail
        refine (digit_any d w).mono ?_
        rintro e w1 ⟨rfl, rfl⟩
        rw [HD.out]
        go_wp2_with fail
        refine (awake_any w hE).mono ?_
        rintro e w1 ⟨rfl, hb1⟩
        go_wp2
        go_ret
        exact ⟨rfl, hb1⟩
      · have q0 : ((c.toNat : Int) == 10) = false := by rw [beq_eq_false_iff_ne]; omega
        have q1 : ((c.toNat : Int) == 13) = true := by rw [beq_iff_eq]; omega
        clear h
        go_enter Try.func7, Try.ntmps7
        go_wp2_with fail
        refine (digit_any c w).mono ?_
        rintro e w1 ⟨rfl, rfl⟩
        rw [HC.out]
        go_wp2_with fail
        refine (digit_any d w).mono ?_
        rintro e w1 ⟨rfl, rfl⟩
        rw [HD.out]
        go_wp2_with fail
        refine (awake_any w hE).mono ?_
        rintro e w1 ⟨rfl, hb1⟩
        go_wp2
        go_ret
        exact ⟨rfl, hb1⟩
      · have q0 : ((c.toNat : Int) == 10) = false := by rw [beq_eq_false_iff_ne]; omega
        have q1 : ((c.toNat : Int) == 13) = false := by rw [beq_eq_false_iff_ne]; omega
        have q2 : ((c.toNat : Int) == 61) = true := by rw [beq_iff_eq]; omega
        clear h
        go_enter Try.func7, Try.ntmps7
        go_wp2_with fail
        refine (digit_any c w).mono ?_
        rintro e w1 ⟨rfl, rfl⟩
        rw [HC.out]
        go_wp2_with fail
        refine (digit_any d w).mono ?_
        rintro e w1 ⟨rfl, rfl⟩
        rw [HD.out]
        go_wp2_with fail
        refine (awake_any w hE).mono ?_
        rintro e w1 ⟨rfl, hb1⟩
        go_wp2
        go_ret
        exact ⟨rfl, hb1⟩
      · have q0 : ((c.toNat : Int) == 10) = false := by rw [beq_eq_false_iff_ne]; omega
        have q1 : ((c.toNat : Int) == 13) = false := by rw [beq_eq_false_iff_ne]; omega
        have q2 : ((c.toNat : Int) == 61) = false := by rw [beq_eq_false_iff_ne]; omega
        have q3 : ((d.toNat : Int) == 61) = true := by rw [beq_iff_eq]; omega
        clear h
        go_enter Try.func7, Try.ntmps7
        go_wp2_with fail
        refine (digit_any c w).mono ?_
        rintro e w1 ⟨rfl, rfl⟩
        rw [HC.out]
        go_wp2_with fail
        refine (digit_any d w).mono ?_
        rintro e w1 ⟨rfl, rfl⟩
        rw [HD.out]
        go_wp2_with fail
        refine (awake_any w hE).mono ?_
        rintro e w1 ⟨rfl, hb1⟩
        go_wp2
        go_ret
        exact ⟨rfl, hb1⟩
      · have q0 : ((c.toNat : Int) == 10) = false := by rw [beq_eq_false_iff_ne]; omega
        have q1 : ((c.toNat : Int) == 13) = false := by rw [beq_eq_false_iff_ne]; omega
        have q2 : ((c.toNat : Int) == 61) = false := by rw [beq_eq_false_iff_ne]; omega
        have q3 : ((d.toNat : Int) == 61) = false := by rw [beq_eq_false_iff_ne]; omega
        obtain ⟨t, ht⟩ : ∃ t, (ByteArray.mk #[120, 61]) ++ (ByteArray.mk [c, d].toArray) = t := ⟨_, rfl⟩
        have hpl := Lib.hid (show plainL t.data.toList = t.data.toList by rw [← ht, app_data]; exact plain_bad HN.out (fun e => n0 (by rw [e]; rfl)) (fun e => n1 (by rw [e]; rfl)) (fun e => n2 (by rw [e]; rfl)) (fun e => n3 (by rw [e]; rfl)))
        have hts : t.size ≤ 4 := by rw [← ht, ByteArray.size_append]; exact Nat.le_refl _
        have HT := Lib.hid ht
        have hconv := Bld.lit [c, d] #[Value.int .u8 (c.toNat : Int), Value.int .u8 (d.toNat : Int)] w 2 2 rfl rfl
        have hb2 := (Below.refl w.heap.size w).alloc (Nat.le_refl _) (Obj.cells #[Value.int .u8 (c.toNat : Int), Value.int .u8 (d.toNat : Int)] 5)
        have hE2 := hE.next hb2
        clear ht
        clear n0 n1 n2 n3
        go_enter Try.func7, Try.ntmps7
        go_wp2_with fail
        refine (digit_any c w).mono ?_
        rintro e w1 ⟨rfl, rfl⟩
        rw [HC.out]
        go_wp2_with fail
        refine (digit_any d w).mono ?_
        rintro e w1 ⟨rfl, rfl⟩
        rw [HD.out]
        go_wp2_with fail
        generalize hw2 : w.alloc (Obj.cells #[Value.int .u8 (c.toNat : Int), Value.int .u8 (d.toNat : Int)] 5) = w2 at hb2 hE2 ⊢
        clear hw2 hconv
        rw [HT.out]
        refine (dec_to hpl.out w2 (by omega) hE2).mono ?_
        rintro e w3 ⟨rfl, hb3⟩
        replace hb3 := hb2.trans (hb3.mono hb2.size)
        go_wp2_with fail
        refine (dec_to (s := { data := #[120, 61] }) (t := { data := #[120, 61] }) k1.out w3 (by decide) (hE.next hb3)).mono ?_
        rintro e w4 ⟨rfl, hb4⟩
        replace hb4 := hb3.trans (hb4.mono hb3.size)
        go_wp2_with fail
        refine (dec_to (s := { data := #[120, 61, 65] }) (t := { data := #[120, 61, 65] }) k2.out w4 (by decide) (hE.next hb4)).mono ?_
        rintro e w5 ⟨rfl, hb5⟩
        replace hb5 := hb4.trans (hb5.mono hb4.size)
        go_wp2_with fail
        refine (dec_to (s := { data := #[61, 13] }) (t := { data := #[61, 13] }) k3.out w5 (by decide) (hE.next hb5)).mono ?_
        rintro e w6 ⟨rfl, hb6⟩
        replace hb6 := hb5.trans (hb6.mono hb5.size)
        go_wp2_with fail
        refine (awake_tail w w6 hE hb6).mono ?_
        rintro e w7 ⟨rfl, hb7⟩
        go_wp2
        go_ret
        exact ⟨rfl, hb7⟩
end Go.Proofs.Ytdfjkncfbcmleaa.Q4
