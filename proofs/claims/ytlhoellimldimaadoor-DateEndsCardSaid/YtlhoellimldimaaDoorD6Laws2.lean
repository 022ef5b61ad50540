/-
  The laws DateOrders, DateEnds, DateBack, DateNext return true. Conditions: what the functions of package date want (Env); the numbers are of their kinds.
-/
import Derived.Test.YtlhoellimldimaaDoorD6Laws
import Derived.Test.YtlhoellimldimaaDoorD6Facts
import Derived.Deep.CutRange
namespace Go.Proofs.YtlhoellimldimaaDoor.D6
open Go Go.RowKit Go.Joins Kit

theorem imap_at (k : Nat) (hk : k ≤ maxT) (w : World) (hE : Env w) :
    Calls Tryd.prog 13 #[.int .i64 (k : Int)] w fun e w' => e = .returned (.string ⟨(imapL k).toArray⟩) ∧ Below w.heap.size w w' := by
  have h9 : k ≤ 253402300799 := hk
  have := imap_any (k : Int) (by omega) (by omega) w hE
  rwa [clamp_in hk] at this
theorem rfc_at (k : Nat) (hk : k ≤ maxT) (w : World) (hE : Env w) :
    Calls Tryd.prog 15 #[.int .i64 (k : Int)] w fun e w' => e = .returned (.string ⟨(rfcL k).toArray⟩) ∧ Below w.heap.size w w' := by
  have h9 : k ≤ 253402300799 := hk
  have := rfc_any (k : Int) (by omega) (by omega) w hE
  rwa [clamp_in hk] at this
theorem civ_at (x : Int) (k : Nat) (hx : x = (k : Int)) (hk : k ≤ maxT) (w : World) (hE : Env w) :
    Calls Tryd.prog 11 #[.int .i64 x] w fun e w' => e = .returned (civV k) ∧ Below w.heap.size w w' := by
  subst hx
  have h9 : k ≤ 253402300799 := hk
  have := civ_any (k : Int) (by omega) (by omega) w hE
  rwa [clamp_in hk] at this
theorem rfc_low (x : Int) (hx : x ≤ 0) (h0 : -9223372036854775808 ≤ x) (w : World) (hE : Env w) :
    Calls Tryd.prog 15 #[.int .i64 x] w fun e w' => e = .returned (.string (ByteArray.mk #[49, 57, 55, 48, 45, 48, 49, 45, 48, 49, 84, 48, 48, 58, 48, 48, 58, 48, 48, 90])) ∧ Below w.heap.size w w' :=
  rfc_to (by rw [show clamp x = 0 by unfold clamp; omega]; exact rfc_first) h0 (by omega) w hE
theorem imap_low (x : Int) (hx : x ≤ 0) (h0 : -9223372036854775808 ≤ x) (w : World) (hE : Env w) :
    Calls Tryd.prog 13 #[.int .i64 x] w fun e w' => e = .returned (.string (ByteArray.mk #[32, 49, 45, 74, 97, 110, 45, 49, 57, 55, 48, 32, 48, 48, 58, 48, 48, 58, 48, 48, 32, 43, 48, 48, 48, 48])) ∧ Below w.heap.size w w' :=
  imap_to (by rw [show clamp x = 0 by unfold clamp; omega]; exact imap_first) h0 (by omega) w hE
theorem rfc_end (x : Int) (hx : 253402300799 ≤ x) (h1 : x ≤ 9223372036854775807) (w : World) (hE : Env w) :
    Calls Tryd.prog 15 #[.int .i64 x] w fun e w' => e = .returned (.string (ByteArray.mk #[57, 57, 57, 57, 45, 49, 50, 45, 51, 49, 84, 50, 51, 58, 53, 57, 58, 53, 57, 90])) ∧ Below w.heap.size w w' :=
  rfc_to (by rw [show clamp x = 253402300799 by unfold clamp; omega]; exact rfc_last) (by omega) h1 w hE

set_option maxHeartbeats 1000000 in
set_option maxRecDepth 100000 in
theorem dateEnds_walk (n : Int) (h0 : 0 ≤ n) (h1 : n ≤ 18446744073709551615) (w : World) (hE : Env w) :
    Calls Tryd.prog 10 #[.int .u64 n] w fun e w' => e = .returned (.bool true) ∧ Below w.heap.size w w' := by
  have hb := Below.refl w.heap.size w
  have k0 : 0 ≤ n / 2 := by omega
  have k1 : n / 2 ≤ 9223372036854775807 := by omega
  go_enter Tryd.func10, Tryd.ntmps10
  go_wp2_with fail
  refine (rfc_low _ (by omega) (by omega) w hE).mono ?_
  rintro e w1 ⟨rfl, hb'⟩
  replace hb := hb.trans (hb'.mono hb.size)
  clear hb'
  go_wp2_with fail
  refine (imap_low _ (by omega) (by omega) w1 (hE.next hb)).mono ?_
  rintro e w2 ⟨rfl, hb'⟩
  replace hb := hb.trans (hb'.mono hb.size)
  clear hb'
  go_wp2_with fail
  refine (rfc_end _ (by omega) (by omega) w2 (hE.next hb)).mono ?_
  rintro e w3 ⟨rfl, hb'⟩
  replace hb := hb.trans (hb'.mono hb.size)
  clear hb'
  go_wp2_with fail
  refine (awake_any w3 (hE.next hb)).mono ?_
  rintro e w4 ⟨rfl, hb'⟩
  replace hb := hb.trans (hb'.mono hb.size)
  clear hb'
  go_wp2
  go_ret
  exact ⟨rfl, hb⟩

set_option maxHeartbeats 1000000 in
set_option maxRecDepth 100000 in
theorem dateOrders_walk (a b : Int) (a0 : 0 ≤ a) (_a1 : a ≤ 18446744073709551615) (b0 : 0 ≤ b) (_b1 : b ≤ 18446744073709551615) (w : World) (hE : Env w) :
    Calls Tryd.prog 8 #[.int .u64 a, .int .u64 b] w fun e w' => e = .returned (.bool true) ∧ Below w.heap.size w w' := by
  obtain ⟨X, hX⟩ : ∃ X : Nat, (a % 253402300800) = (X : Int) := ⟨(a % 253402300800).toNat, by omega⟩
  obtain ⟨Z, hZ⟩ : ∃ Z : Nat, (b % 253402300800) = (Z : Int) := ⟨(b % 253402300800).toNat, by omega⟩
  have xb : (X : Int) ≤ 253402300799 := by omega
  have zb : (Z : Int) ≤ 253402300799 := by omega
  have xm : X ≤ maxT := by unfold maxT; omega
  have zm : Z ≤ maxT := by unfold maxT; omega
  obtain ⟨S, hS⟩ : ∃ S : ByteArray, (⟨(rfcL X).toArray⟩ : ByteArray) = S := ⟨_, rfl⟩
  obtain ⟨T, hT⟩ : ∃ T : ByteArray, (⟨(rfcL Z).toArray⟩ : ByteArray) = T := ⟨_, rfl⟩
  have sS : S.size = 20 := by rw [← hS]; rfl
  have lS : S.data.toList = rfcL X := by rw [← hS]
  have lT : T.data.toList = rfcL Z := by rw [← hT]
  have less : Op.bytesLess S.toList T.toList = decide ((X : Int) < Z) := by
    rw [bytesLess_eq, Lib.toList_data, Lib.toList_data, lS, lT]
    exact decide_eq_decide.2 (by rw [rfc_lt xm zm]; omega)
  have same : (S.toList == T.toList) = decide ((X : Int) = Z) := by
    rw [Lib.toList_data, Lib.toList_data, lS, lT]
    by_cases h : X = Z
    · subst h; simp
    · rw [decide_eq_false (by omega)]
      simpa using fun e => h (rfc_inj xm zm e)
  have eqq : ((X : Int) == (Z : Int)) = decide ((X : Int) = (Z : Int)) := by by_cases h : (X : Int) = Z <;> simp [h]
  have HS := Lib.hid hS
  have HT := Lib.hid hT
  have HXM := Lib.hid xm
  have HZM := Lib.hid zm
  clear hS hT lS lT xm zm
  have hb := Below.refl w.heap.size w
  go_enter Tryd.func8, Tryd.ntmps8
  go_wp2_with fail
  refine (rfc_at X HXM.out w hE).mono ?_
  rintro e w1 ⟨rfl, hb'⟩
  rw [HS.out]
  replace hb := hb.trans (hb'.mono hb.size)
  clear hb'
  go_wp2_with fail
  refine (rfc_at Z HZM.out w1 (hE.next hb)).mono ?_
  rintro e w2 ⟨rfl, hb'⟩
  rw [HT.out]
  replace hb := hb.trans (hb'.mono hb.size)
  clear hb'
  go_wp2_with fail
  refine (awake_any w2 (hE.next hb)).mono ?_
  rintro e w4 ⟨rfl, hb'⟩
  replace hb := hb.trans (hb'.mono hb.size)
  clear hb'
  go_wp2
  go_ret
  exact ⟨rfl, hb⟩

set_option maxHeartbeats 1000000 in
set_option maxRecDepth 100000 in
theorem dateBack_walk (n : Int) (a0 : 0 ≤ n) (_a1 : n ≤ 18446744073709551615) (w : World) (hE : Env w) :
    Calls Tryd.prog 5 #[.int .u64 n] w fun e w' => e = .returned (.bool true) ∧ Below w.heap.size w w' := by
  obtain ⟨k, hk⟩ : ∃ k : Nat, (n % 253402300800) = (k : Int) := ⟨(n % 253402300800).toNat, by omega⟩
  have kb : (k : Int) ≤ 253402300799 := by omega
  have km : k ≤ maxT := by unfold maxT; omega
  obtain ⟨S, hS⟩ : ∃ S : ByteArray, (⟨(rfcL k).toArray⟩ : ByteArray) = S := ⟨_, rfl⟩
  obtain ⟨T, hT⟩ : ∃ T : ByteArray, (⟨(imapL k).toArray⟩ : ByteArray) = T := ⟨_, rfl⟩
  have sS : S.size = 20 := by rw [← hS]; rfl
  have sT : T.size = 26 := by rw [← hT]; rfl
  have lS : S.data.toList = rfcL k := by rw [← hS]
  have lT : T.data.toList = imapL k := by rw [← hT]
  have HR1 := Lib.hid (show rimapL T.data.toList = some k by rw [lT]; exact rimap_back km)
  have HR2 := Lib.hid (show rrfcL S.data.toList = some k by rw [lS]; exact rrfc_back km)
  have HS := Lib.hid hS
  have HT := Lib.hid hT
  have HKM := Lib.hid km
  have HLT := Lib.hid lT
  obtain ⟨q, hq⟩ : ∃ q : Nat, k / 86400 * 86400 = q := ⟨_, rfl⟩
  have hqi : (k : Int) / 86400 * 86400 = (q : Int) := by omega
  have HQ := Lib.hid (show rdayL (dayL (yr k) (mo k) (dy k)) = some q by rw [rday_back km, hq])
  clear hS hT lS lT km hq
  have t0 : 0 < T.size := by omega
  have sT' : (T.size : Int) = 26 := by omega
  have hb := Below.refl w.heap.size w
  go_enter Tryd.func5, Tryd.ntmps5
  go_wp2_with fail
  refine (imap_at k HKM.out w hE).mono ?_
  rintro e w1 ⟨rfl, hb'⟩
  rw [HT.out]
  replace hb := hb.trans (hb'.mono hb.size)
  clear hb'
  go_wp2_with fail
  refine (readImap_to HR1.out w1 (by omega) (hE.next hb)).mono ?_
  rintro e w2 ⟨rfl, hb'⟩
  replace hb := hb.trans (hb'.mono hb.size)
  clear hb'
  go_wp2_with fail
  refine (rfc_at k HKM.out w2 (hE.next hb)).mono ?_
  rintro e w3 ⟨rfl, hb'⟩
  rw [HS.out]
  replace hb := hb.trans (hb'.mono hb.size)
  clear hb'
  go_wp2_with fail
  refine (readRfc_to HR2.out w3 (by omega) (hE.next hb)).mono ?_
  rintro e w4 ⟨rfl, hb'⟩
  replace hb := hb.trans (hb'.mono hb.size)
  clear hb'
  go_wp2_with fail
  refine (imap_at k HKM.out w4 (hE.next hb)).mono ?_
  rintro e w5 ⟨rfl, hb'⟩
  rw [HT.out]
  replace hb := hb.trans (hb'.mono hb.size)
  clear hb'
  go_upto_region 8 with fail
  have hp : (T.extract 0 11).size = 11 := by rw [ByteArray.size_extract]; omega
  have hl : (T.extract 0 11).data.toList = (imapL k).take 11 := by rw [Lib.extract_eq, HLT.out]; rfl
  obtain ⟨P, hP⟩ : ∃ P, T.extract 0 11 = P := ⟨_, rfl⟩
  rw [hP] at hp hl ⊢
  have p0 : 0 < P.size := by omega
  have hp' : (P.size : Int) = 11 := by omega
  have h0 : P.data.toList.getD 0 0 = (imapL k).getD 0 0 := by rw [hl]; rfl
  have HPL := Lib.hid hl
  have HP0 := Lib.hid h0
  clear hP hl h0
  go_upto_if 36 with fail
  go_cut [9] from 34 to 76 (fun v wx => ∃ D : ByteArray, v = .string D ∧ D.size ≤ 11 ∧ Hid (rdayL D.data.toList = some q) ∧ w5 = wx)
  case first =>
    by_cases cb : (P[0].toNat : Int) = 32
    · have hd : dy k < 10 := by
        rcases Nat.lt_or_ge (dy k) 10 with h | h
        · exact h
        · exact absurd ((HP0.out).symm.trans (byte_is (c := 32) p0 cb)) (day_high (by omega)).1
      have HD := Lib.hid (show rdayL (P.extract 1 11).data.toList = some q by
        rw [Lib.extract_eq, show (⟨((P.data.toList.drop 1).take (11 - 1)).toArray⟩ : ByteArray).data.toList = (P.data.toList.drop 1).take (11 - 1) from rfl,
          List.take_of_length_le (by rw [List.length_drop, ← Lib.size_eq]; omega), HPL.out, (day_low hd).2]
        exact HQ.out)
      have hsz : (P.extract 1 11).size ≤ 11 := by rw [ByteArray.size_extract]; omega
      go_wp2
      go_meet
      exact ⟨_, rfl, hsz, HD, rfl⟩
    · have hd : ¬ dy k < 10 := fun h => byte_not (c := 32) p0 cb (by rw [HP0.out]; exact (day_low h).1)
      have HD := Lib.hid (show rdayL P.data.toList = some q by rw [HPL.out, (day_high hd).2]; exact HQ.out)
      go_wp2
      go_meet
      exact ⟨_, rfl, by omega, HD, rfl⟩
  case rest =>
    obtain ⟨D, rfl, hD, HD, rfl⟩ := hcut
    go_wp2_with fail
    refine (readDay_to HD.out w5 (by omega) (hE.next hb)).mono ?_
    rintro e w6 ⟨rfl, hb'⟩
    replace hb := hb.trans (hb'.mono hb.size)
    clear hb'
    go_wp2_with fail
    refine (L3.num_any 0 w6).mono ?_
    rintro e w' ⟨rfl, rfl⟩
    go_wp2_with fail
    refine (L3.num_any 0 w6).mono ?_
    rintro e w' ⟨rfl, rfl⟩
    go_wp2_with fail
    refine (L3.num_any 0 w6).mono ?_
    rintro e w' ⟨rfl, rfl⟩
    go_wp2_with fail
    refine (awake_any w6 (hE.next hb)).mono ?_
    rintro e w7 ⟨rfl, hb'⟩
    replace hb := hb.trans (hb'.mono hb.size)
    clear hb'
    go_wp2
    go_ret
    exact ⟨rfl, hb⟩

theorem civ_def (k : Nat) : civV k = .tuple #[.int .i64 (yr k : Int), .int .i64 (mo k : Int), .int .i64 (dy k : Int), .int .i64 (ho k : Int), .int .i64 (mi k : Int), .int .i64 (se k : Int)] := rfl

set_option maxHeartbeats 2000000 in
set_option maxRecDepth 100000 in
theorem dateNext_walk (n : Int) (a0 : 0 ≤ n) (_a1 : n ≤ 18446744073709551615) (w : World) (hE : Env w) :
    Calls Tryd.prog 6 #[.int .u64 n] w fun e w' => e = .returned (.bool true) ∧ Below w.heap.size w w' := by
  obtain ⟨k, hk⟩ : ∃ k : Nat, (n % 253402300799) = (k : Int) := ⟨(n % 253402300799).toNat, by omega⟩
  have kb : (k : Int) ≤ 253402300798 := by omega
  have km : k + 1 ≤ maxT := by unfold maxT; omega
  obtain ⟨Y, hY⟩ : ∃ Y, yr k = Y := ⟨_, rfl⟩
  obtain ⟨M, hM⟩ : ∃ M, mo k = M := ⟨_, rfl⟩
  obtain ⟨D, hD⟩ : ∃ D, dy k = D := ⟨_, rfl⟩
  obtain ⟨H, hH⟩ : ∃ H, ho k = H := ⟨_, rfl⟩
  obtain ⟨I, hI⟩ : ∃ I, mi k = I := ⟨_, rfl⟩
  obtain ⟨S, hS⟩ : ∃ S, se k = S := ⟨_, rfl⟩
  have ht := time_lt k
  have yb : (Y : Int) ≤ 9999 := by have := (yr_in (n := k) (by omega)).2; omega
  have mb : (M : Int) ≤ 12 := by have := (date_valid k).2.1; omega
  have db : (D : Int) ≤ 31 := by have := (date_valid k).2.2.2; have := dim_le (yr k) (mo k); omega
  rw [hH, hI, hS] at ht
  obtain ⟨hb1, ib1, sb1⟩ := ht
  have HKM := Lib.hid km
  have HK0 := Lib.hid (show k ≤ maxT by omega)
  have HC := Lib.hid (show civV k = .tuple #[.int .i64 (Y : Int), .int .i64 (M : Int), .int .i64 (D : Int), .int .i64 (H : Int), .int .i64 (I : Int), .int .i64 (S : Int)] by rw [civ_def, hY, hM, hD, hH, hI, hS])
  clear km
  have hb := Below.refl w.heap.size w
  go_enter Tryd.func6, Tryd.ntmps6
  go_wp2_with fail
  refine (civ_at _ k rfl HK0.out w hE).mono ?_
  rintro e w1 ⟨rfl, hb'⟩
  rw [HC.out]
  replace hb := hb.trans (hb'.mono hb.size)
  clear hb'
  go_wp2_with fail
  refine (civ_at _ (k + 1) (by omega) HKM.out w1 (hE.next hb)).mono ?_
  rintro e w2 ⟨rfl, hb'⟩
  replace hb := hb.trans (hb'.mono hb.size)
  clear hb'
  by_cases c1 : (S : Int) < 59
  · obtain ⟨⟨e1, e2, e3⟩, e4, e5, e6⟩ := next_sec (k := k) (by omega)
    have HN := Lib.hid (show civV (k + 1) = .tuple #[.int .i64 (Y : Int), .int .i64 (M : Int), .int .i64 (D : Int), .int .i64 (H : Int), .int .i64 (I : Int), .int .i64 ((S : Int) + 1)] by
      rw [civ_def, e1, e2, e3, e4, e5, e6, hY, hM, hD, hH, hI, hS]; rfl)
    clear e1 e2 e3 e4 e5 e6 hY hM hD hH hI hS
    rw [HN.out]
    go_wp2_with fail
    refine (awake_any w2 (hE.next hb)).mono ?_
    rintro e w7 ⟨rfl, hb'⟩
    replace hb := hb.trans (hb'.mono hb.size)
    clear hb'
    go_wp2
    go_ret
    exact ⟨rfl, hb⟩
  by_cases c2 : (I : Int) < 59
  · obtain ⟨⟨e1, e2, e3⟩, e4, e5, e6⟩ := next_min (k := k) (by omega) (by omega)
    have HN := Lib.hid (show civV (k + 1) = .tuple #[.int .i64 (Y : Int), .int .i64 (M : Int), .int .i64 (D : Int), .int .i64 (H : Int), .int .i64 ((I : Int) + 1), .int .i64 0] by
      rw [civ_def, e1, e2, e3, e4, e5, e6, hY, hM, hD, hH, hI]; rfl)
    clear e1 e2 e3 e4 e5 e6 hY hM hD hH hI hS
    rw [HN.out]
    go_wp2_with fail
    refine (awake_any w2 (hE.next hb)).mono ?_
    rintro e w7 ⟨rfl, hb'⟩
    replace hb := hb.trans (hb'.mono hb.size)
    clear hb'
    go_wp2
    go_ret
    exact ⟨rfl, hb⟩
  by_cases c3 : (H : Int) < 23
  · obtain ⟨⟨e1, e2, e3⟩, e4, e5, e6⟩ := next_hour (k := k) (by omega) (by omega) (by omega)
    have HN := Lib.hid (show civV (k + 1) = .tuple #[.int .i64 (Y : Int), .int .i64 (M : Int), .int .i64 (D : Int), .int .i64 ((H : Int) + 1), .int .i64 0, .int .i64 0] by
      rw [civ_def, e1, e2, e3, e4, e5, e6, hY, hM, hD, hH]; rfl)
    clear e1 e2 e3 e4 e5 e6 hY hM hD hH hI hS
    rw [HN.out]
    go_wp2_with fail
    refine (awake_any w2 (hE.next hb)).mono ?_
    rintro e w7 ⟨rfl, hb'⟩
    replace hb := hb.trans (hb'.mono hb.size)
    clear hb'
    go_wp2
    go_ret
    exact ⟨rfl, hb⟩
  obtain ⟨hd, e4, e5, e6⟩ := next_day (k := k) (by omega) (by omega) (by omega)
  rw [hY, hM, hD] at hd
  rcases hd with ⟨e1, e2, e3⟩ | ⟨e1, e2, e3, e7⟩ | ⟨e1, e2, e3, e7, e8⟩
  · have HN := Lib.hid (show civV (k + 1) = .tuple #[.int .i64 (Y : Int), .int .i64 (M : Int), .int .i64 ((D : Int) + 1), .int .i64 0, .int .i64 0, .int .i64 0] by
      rw [civ_def, e1, e2, e3, e4, e5, e6]; rfl)
    clear e1 e2 e3 e4 e5 e6 hY hM hD hH hI hS
    rw [HN.out]
    go_wp2_with fail
    refine (awake_any w2 (hE.next hb)).mono ?_
    rintro e w7 ⟨rfl, hb'⟩
    replace hb := hb.trans (hb'.mono hb.size)
    clear hb'
    go_wp2
    go_ret
    exact ⟨rfl, hb⟩
  · have HN := Lib.hid (show civV (k + 1) = .tuple #[.int .i64 (Y : Int), .int .i64 ((M : Int) + 1), .int .i64 1, .int .i64 0, .int .i64 0, .int .i64 0] by
      rw [civ_def, e1, e2, e3, e4, e5, e6]; rfl)
    have q1 : ¬ (1 : Int) = (D : Int) + 1 := by omega
    have q2 : (28 : Int) ≤ D := by omega
    clear e1 e2 e3 e4 e5 e6 hY hM hD hH hI hS
    rw [HN.out]
    go_wp2_with fail
    refine (awake_any w2 (hE.next hb)).mono ?_
    rintro e w7 ⟨rfl, hb'⟩
    replace hb := hb.trans (hb'.mono hb.size)
    clear hb'
    go_wp2
    go_ret
    exact ⟨rfl, hb⟩
  · have HN := Lib.hid (show civV (k + 1) = .tuple #[.int .i64 ((Y : Int) + 1), .int .i64 1, .int .i64 1, .int .i64 0, .int .i64 0, .int .i64 0] by
      rw [civ_def, e1, e2, e3, e4, e5, e6]; rfl)
    clear e1 e2 e3 e4 e5 e6 hY hM hD hH hI hS
    subst e7 e8
    rw [HN.out]
    go_wp2_with fail
    refine (awake_any w2 (hE.next hb)).mono ?_
    rintro e w7 ⟨rfl, hb'⟩
    replace hb := hb.trans (hb'.mono hb.size)
    clear hb'
    go_wp2
    go_ret
    exact ⟨rfl, hb⟩
end Go.Proofs.YtlhoellimldimaaDoor.D6
