/-
  The laws DateZones, DateLeaps return true. Conditions: what the functions of package date want (Env); the numbers are of their kinds.
-/
import Derived.Test.YtlhoellimldimaaDoorD6Laws2
import Derived.Test.YtlhoellimldimaaDoorU8Kit
import Derived.Test.YtlhoellimldimaaDoorRfDig
import Derived.Deep.RegionWith
namespace Go.Proofs.YtlhoellimldimaaDoor.D6
open Go Go.RowKit Go.Joins Kit

set_option maxHeartbeats 400000 in
theorem ltwo_any (x : Int) (n : Nat) (hx : x = (n : Int)) (hn : n ≤ 99) (w : World) :
    Calls Tryd.prog 25 #[.int .i64 x] w fun e w' => e = .returned (.string ⟨(two n).toArray⟩) ∧ Below w.heap.size w w' := by
  subst hx
  have hc := Lib.hid (U8.run_lit2 (48 + (n : Int) / 10) (48 + (n : Int) % 10) (by omega) (by omega) (by omega) (by omega) w)
  have HV := Lib.hid (show (⟨[U8.b8 (48 + (n : Int) / 10), U8.b8 (48 + (n : Int) % 10)].toArray⟩ : ByteArray) = ⟨(two n).toArray⟩ by
    unfold two dg U8.b8
    rw [show (48 + (n : Int) / 10).toNat = 48 + n / 10 by omega, show (48 + (n : Int) % 10).toNat = 48 + n % 10 by omega])
  have q0 : 0 ≤ (n : Int) / 10 := by omega
  have q1 : (n : Int) / 10 ≤ 9 := by omega
  have r0 : 0 ≤ (n : Int) % 10 := by omega
  have r1 : (n : Int) % 10 ≤ 9 := by omega
  have hcc := hc.out
  go_enter Tryd.func25, Tryd.ntmps25
  go_wp2
  go_ret
  exact ⟨ret_string HV.out, (Below.refl _ w).alloc (Nat.le_refl _) _⟩
theorem imap_eq (x : Int) (k : Nat) (hx : x = (k : Int)) (hk : k ≤ maxT) (w : World) (hE : Env w) :
    Calls Tryd.prog 13 #[.int .i64 x] w fun e w' => e = .returned (.string ⟨(imapL k).toArray⟩) ∧ Below w.heap.size w w' := by
  subst hx
  exact imap_at k hk w hE
theorem zone_text {N : Nat} {h m : Nat} {sg : UInt8} {T A B S : ByteArray} (hT : T.data.toList = imapL N) (hS : S.data.toList = [sg]) (hA : A.data.toList = two h) (hB : B.data.toList = two m) :
    (T.extract 0 21 ++ S ++ A ++ B).data.toList = (imapL N).take 21 ++ (sg :: (two h ++ two m)) := by
  rw [data_append, data_append, data_append, hS, hA, hB, Lib.extract_eq, hT]
  simp

set_option maxHeartbeats 2000000 in
set_option maxRecDepth 100000 in
theorem dateZones_walk (n hh mm : Int) (west : Bool) (n0 : 0 ≤ n) (n1 : n ≤ 4294967295) (h0 : 0 ≤ hh) (h1 : hh ≤ 255) (m0 : 0 ≤ mm) (m1 : mm ≤ 255) (w : World) (hE : Env w) :
    Calls Tryd.prog 7 #[.int .u32 n, .int .u8 hh, .int .u8 mm, .bool west] w fun e w' => e = .returned (.bool true) ∧ Below w.heap.size w w' := by
  obtain ⟨K, hK⟩ : ∃ K : Nat, n + 100000 = (K : Int) := ⟨(n + 100000).toNat, by omega⟩
  obtain ⟨H, hH⟩ : ∃ H : Nat, hh % 24 = (H : Int) := ⟨(hh % 24).toNat, by omega⟩
  obtain ⟨M, hM⟩ : ∃ M : Nat, mm % 60 = (M : Int) := ⟨(mm % 60).toNat, by omega⟩
  have kb : (K : Int) ≤ 4295067295 := by omega
  have ka : (100000 : Int) ≤ K := by omega
  have hb1 : (H : Int) ≤ 23 := by omega
  have mb1 : (M : Int) ≤ 59 := by omega
  have HN1 := Lib.hid (show rimapL ((imapL (K + (3600 * H + 60 * M))).take 21 ++ ((43 : UInt8) :: (two H ++ two M))) = some K from
    rimap_zone (by unfold maxT; omega) (by unfold maxT; omega) (by omega) (by omega) (Or.inl ⟨rfl, rfl⟩))
  have HN2 := Lib.hid (show rimapL ((imapL (K - (3600 * H + 60 * M))).take 21 ++ ((45 : UInt8) :: (two H ++ two M))) = some K from
    rimap_zone (by unfold maxT; omega) (by unfold maxT; omega) (by omega) (by omega) (Or.inr ⟨rfl, by omega⟩))
  have hb := Below.refl w.heap.size w
  go_enter Tryd.func7, Tryd.ntmps7
  go_upto_if 31 with fail
  go_cut [12, 13] from 31 to 34 (fun x y wx => ∃ (z : Int) (N : Nat) (sg : UInt8), x = .int .i64 z ∧ (K : Int) + z = (N : Int) ∧ y = .string ⟨#[sg]⟩ ∧ (N : Int) ≤ 4296000000 ∧ Hid (rimapL ((imapL N).take 21 ++ (sg :: (two H ++ two M))) = some K) ∧ w = wx)
  case first =>
    cases west with
    | false =>
      go_wp2
      go_meet
      exact ⟨3600 * H + 60 * M, K + (3600 * H + 60 * M), 43, rfl, by omega, rfl, by omega, HN1, rfl⟩
    | true =>
      go_wp2
      go_meet
      exact ⟨-(3600 * H + 60 * M), K - (3600 * H + 60 * M), 45, congrArg (Value.int .i64) (by omega), by omega, rfl, by omega, HN2, rfl⟩
  case rest =>
    obtain ⟨z, N, sg, rfl, hz, rfl, hN, HN, rfl⟩ := hcut
    have hNm : Hid (N ≤ maxT) := by show _ ≤ _; unfold maxT; omega
    obtain ⟨T, hT⟩ : ∃ T : ByteArray, (⟨(imapL N).toArray⟩ : ByteArray) = T := ⟨_, rfl⟩
    obtain ⟨A, hA⟩ : ∃ A : ByteArray, (⟨(two H).toArray⟩ : ByteArray) = A := ⟨_, rfl⟩
    obtain ⟨B, hB⟩ : ∃ B : ByteArray, (⟨(two M).toArray⟩ : ByteArray) = B := ⟨_, rfl⟩
    have sT : T.size = 26 := by rw [← hT]; rfl
    have sA : A.size = 2 := by rw [← hA]; rfl
    have sB : B.size = 2 := by rw [← hB]; rfl
    have sX : (T.extract 0 21).size = 21 := by rw [ByteArray.size_extract]; omega
    have sS : (⟨#[sg]⟩ : ByteArray).size = 1 := rfl
    have s1 : (T.extract 0 21 ++ ⟨#[sg]⟩).size = 22 := by rw [ByteArray.size_append, sX, sS]
    have s2 : (T.extract 0 21 ++ ⟨#[sg]⟩ ++ A).size = 24 := by rw [ByteArray.size_append, s1, sA]
    have s3 : (T.extract 0 21 ++ ⟨#[sg]⟩ ++ A ++ B).size ≤ 1048576 := by rw [ByteArray.size_append, s2, sB]; decide
    have HR := Lib.hid (show rimapL (T.extract 0 21 ++ ⟨#[sg]⟩ ++ A ++ B).data.toList = some K by
      rw [zone_text (N := N) (h := H) (m := M) (sg := sg) (by rw [← hT]) rfl (by rw [← hA]) (by rw [← hB])]
      exact HN.out)
    have HS3 := Lib.hid s3
    have HT := Lib.hid hT
    have HA := Lib.hid hA
    have HB := Lib.hid hB
    have sT' : (T.size : Int) = 26 := by omega
    clear hT hA hB s3 HN
    go_wp2_with fail
    refine (imap_at N hNm.out w hE).mono ?_
    rintro e w1 ⟨rfl, hb'⟩
    rw [HT.out]
    replace hb := hb.trans (hb'.mono hb.size)
    clear hb'
    go_upto_region 11 with fail
    go_cut [15, 16] from 41 (fun x y wx => x = .int .i64 (K : Int) ∧ y = .int .i64 0 ∧ Below w.heap.size w wx)
    case first =>
      refine wp_region_any (by kernel_rfl) ?_
      try (change wpAny _ _ _ _ _ _ _ (World.drew _))
      have hbd := hb.drew
      refine wpAny_take (i := 0) (v := ?_) rfl (by kernel_rfl) (by kernel_rfl) (by kernel_rfl) (fun _ _ _ h => h) (Or.inl ⟨by rfl, ?_⟩) ?_
      rotate_left 1
      · (intro w; go_simp) <;> with_reducible rfl
      refine wpAny_take (i := 1) (v := ?_) rfl (by kernel_rfl) (by kernel_rfl) (by kernel_rfl) (fun _ _ _ h => h) (Or.inl ⟨by rfl, ?_⟩) ?_
      rotate_left 1
      · (intro w; go_simp) <;> with_reducible rfl
      refine wpAny_take (i := 2) (v := ?_) rfl (by kernel_rfl) (by kernel_rfl) (by kernel_rfl) (fun _ _ _ h => h) (Or.inl ⟨by rfl, ?_⟩) ?_
      rotate_left 1
      · (intro w; go_simp) <;> with_reducible rfl
      refine wpAny_take (i := 3) (v := ?_) rfl (by kernel_rfl) (by kernel_rfl) (by kernel_rfl) (fun _ _ _ h => h) (Or.inl ⟨by rfl, ?_⟩) ?_
      rotate_left 1
      · (intro w; go_simp) <;> with_reducible rfl
      refine wpAny_take (i := 4) (v := ?_) rfl (by kernel_rfl) (by kernel_rfl) (by kernel_rfl) (fun _ _ _ h => h) (Or.inl ⟨by rfl, ?_⟩) ?_
      rotate_left 1
      · (intro w; go_simp) <;> with_reducible rfl
      refine wpAny_take (i := 7) (v := ?_) rfl (by kernel_rfl) (by kernel_rfl) (by kernel_rfl) (fun _ _ _ h => h) (Or.inl ⟨by rfl, ?_⟩) ?_
      rotate_left 1
      · (intro w; go_simp) <;> with_reducible rfl
      refine wpAny_ready (rs := [5]) (by kernel_rfl) (by simp) ?_
      refine AllReady.cons rfl (fun K hK => ?_) AllReady.nil
      go_simp
      go_wp2_with fail
      refine (ltwo_any _ H (by omega) (by omega) _).mono ?_
      rintro e w2 ⟨rfl, hb'⟩
      rw [HA.out]
      replace hbd := hbd.trans (hb'.mono hbd.size)
      clear hb'
      go_wp2_with fail
      refine wpAny_take (i := 6) (v := ?_) rfl (by kernel_rfl) (by kernel_rfl) (by kernel_rfl) (fun _ _ _ h => h) (Or.inl ⟨by rfl, ?_⟩) ?_
      rotate_left 1
      · (intro w; go_simp) <;> with_reducible rfl
      refine wpAny_ready (rs := [8]) (by kernel_rfl) (by simp) ?_
      refine AllReady.cons rfl (fun K hK => ?_) AllReady.nil
      go_simp
      go_wp2_with fail
      refine (ltwo_any _ M (by omega) (by omega) _).mono ?_
      rintro e w3 ⟨rfl, hb'⟩
      rw [HB.out]
      replace hbd := hbd.trans (hb'.mono hbd.size)
      clear hb'
      go_wp2_with fail
      refine wpAny_take (i := 9) (v := ?_) rfl (by kernel_rfl) (by kernel_rfl) (by kernel_rfl) (fun _ _ _ h => h) (Or.inl ⟨by rfl, ?_⟩) ?_
      rotate_left 1
      · (intro w; go_simp) <;> with_reducible rfl
      refine wpAny_ready (rs := [10]) (by kernel_rfl) (by simp) ?_
      refine AllReady.cons rfl (fun K hK => ?_) AllReady.nil
      go_simp
      go_wp2_with fail
      refine (readImap_to HR.out _ HS3.out (hE.next hbd)).mono ?_
      rintro e w4 ⟨rfl, hb'⟩
      replace hbd := hbd.trans (hb'.mono hbd.size)
      clear hb'
      go_wp2_with fail
      refine wpAny_take (i := 11) (v := ?_) rfl (by kernel_rfl) (by kernel_rfl) (by kernel_rfl) (fun _ _ _ h => h) (Or.inl ⟨by rfl, ?_⟩) ?_
      rotate_left 1
      · (intro w; go_simp) <;> with_reducible rfl
      refine wpAny_take (i := 12) (v := ?_) rfl (by kernel_rfl) (by kernel_rfl) (by kernel_rfl) (fun _ _ _ h => h) (Or.inl ⟨by rfl, ?_⟩) ?_
      rotate_left 1
      · (intro w; go_simp) <;> with_reducible rfl
      refine wpAny_take (i := 13) (v := ?_) rfl (by kernel_rfl) (by kernel_rfl) (by kernel_rfl) (fun _ _ _ h => h) (Or.inl ⟨by rfl, ?_⟩) ?_
      rotate_left 1
      · (intro w; go_simp) <;> with_reducible rfl
      refine wpAny_take (i := 14) (v := ?_) rfl (by kernel_rfl) (by kernel_rfl) (by kernel_rfl) (fun _ _ _ h => h) (Or.inl ⟨by rfl, ?_⟩) ?_
      rotate_left 1
      · (intro w; go_simp) <;> with_reducible rfl
      refine wpAny_take (i := 15) (v := ?_) rfl (by kernel_rfl) (by kernel_rfl) (by kernel_rfl) (fun _ _ _ h => h) (Or.inl ⟨by rfl, ?_⟩) ?_
      rotate_left 1
      · (intro w; go_simp) <;> with_reducible rfl
      refine wpAny_done (by kernel_rfl) ?_ _
      go_wp2_with fail
      go_meet
      exact ⟨rfl, rfl, hbd⟩
    case rest =>
      obtain ⟨rfl, rfl, hbc⟩ := hcut
      go_wp2_with fail
      refine (L3.num_any 0 _).mono ?_
      rintro e w' ⟨rfl, rfl⟩
      go_wp2_with fail
      refine (awake_any _ (hE.next hbc)).mono ?_
      rintro e w7 ⟨rfl, hb'⟩
      replace hbc := hbc.trans (hb'.mono hbc.size)
      clear hb'
      go_wp2
      go_ret
      exact ⟨rfl, hbc⟩

/-! ### Leap days -/
theorem day_of (y m d : Nat) {s : ByteArray} {u : List UInt8} {D : ByteArray} (hD : D.data.toList = four y) (hs : s.data.toList = u) (h : dayL y m d = u ++ four y) : (s ++ D).data.toList = dayL y m d := by
  rw [data_append, hs, hD, h]
theorem readDay_eq {s : ByteArray} {v : Value} (h : rV (rdayL s.data.toList) = v) (w : World) (hs : s.size ≤ 1048576) (hE : Env w) :
    Calls Tryd.prog 22 #[.string s] w fun e w' => e = .returned v ∧ Below w.heap.size w w' := by
  have := readDay_any s w hs hE
  rwa [h] at this
theorem readRfc_eq {s : ByteArray} {v : Value} (h : rV (rrfcL s.data.toList) = v) (w : World) (hs : s.size ≤ 1048576) (hE : Env w) :
    Calls Tryd.prog 20 #[.string s] w fun e w' => e = .returned v ∧ Below w.heap.size w w' := by
  have := readRfc_any s w hs hE
  rwa [h] at this
theorem digits_at (y : Nat) (D : ByteArray) (h : Dg.digs (y : Int) = D) (hy : (y : Int) ≤ 9999) (w : World) :
    Calls Tryd.prog 26 #[.int .i64 (y : Int)] w fun e w' => e = .returned (.string D) ∧ Below w.heap.size w w' := by
  have := Rf.digits_call (y : Int) (by omega) (by omega) w
  rwa [h] at this
theorem leap_cases (y : Nat) : leapN y = ((decide ((y : Int) % 4 = 0) && !decide ((y : Int) % 100 = 0)) || decide ((y : Int) % 400 = 0)) := by
  have h := leap_iff y
  cases e : leapN y with
  | true =>
    have h' := h.1 e
    by_cases h4 : (y : Int) % 4 = 0 <;> by_cases h1 : (y : Int) % 100 = 0 <;> by_cases h2 : (y : Int) % 400 = 0 <;> simp [h4, h1, h2] <;> omega
  | false =>
    have h' : ¬ (y % 4 = 0 ∧ (y % 100 ≠ 0 ∨ y % 400 = 0)) := fun h' => by rw [h.2 h'] at e; cases e
    by_cases h4 : (y : Int) % 4 = 0 <;> by_cases h1 : (y : Int) % 100 = 0 <;> by_cases h2 : (y : Int) % 400 = 0 <;> simp [h4, h1, h2] <;> omega
theorem err_day29 {y : Nat} (hy : y < 10000) (hy1 : 1970 ≤ y) : ∃ a e, rV (rdayL (dayL y 2 29)) = .tuple #[.int .i64 a, .int .i64 e] ∧ (e == 0) = leapN y := by
  by_cases h : ValidD y 2 29
  · exact ⟨_, _, by rw [rday_valid hy hy1 h]; rfl, by rw [(feb29 y).1 h]; rfl⟩
  · refine ⟨_, _, by rw [rday_none hy (by decide) (by decide) (by decide) h]; rfl, ?_⟩
    cases e : leapN y with
    | true => exact absurd ((feb29 y).2 e) h
    | false => rfl
theorem err_rfc29 {y : Nat} (hy : y ≤ 9999) (hy1 : 1970 ≤ y) : ∃ a e, rV (rrfcL (leapT y)) = .tuple #[.int .i64 a, .int .i64 e] ∧ (e == 0) = leapN y := by
  cases h : leapN y with
  | true =>
    obtain ⟨n, hn⟩ := leap_yes hy1 hy h
    exact ⟨_, _, by rw [hn]; rfl, rfl⟩
  | false => exact ⟨_, _, by rw [leap_no hy h]; rfl, rfl⟩

set_option maxHeartbeats 4000000 in
set_option maxRecDepth 100000 in
theorem dateLeaps_walk (n : Int) (n0 : 0 ≤ n) (n1 : n ≤ 65535) (w : World) (hE : Env w) :
    Calls Tryd.prog 9 #[.int .u16 n] w fun e w' => e = .returned (.bool true) ∧ Below w.heap.size w w' := by
  obtain ⟨Y, hY⟩ : ∃ Y : Nat, 1970 + n % 8030 = (Y : Int) := ⟨(1970 + n % 8030).toNat, by omega⟩
  have ya : (1970 : Int) ≤ Y := by omega
  have yb : (Y : Int) ≤ 9999 := by omega
  obtain ⟨D, hD⟩ : ∃ D, Dg.digs (Y : Int) = D := ⟨_, rfl⟩
  have hDl : D.data.toList = four Y := by rw [← hD, digs_data, digits_four (by omega) (by omega)]
  have sD : D.size = 4 := by rw [Lib.size_eq, hDl]; rfl
  obtain ⟨a1, e1, r1, q1⟩ := err_day29 (y := Y) (by omega) (by omega)
  obtain ⟨a3, e3, r3, q3⟩ := err_rfc29 (y := Y) (by omega) (by omega)
  have hl := leap_days (y := Y) (by omega)
  have hm1 := secs_le (feb28 Y) (by omega)
  have hm2 := secs_le (mar1 Y) (by omega)
  obtain ⟨P, hP⟩ : ∃ P, (secs Y 2 28).toNat = P := ⟨_, rfl⟩
  obtain ⟨Q, hQ⟩ : ∃ Q, (secs Y 3 1).toNat = Q := ⟨_, rfl⟩
  have pb : (P : Int) ≤ 253402300799 := by omega
  have qb : (Q : Int) ≤ 253402300799 := by omega
  have X1 := Lib.hid (show rV (rdayL ((⟨#[50, 57, 45, 70, 101, 98, 45]⟩ : ByteArray) ++ D).data.toList) = .tuple #[.int .i64 a1, .int .i64 e1] by rw [day_of Y 2 29 hDl rfl rfl, r1])
  have X2 := Lib.hid (show rV (rdayL ((⟨#[51, 48, 45, 70, 101, 98, 45]⟩ : ByteArray) ++ D).data.toList) = .tuple #[.int .i64 0, .int .i64 3] by
    rw [day_of Y 2 30 hDl rfl rfl, rday_none (by omega) (by decide) (by decide) (by decide) (feb30 Y)]; rfl)
  have X3 := Lib.hid (show rV (rrfcL (D ++ (⟨#[45, 48, 50, 45, 50, 57, 84, 48, 48, 58, 48, 48, 58, 48, 48, 90]⟩ : ByteArray)).data.toList) = .tuple #[.int .i64 a3, .int .i64 e3] by
    rw [data_append, hDl]; exact r3)
  have X4 := Lib.hid (show rV (rdayL ((⟨#[50, 56, 45, 70, 101, 98, 45]⟩ : ByteArray) ++ D).data.toList) = .tuple #[.int .i64 (P : Int), .int .i64 0] by
    rw [day_of Y 2 28 hDl rfl rfl, rday_valid (by omega) (by omega) (feb28 Y), hP]; rfl)
  have X5 := Lib.hid (show rV (rdayL ((⟨#[49, 45, 77, 97, 114, 45]⟩ : ByteArray) ++ D).data.toList) = .tuple #[.int .i64 (Q : Int), .int .i64 0] by
    rw [day_of Y 3 1 hDl rfl rfl, rday_valid (by omega) (by omega) (mar1 Y), hQ]; rfl)
  rw [hP, hQ] at hl
  have hlc := leap_cases Y
  obtain ⟨L, hL⟩ : ∃ L, leapN Y = L := ⟨_, rfl⟩
  rw [hL] at q1 q3 hl hlc
  have HD := Lib.hid hD
  have HQ1 := Lib.hid q1
  have HQ3 := Lib.hid q3
  have HL := Lib.hid hl
  have HLC := Lib.hid hlc
  clear hD hDl r1 r3 hm1 hm2 hP hQ hL q1 q3 hl hlc
  have hb := Below.refl w.heap.size w
  go_enter Tryd.func9, Tryd.ntmps9
  go_upto_region 2 with fail
  go_cut [4] from 20 (fun v wx => v = .bool L ∧ w = wx)
  case first =>
    by_cases h4 : (Y : Int) % 4 = 0 <;> by_cases h1 : (Y : Int) % 100 = 0 <;> by_cases h2 : (Y : Int) % 400 = 0
    all_goals
      first
      | (exfalso; omega)
      | (have e : L = _ := HLC.out
         simp only [h4, h1, h2, decide_true, decide_false, Bool.not_true, Bool.not_false, Bool.and_true, Bool.and_false, Bool.or_true, Bool.or_false] at e
         subst e
         clear HLC HL HQ1 HQ3 X1 X3
         go_wp2
         go_meet
         first | exact ⟨rfl, rfl⟩ | exact ⟨congrArg Value.bool (by simp [h2]), rfl⟩)
  case rest =>
    obtain ⟨rfl, rfl⟩ := hcut
    have z1 : ((⟨#[50, 57, 45, 70, 101, 98, 45]⟩ : ByteArray) ++ D).size ≤ 1048576 := by rw [ByteArray.size_append, sD]; decide
    have z2 : ((⟨#[51, 48, 45, 70, 101, 98, 45]⟩ : ByteArray) ++ D).size ≤ 1048576 := by rw [ByteArray.size_append, sD]; decide
    have z3 : (D ++ (⟨#[45, 48, 50, 45, 50, 57, 84, 48, 48, 58, 48, 48, 58, 48, 48, 90]⟩ : ByteArray)).size ≤ 1048576 := by rw [ByteArray.size_append, sD]; decide
    have z4 : ((⟨#[50, 56, 45, 70, 101, 98, 45]⟩ : ByteArray) ++ D).size ≤ 1048576 := by rw [ByteArray.size_append, sD]; decide
    have z5 : ((⟨#[49, 45, 77, 97, 114, 45]⟩ : ByteArray) ++ D).size ≤ 1048576 := by rw [ByteArray.size_append, sD]; decide
    have Z1 := Lib.hid z1
    have Z2 := Lib.hid z2
    have Z3 := Lib.hid z3
    have Z4 := Lib.hid z4
    have Z5 := Lib.hid z5
    clear z1 z2 z3 z4 z5
    go_wp2_with fail
    refine (digits_at Y D HD.out yb _).mono ?_
    rintro e wa1 ⟨rfl, hb'⟩
    replace hb := hb.trans (hb'.mono hb.size)
    clear hb'
    go_wp2_with fail
    refine (readDay_eq X1.out _ Z1.out (hE.next hb)).mono ?_
    rintro e wb1 ⟨rfl, hb'⟩
    replace hb := hb.trans (hb'.mono hb.size)
    clear hb'
    go_wp2_with fail
    refine (digits_at Y D HD.out yb _).mono ?_
    rintro e wa2 ⟨rfl, hb'⟩
    replace hb := hb.trans (hb'.mono hb.size)
    clear hb'
    go_wp2_with fail
    refine (readDay_eq X2.out _ Z2.out (hE.next hb)).mono ?_
    rintro e wb2 ⟨rfl, hb'⟩
    replace hb := hb.trans (hb'.mono hb.size)
    clear hb'
    go_wp2_with fail
    refine (digits_at Y D HD.out yb _).mono ?_
    rintro e wa3 ⟨rfl, hb'⟩
    replace hb := hb.trans (hb'.mono hb.size)
    clear hb'
    go_wp2_with fail
    refine (readRfc_eq X3.out _ Z3.out (hE.next hb)).mono ?_
    rintro e wb3 ⟨rfl, hb'⟩
    replace hb := hb.trans (hb'.mono hb.size)
    clear hb'
    go_wp2_with fail
    refine (digits_at Y D HD.out yb _).mono ?_
    rintro e wa4 ⟨rfl, hb'⟩
    replace hb := hb.trans (hb'.mono hb.size)
    clear hb'
    go_wp2_with fail
    refine (readDay_eq X4.out _ Z4.out (hE.next hb)).mono ?_
    rintro e wb4 ⟨rfl, hb'⟩
    replace hb := hb.trans (hb'.mono hb.size)
    clear hb'
    go_wp2_with fail
    refine (digits_at Y D HD.out yb _).mono ?_
    rintro e wa5 ⟨rfl, hb'⟩
    replace hb := hb.trans (hb'.mono hb.size)
    clear hb'
    go_wp2_with fail
    refine (readDay_eq X5.out _ Z5.out (hE.next hb)).mono ?_
    rintro e wb5 ⟨rfl, hb'⟩
    replace hb := hb.trans (hb'.mono hb.size)
    clear hb'
    have hl1 := HL.out
    have hq1 := HQ1.out
    have hq3 := HQ3.out
    clear HL HQ1 HQ3 HLC
    cases L with
    | true =>
      simp only [if_true] at hl1
      replace hl1 : (Q : Int) - (P : Int) = 172800 := by omega
      go_wp2_with fail
      refine (L3.num_any e1 _).mono ?_
      rintro e w' ⟨rfl, rfl⟩
      go_wp2_with fail
      refine (L3.num_any 3 _).mono ?_
      rintro e w' ⟨rfl, rfl⟩
      go_wp2_with fail
      refine (L3.num_any e3 _).mono ?_
      rintro e w' ⟨rfl, rfl⟩
      go_wp2_with fail
      refine (L3.num_any 0 _).mono ?_
      rintro e w' ⟨rfl, rfl⟩
      go_wp2_with fail
      refine (L3.num_any 0 _).mono ?_
      rintro e w' ⟨rfl, rfl⟩
      go_wp2_with fail
      refine (awake_any _ (hE.next hb)).mono ?_
      rintro e w7 ⟨rfl, hb'⟩
      replace hb := hb.trans (hb'.mono hb.size)
      clear hb'
      go_wp2
      go_ret
      exact ⟨rfl, hb⟩
    | false =>
      simp only [Bool.false_eq_true, if_false] at hl1
      replace hl1 : (Q : Int) - (P : Int) = 86400 := by omega
      go_wp2_with fail
      refine (L3.num_any e1 _).mono ?_
      rintro e w' ⟨rfl, rfl⟩
      go_wp2_with fail
      refine (L3.num_any 3 _).mono ?_
      rintro e w' ⟨rfl, rfl⟩
      go_wp2_with fail
      refine (L3.num_any e3 _).mono ?_
      rintro e w' ⟨rfl, rfl⟩
      go_wp2_with fail
      refine (L3.num_any 0 _).mono ?_
      rintro e w' ⟨rfl, rfl⟩
      go_wp2_with fail
      refine (L3.num_any 0 _).mono ?_
      rintro e w' ⟨rfl, rfl⟩
      go_wp2_with fail
      refine (awake_any _ (hE.next hb)).mono ?_
      rintro e w7 ⟨rfl, hb'⟩
      replace hb := hb.trans (hb'.mono hb.size)
      clear hb'
      go_wp2
      go_ret
      exact ⟨rfl, hb⟩
end Go.Proofs.YtlhoellimldimaaDoor.D6
