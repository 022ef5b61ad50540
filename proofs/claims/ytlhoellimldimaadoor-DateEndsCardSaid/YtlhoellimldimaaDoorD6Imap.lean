/-
  The document's answer for package date, as the statements have it: a second's text in IMAP's form read. Condition: none.
-/
import Derived.Test.YtlhoellimldimaaDoorD6Rfc
namespace Go.Proofs.YtlhoellimldimaaDoor.D6
open Go Go.RowKit Go.Joins Kit

theorem getD_byte (P : ByteArray) (h : 0 < P.size) (e : (P[0].toNat : Int) = 32) : P.data.toList.getD 0 0 = 32 := byte_is h e
theorem getD_nbyte (P : ByteArray) (h : 0 < P.size) (e : ¬ (P[0].toNat : Int) = 32) : P.data.toList.getD 0 0 ≠ 32 := byte_not (c := 32) h e
theorem first_two (s : ByteArray) (h : s.size = 26) : (s.extract 0 2).size = 2 ∧ (s.extract 0 2).data.toList = s.data.toList.take 2 ∧ s.data.toList.getD 0 0 = (s.extract 0 2).data.toList.getD 0 0 := by
  refine ⟨by rw [ByteArray.size_extract]; omega, by rw [ext_sub]; rfl, ?_⟩
  rw [ext_sub, sub, List.drop_zero]
  cases e : s.data.toList with
  | nil => rfl
  | cons a r => rfl
theorem opt_some {o : Option Nat} {x : Int} (h : optI o = x) (h0 : 0 ≤ x) : ∃ n : Nat, o = some n ∧ (n : Int) = x := by
  cases o with
  | none => exact absurd h (by show ¬ (-1 : Int) = x; omega)
  | some n => exact ⟨n, rfl, h⟩
theorem timeO_bad {h i s : Option Nat} (e : optI h < 0 ∨ 23 < optI h ∨ optI i < 0 ∨ 59 < optI i ∨ optI s < 0 ∨ 59 < optI s) : timeO h i s = none := by
  cases h with
  | none => rfl
  | some h =>
    cases i with
    | none => rfl
    | some i =>
      cases s with
      | none => rfl
      | some s =>
        unfold timeO
        simp only
        rw [if_neg]
        unfold optI at e
        simp only at e
        omega
theorem zoneO_bad {h i : Option Nat} (e : optI h < 0 ∨ 23 < optI h ∨ optI i < 0 ∨ 59 < optI i) : zoneO h i = none := by
  cases h with
  | none => rfl
  | some h =>
    cases i with
    | none => rfl
    | some i =>
      unfold zoneO
      simp only
      rw [if_neg]
      unfold optI at e
      simp only at e
      omega
theorem sum_b (a : Option Int) (c : Option Nat) (n : Bool) : sumO a none c n = none := by cases a <;> rfl
theorem sum_c (a : Option Int) (b : Option Nat) (n : Bool) : sumO a b none n = none := by cases a <;> cases b <;> rfl

set_option maxHeartbeats 4000000 in
set_option maxRecDepth 100000 in
theorem rimap_reads (s : ByteArray) (w : World) :
    Calls Tryd.prog 19 #[.string s] w fun e w' => e = .returned (rV (rimapL s.data.toList)) ∧ Below w.heap.size w w' := by
  obtain ⟨V, hV⟩ : ∃ V, rV (rimapL s.data.toList) = V := ⟨_, rfl⟩
  rw [hV]
  have HV := Lib.hid hV
  clear hV
  have HBAD := Lib.hid (fun (h : ¬ FormI s.data.toList) => show V = .tuple #[.int .i64 0, .int .i64 3] by rw [← HV.out, rimapL, if_neg h]; rfl)
  go_enter Tryd.func19, Tryd.ntmps19
  by_cases h26 : (s.size : Int) ≠ 26
  · have HF := Lib.hid (HBAD.out (fun e => h26 (by have := e.1; rw [← Lib.size_eq] at this; omega)))
    go_wp2
    go_ret2
    exact ⟨by rw [HF.out]; rfl, Below.refl _ _⟩
  have hz : s.size = 26 := by omega
  have h26' : (s.size : Int) = 26 := by omega
  clear h26
  have b2 : 2 < s.size := by omega
  by_cases c2 : (s[2].toNat : Int) ≠ 45
  · have HF := Lib.hid (HBAD.out (fun e => byte_not (c := 45) b2 c2 e.2.1))
    go_wp2
    go_ret2
    exact ⟨by rw [HF.out]; rfl, Below.refl _ _⟩
  have c2' : (s[2].toNat : Int) = 45 := by omega
  clear c2
  have b6 : 6 < s.size := by omega
  by_cases c6 : (s[6].toNat : Int) ≠ 45
  · have HF := Lib.hid (HBAD.out (fun e => byte_not (c := 45) b6 c6 e.2.2.1))
    go_wp2
    go_ret2
    exact ⟨by rw [HF.out]; rfl, Below.refl _ _⟩
  have c6' : (s[6].toNat : Int) = 45 := by omega
  clear c6
  have b11 : 11 < s.size := by omega
  by_cases c11 : (s[11].toNat : Int) ≠ 32
  · have HF := Lib.hid (HBAD.out (fun e => byte_not (c := 32) b11 c11 e.2.2.2.1))
    go_wp2
    go_ret2
    exact ⟨by rw [HF.out]; rfl, Below.refl _ _⟩
  have c11' : (s[11].toNat : Int) = 32 := by omega
  clear c11
  have b14 : 14 < s.size := by omega
  by_cases c14 : (s[14].toNat : Int) ≠ 58
  · have HF := Lib.hid (HBAD.out (fun e => byte_not (c := 58) b14 c14 e.2.2.2.2.1))
    go_wp2
    go_ret2
    exact ⟨by rw [HF.out]; rfl, Below.refl _ _⟩
  have c14' : (s[14].toNat : Int) = 58 := by omega
  clear c14
  have b17 : 17 < s.size := by omega
  by_cases c17 : (s[17].toNat : Int) ≠ 58
  · have HF := Lib.hid (HBAD.out (fun e => byte_not (c := 58) b17 c17 e.2.2.2.2.2.1))
    go_wp2
    go_ret2
    exact ⟨by rw [HF.out]; rfl, Below.refl _ _⟩
  have c17' : (s[17].toNat : Int) = 58 := by omega
  clear c17
  have b20 : 20 < s.size := by omega
  by_cases c20 : (s[20].toNat : Int) ≠ 32
  · have HF := Lib.hid (HBAD.out (fun e => byte_not (c := 32) b20 c20 e.2.2.2.2.2.2.1))
    go_wp2
    go_ret2
    exact ⟨by rw [HF.out]; rfl, Below.refl _ _⟩
  have c20' : (s[20].toNat : Int) = 32 := by omega
  clear c20
  have b21 : 21 < s.size := by omega
  have rest : (s[21].toNat : Int) ≠ 43 → (s[21].toNat : Int) ≠ 45 → V = .tuple #[.int .i64 0, .int .i64 3] := fun q1 q2 => HBAD.out (fun e => by
    rcases e.2.2.2.2.2.2.2 with h | h
    · exact byte_not (c := 43) b21 q1 h
    · exact byte_not (c := 45) b21 q2 h)
  have HREST := Lib.hid rest
  clear rest
  have form : ((s[21].toNat : Int) = 43 ∨ (s[21].toNat : Int) = 45) → FormI s.data.toList := fun q => ⟨by rw [← Lib.size_eq]; exact hz, byte_is b2 c2', byte_is b6 c6', byte_is b11 c11', byte_is b14 c14', byte_is b17 c17', byte_is b20 c20', by
    rcases q with q | q
    · exact Or.inl (byte_is b21 q)
    · exact Or.inr (byte_is b21 q)⟩
  have HFORM := Lib.hid form
  clear form
  obtain ⟨Y, hY⟩ : ∃ Y, numD (sub s.data.toList 7 4) = Y := ⟨_, rfl⟩
  obtain ⟨M, hM⟩ : ∃ M, whichN (sub s.data.toList 3 3) = M := ⟨_, rfl⟩
  obtain ⟨D, hD'⟩ : ∃ D, numD (dayT s.data.toList) = D := ⟨_, rfl⟩
  obtain ⟨H, hH⟩ : ∃ H, numD (sub s.data.toList 12 2) = H := ⟨_, rfl⟩
  obtain ⟨I, hI⟩ : ∃ I, numD (sub s.data.toList 15 2) = I := ⟨_, rfl⟩
  obtain ⟨S, hS⟩ : ∃ S, numD (sub s.data.toList 18 2) = S := ⟨_, rfl⟩
  obtain ⟨ZH, hZH⟩ : ∃ S, numD (sub s.data.toList 22 2) = S := ⟨_, rfl⟩
  obtain ⟨ZM, hZM⟩ : ∃ S, numD (sub s.data.toList 24 2) = S := ⟨_, rfl⟩
  have yb : optI Y ≤ 9999 := by have := (optI_le 4 (sub_le s.data.toList 7 4)).2; rw [hY] at this; omega
  have mb : M ≤ 12 := by rw [← hM]; exact which_le _
  have db : optI D ≤ 99 := by
    have hl : (dayT s.data.toList).length ≤ 2 := by unfold dayT; split <;> simp <;> omega
    have := (optI_le 2 hl).2; rw [hD'] at this; omega
  have hb : -1 ≤ optI H ∧ optI H ≤ 99 := by have := optI_le 2 (sub_le s.data.toList 12 2); rw [hH] at this; omega
  have ib : -1 ≤ optI I ∧ optI I ≤ 99 := by have := optI_le 2 (sub_le s.data.toList 15 2); rw [hI] at this; omega
  have sb : -1 ≤ optI S ∧ optI S ≤ 99 := by have := optI_le 2 (sub_le s.data.toList 18 2); rw [hS] at this; omega
  have zhb : -1 ≤ optI ZH ∧ optI ZH ≤ 99 := by have := optI_le 2 (sub_le s.data.toList 22 2); rw [hZH] at this; omega
  have zmb : -1 ≤ optI ZM ∧ optI ZM ≤ 99 := by have := optI_le 2 (sub_le s.data.toList 24 2); rw [hZM] at this; omega
  have hNY : optI (numD (sub s.data.toList 7 (11 - 7))) = optI Y := by rw [hY]
  have hN2 : ((whichN (sub s.data.toList 3 (6 - 3)) : Nat) : Int) = M := by rw [hM]
  have hNH : optI (numD (sub s.data.toList 12 (14 - 12))) = optI H := by rw [hH]
  have hNI : optI (numD (sub s.data.toList 15 (17 - 15))) = optI I := by rw [hI]
  have hNS : optI (numD (sub s.data.toList 18 (20 - 18))) = optI S := by rw [hS]
  have hNZH : optI (numD (sub s.data.toList 22 (24 - 22))) = optI ZH := by rw [hZH]
  have hNZM : optI (numD (sub s.data.toList 24 (26 - 24))) = optI ZM := by rw [hZM]
  have hx3 : (s.extract 3 6).size ≤ 1000 := by have := ext_le s 3 6 3 (by omega); omega
  obtain ⟨v, ok, hsec, hok1, hok0⟩ := secV_parts Y D mb
  have HS1 := Lib.hid hok1
  have HS0 := Lib.hid hok0
  have HSEC := Lib.hid hsec
  clear hsec hok1 hok0
  have rr : ∀ neg : Bool, decide (s.data.toList.getD 21 0 = 45) = neg → FormI s.data.toList → rimapL s.data.toList = sumO (secsO Y M D) (timeO H I S) (zoneO ZH ZM) neg := fun neg e1 e2 => by
    rw [rimapL, if_pos e2, hY, hM, hD', hH, hI, hS, hZH, hZM, e1]
  have HRR := Lib.hid rr
  clear rr hY hM hH hI hS hZH hZM
  by_cases c43 : (s[21].toNat : Int) = 43
  · have HR := Lib.hid (HRR.out false (by rw [byte_is (c := 43) b21 c43]; rfl) (HFORM.out (Or.inl c43)))
    clear HRR HFORM HREST HBAD
    go_upto_region 4 with fail
    have hp := first_two s hz
    obtain ⟨P, hP⟩ : ∃ P, s.extract 0 2 = P := ⟨_, rfl⟩
    rw [hP] at hp ⊢
    obtain ⟨hps, hpl, hp0⟩ := hp
    have HPL := Lib.hid hpl
    have HP0 := Lib.hid hp0
    clear hP hpl hp0
    have p0 : 0 < P.size := by omega
    have hps' : (P.size : Int) = 2 := by omega
    go_upto_if 60 with fail
    go_cut [4] from 58 to 159 (fun v wx => ∃ T : ByteArray, v = .string T ∧ T.size ≤ 2 ∧ Hid (T.data.toList = dayT s.data.toList) ∧ w = wx)
    case first =>
      by_cases cb : (P[0].toNat : Int) = 32
      · have HT := Lib.hid (show (P.extract 1 2).data.toList = dayT s.data.toList by
          rw [dayT, if_pos (by rw [HP0.out]; exact getD_byte P p0 cb), ← HPL.out, ext_sub, sub, List.take_of_length_le (by rw [List.length_drop, ← Lib.size_eq]; omega)])
        have hsz : (P.extract 1 2).size ≤ 2 := by rw [ByteArray.size_extract]; omega
        go_wp2
        go_meet
        exact ⟨_, rfl, hsz, HT, rfl⟩
      · have HT := Lib.hid (show P.data.toList = dayT s.data.toList by
          rw [dayT, if_neg (by rw [HP0.out]; exact getD_nbyte P p0 cb), ← HPL.out])
        go_wp2
        go_meet
        exact ⟨_, rfl, by omega, HT, rfl⟩
    case rest =>
    obtain ⟨T, rfl, hT, HT, rfl⟩ := hcut
    have hND : optI (numD T.data.toList) = optI D := by rw [HT.out, hD']
    have hx2 : T.size ≤ 4 := by omega
    have hw0 : Below w.heap.size w w.drew := (Below.refl _ w).drew
    go_wp2_with fail
    refine wp_region_any (by kernel_rfl) ?_
    try (change wpAny _ _ _ _ _ _ _ (World.drew _))
    refine wpAny_take (i := 0) (v := ?_) rfl (by kernel_rfl) (by kernel_rfl) (by kernel_rfl) (fun _ _ _ h => h) (Or.inl ⟨by rfl, ?_⟩) ?_
    rotate_left 1
    · (intro w; go_simp) <;> with_reducible rfl
    refine wpAny_take (i := 1) (v := ?_) rfl (by kernel_rfl) (by kernel_rfl) (by kernel_rfl) (fun _ _ _ h => h) (Or.inl ⟨by rfl, ?_⟩) ?_
    rotate_left 1
    · (intro w; go_simp) <;> with_reducible rfl
    refine wpAny_take (i := 3) (v := ?_) rfl (by kernel_rfl) (by kernel_rfl) (by kernel_rfl) (fun _ _ _ h => h) (Or.inl ⟨by rfl, ?_⟩) ?_
    rotate_left 1
    · (intro w; go_simp) <;> with_reducible rfl
    refine wpAny_take (i := 4) (v := ?_) rfl (by kernel_rfl) (by kernel_rfl) (by kernel_rfl) (fun _ _ _ h => h) (Or.inl ⟨by rfl, ?_⟩) ?_
    rotate_left 1
    · (intro w; go_simp) <;> with_reducible rfl
    refine wpAny_take (i := 6) (v := ?_) rfl (by kernel_rfl) (by kernel_rfl) (by kernel_rfl) (fun _ _ _ h => h) (Or.inl ⟨by rfl, ?_⟩) ?_
    rotate_left 1
    · (intro w; go_simp) <;> with_reducible rfl
    refine wpAny_ready (rs := [2]) (by kernel_rfl) (by simp) ?_
    refine AllReady.cons rfl (fun K hK => ?_) AllReady.nil
    go_simp
    go_wp2_with fail
    refine (rnum_any (s.extract 7 11) (ext_le s 7 11 4 (by omega)) _).mono ?_
    rintro e wn ⟨rfl, rfl⟩
    rw [ext_sub, hNY]
    go_wp2_with fail
    refine wpAny_ready (rs := [5]) (by kernel_rfl) (by simp) ?_
    refine AllReady.cons rfl (fun K hK => ?_) AllReady.nil
    go_simp
    go_wp2_with fail
    refine (rwhich_any (s.extract 3 6) hx3 _).mono ?_
    rintro e w2 ⟨rfl, hb2⟩
    rw [ext_sub, hN2]
    go_wp2_with fail
    refine wpAny_ready (rs := [7]) (by kernel_rfl) (by simp) ?_
    refine AllReady.cons rfl (fun K hK => ?_) AllReady.nil
    go_simp
    go_wp2_with fail
    refine (rnum_any T hx2 _).mono ?_
    rintro e wn ⟨rfl, rfl⟩
    rw [hND]
    go_wp2_with fail
    refine wpAny_ready (rs := [8]) (by kernel_rfl) (by simp) ?_
    refine AllReady.cons rfl (fun K hK => ?_) AllReady.nil
    go_simp
    go_wp2_with fail
    refine (rsec_at Y (some M) D _ _ _ rfl rfl rfl yb (by show (M : Int) ≤ 99; omega) db _).mono ?_
    rintro e wn ⟨rfl, rfl⟩
    rw [HSEC.out]
    go_wp2_with fail
    refine wpAny_take (i := 9) (v := ?_) rfl (by kernel_rfl) (by kernel_rfl) (by kernel_rfl) (fun _ _ _ h => h) (Or.inl ⟨by rfl, ?_⟩) ?_
    rotate_left 1
    · (intro w; go_simp) <;> with_reducible rfl
    refine wpAny_take (i := 10) (v := ?_) rfl (by kernel_rfl) (by kernel_rfl) (by kernel_rfl) (fun _ _ _ h => h) (Or.inl ⟨by rfl, ?_⟩) ?_
    rotate_left 1
    · (intro w; go_simp) <;> with_reducible rfl
    refine wpAny_take (i := 11) (v := ?_) rfl (by kernel_rfl) (by kernel_rfl) (by kernel_rfl) (fun _ _ _ h => h) (Or.inl ⟨by rfl, ?_⟩) ?_
    rotate_left 1
    · (intro w; go_simp) <;> with_reducible rfl
    refine wpAny_take (i := 12) (v := ?_) rfl (by kernel_rfl) (by kernel_rfl) (by kernel_rfl) (fun _ _ _ h => h) (Or.inl ⟨by rfl, ?_⟩) ?_
    rotate_left 1
    · (intro w; go_simp) <;> with_reducible rfl
    refine wpAny_take (i := 13) (v := ?_) rfl (by kernel_rfl) (by kernel_rfl) (by kernel_rfl) (fun _ _ _ h => h) (Or.inl ⟨by rfl, ?_⟩) ?_
    rotate_left 1
    · (intro w; go_simp) <;> with_reducible rfl
    refine wpAny_done (by kernel_rfl) ?_ _
    have hb3 := below_first hb2
    clear hb2
    obtain ⟨h, hh⟩ : ∃ h, optI H = h := ⟨_, rfl⟩
    obtain ⟨i, hi⟩ : ∃ i, optI I = i := ⟨_, rfl⟩
    obtain ⟨c, hc⟩ : ∃ c, optI S = c := ⟨_, rfl⟩
    obtain ⟨zh, hzh⟩ : ∃ c, optI ZH = c := ⟨_, rfl⟩
    obtain ⟨zm, hzm⟩ : ∃ c, optI ZM = c := ⟨_, rfl⟩
    rw [hh] at hb hNH
    rw [hi] at ib hNI
    rw [hc] at sb hNS
    rw [hzh] at zhb hNZH
    rw [hzm] at zmb hNZM
    have HH := Lib.hid hh
    have HI := Lib.hid hi
    have HC := Lib.hid hc
    have HZH := Lib.hid hzh
    have HZM := Lib.hid hzm
    clear hh hi hc hzh hzm
    go_wp2_with fail
    refine wp_region_any (by kernel_rfl) ?_
    try (change wpAny _ _ _ _ _ _ _ (World.drew _))
    refine wpAny_take (i := 0) (v := ?_) rfl (by kernel_rfl) (by kernel_rfl) (by kernel_rfl) (fun _ _ _ h => h) (Or.inl ⟨by rfl, ?_⟩) ?_
    rotate_left 1
    · (intro w; go_simp) <;> with_reducible rfl
    refine wpAny_take (i := 1) (v := ?_) rfl (by kernel_rfl) (by kernel_rfl) (by kernel_rfl) (fun _ _ _ h => h) (Or.inl ⟨by rfl, ?_⟩) ?_
    rotate_left 1
    · (intro w; go_simp) <;> with_reducible rfl
    refine wpAny_take (i := 3) (v := ?_) rfl (by kernel_rfl) (by kernel_rfl) (by kernel_rfl) (fun _ _ _ h => h) (Or.inl ⟨by rfl, ?_⟩) ?_
    rotate_left 1
    · (intro w; go_simp) <;> with_reducible rfl
    refine wpAny_take (i := 4) (v := ?_) rfl (by kernel_rfl) (by kernel_rfl) (by kernel_rfl) (fun _ _ _ h => h) (Or.inl ⟨by rfl, ?_⟩) ?_
    rotate_left 1
    · (intro w; go_simp) <;> with_reducible rfl
    refine wpAny_take (i := 6) (v := ?_) rfl (by kernel_rfl) (by kernel_rfl) (by kernel_rfl) (fun _ _ _ h => h) (Or.inl ⟨by rfl, ?_⟩) ?_
    rotate_left 1
    · (intro w; go_simp) <;> with_reducible rfl
    refine wpAny_take (i := 7) (v := ?_) rfl (by kernel_rfl) (by kernel_rfl) (by kernel_rfl) (fun _ _ _ h => h) (Or.inl ⟨by rfl, ?_⟩) ?_
    rotate_left 1
    · (intro w; go_simp) <;> with_reducible rfl
    refine wpAny_take (i := 9) (v := ?_) rfl (by kernel_rfl) (by kernel_rfl) (by kernel_rfl) (fun _ _ _ h => h) (Or.inl ⟨by rfl, ?_⟩) ?_
    rotate_left 1
    · (intro w; go_simp) <;> with_reducible rfl
    refine wpAny_take (i := 10) (v := ?_) rfl (by kernel_rfl) (by kernel_rfl) (by kernel_rfl) (fun _ _ _ h => h) (Or.inl ⟨by rfl, ?_⟩) ?_
    rotate_left 1
    · (intro w; go_simp) <;> with_reducible rfl
    refine wpAny_take (i := 12) (v := ?_) rfl (by kernel_rfl) (by kernel_rfl) (by kernel_rfl) (fun _ _ _ h => h) (Or.inl ⟨by rfl, ?_⟩) ?_
    rotate_left 1
    · (intro w; go_simp) <;> with_reducible rfl
    refine wpAny_take (i := 13) (v := ?_) rfl (by kernel_rfl) (by kernel_rfl) (by kernel_rfl) (fun _ _ _ h => h) (Or.inl ⟨by rfl, ?_⟩) ?_
    rotate_left 1
    · (intro w; go_simp) <;> with_reducible rfl
    refine wpAny_ready (rs := [2]) (by kernel_rfl) (by simp) ?_
    refine AllReady.cons rfl (fun K hK => ?_) AllReady.nil
    go_simp
    go_wp2_with fail
    refine (rnum_any (s.extract 12 14) (ext_le s 12 14 4 (by omega)) _).mono ?_
    rintro e wn ⟨rfl, rfl⟩
    rw [ext_sub, hNH]
    go_wp2_with fail
    refine wpAny_ready (rs := [5]) (by kernel_rfl) (by simp) ?_
    refine AllReady.cons rfl (fun K hK => ?_) AllReady.nil
    go_simp
    go_wp2_with fail
    refine (rnum_any (s.extract 15 17) (ext_le s 15 17 4 (by omega)) _).mono ?_
    rintro e wn ⟨rfl, rfl⟩
    rw [ext_sub, hNI]
    go_wp2_with fail
    refine wpAny_ready (rs := [8]) (by kernel_rfl) (by simp) ?_
    refine AllReady.cons rfl (fun K hK => ?_) AllReady.nil
    go_simp
    go_wp2_with fail
    refine (rnum_any (s.extract 18 20) (ext_le s 18 20 4 (by omega)) _).mono ?_
    rintro e wn ⟨rfl, rfl⟩
    rw [ext_sub, hNS]
    go_wp2_with fail
    refine wpAny_ready (rs := [11]) (by kernel_rfl) (by simp) ?_
    refine AllReady.cons rfl (fun K hK => ?_) AllReady.nil
    go_simp
    go_wp2_with fail
    refine (rnum_any (s.extract 22 24) (ext_le s 22 24 4 (by omega)) _).mono ?_
    rintro e wn ⟨rfl, rfl⟩
    rw [ext_sub, hNZH]
    go_wp2_with fail
    refine wpAny_ready (rs := [14]) (by kernel_rfl) (by simp) ?_
    refine AllReady.cons rfl (fun K hK => ?_) AllReady.nil
    go_simp
    go_wp2_with fail
    refine (rnum_any (s.extract 24 26) (ext_le s 24 26 4 (by omega)) _).mono ?_
    rintro e wn ⟨rfl, rfl⟩
    rw [ext_sub, hNZM]
    go_wp2_with fail
    refine wpAny_take (i := 15) (v := ?_) rfl (by kernel_rfl) (by kernel_rfl) (by kernel_rfl) (fun _ _ _ h => h) (Or.inl ⟨by rfl, ?_⟩) ?_
    rotate_left 1
    · (intro w; go_simp) <;> with_reducible rfl
    refine wpAny_take (i := 16) (v := ?_) rfl (by kernel_rfl) (by kernel_rfl) (by kernel_rfl) (fun _ _ _ h => h) (Or.inl ⟨by rfl, ?_⟩) ?_
    rotate_left 1
    · (intro w; go_simp) <;> with_reducible rfl
    refine wpAny_take (i := 17) (v := ?_) rfl (by kernel_rfl) (by kernel_rfl) (by kernel_rfl) (fun _ _ _ h => h) (Or.inl ⟨by rfl, ?_⟩) ?_
    rotate_left 1
    · (intro w; go_simp) <;> with_reducible rfl
    refine wpAny_take (i := 18) (v := ?_) rfl (by kernel_rfl) (by kernel_rfl) (by kernel_rfl) (fun _ _ _ h => h) (Or.inl ⟨by rfl, ?_⟩) ?_
    rotate_left 1
    · (intro w; go_simp) <;> with_reducible rfl
    refine wpAny_take (i := 19) (v := ?_) rfl (by kernel_rfl) (by kernel_rfl) (by kernel_rfl) (fun _ _ _ h => h) (Or.inl ⟨by rfl, ?_⟩) ?_
    rotate_left 1
    · (intro w; go_simp) <;> with_reducible rfl
    refine wpAny_done (by kernel_rfl) ?_ _
    have hbb : Below w.heap.size w w2.drew := hb3.drew
    clear hb3 hND hx2
    cases ok with
    | false =>
      have HF := Lib.hid (show V = .tuple #[.int .i64 0, .int .i64 3] by rw [← HV.out, HR.out, HS0.out rfl]; rfl)
      go_wp2
      go_ret2
      exact ⟨by rw [HF.out]; rfl, hbb⟩
    | true =>
    have hvin := secsO_in yb (HS1.out rfl)
    by_cases q0 : h < 0
    · have HF := Lib.hid (show V = .tuple #[.int .i64 0, .int .i64 3] by rw [← HV.out, HR.out, timeO_bad (by rw [HH.out, HI.out, HC.out]; omega), sum_b]; rfl)
      go_wp2
      go_ret2
      exact ⟨by rw [HF.out]; rfl, hbb⟩
    by_cases q1 : 23 < h
    · have HF := Lib.hid (show V = .tuple #[.int .i64 0, .int .i64 3] by rw [← HV.out, HR.out, timeO_bad (by rw [HH.out, HI.out, HC.out]; omega), sum_b]; rfl)
      go_wp2
      go_ret2
      exact ⟨by rw [HF.out]; rfl, hbb⟩
    by_cases q2 : i < 0
    · have HF := Lib.hid (show V = .tuple #[.int .i64 0, .int .i64 3] by rw [← HV.out, HR.out, timeO_bad (by rw [HH.out, HI.out, HC.out]; omega), sum_b]; rfl)
      go_wp2
      go_ret2
      exact ⟨by rw [HF.out]; rfl, hbb⟩
    by_cases q3 : 59 < i
    · have HF := Lib.hid (show V = .tuple #[.int .i64 0, .int .i64 3] by rw [← HV.out, HR.out, timeO_bad (by rw [HH.out, HI.out, HC.out]; omega), sum_b]; rfl)
      go_wp2
      go_ret2
      exact ⟨by rw [HF.out]; rfl, hbb⟩
    by_cases q4 : c < 0
    · have HF := Lib.hid (show V = .tuple #[.int .i64 0, .int .i64 3] by rw [← HV.out, HR.out, timeO_bad (by rw [HH.out, HI.out, HC.out]; omega), sum_b]; rfl)
      go_wp2
      go_ret2
      exact ⟨by rw [HF.out]; rfl, hbb⟩
    by_cases q5 : 59 < c
    · have HF := Lib.hid (show V = .tuple #[.int .i64 0, .int .i64 3] by rw [← HV.out, HR.out, timeO_bad (by rw [HH.out, HI.out, HC.out]; omega), sum_b]; rfl)
      go_wp2
      go_ret2
      exact ⟨by rw [HF.out]; rfl, hbb⟩
    by_cases q6 : zh < 0
    · have HF := Lib.hid (show V = .tuple #[.int .i64 0, .int .i64 3] by rw [← HV.out, HR.out, zoneO_bad (by rw [HZH.out, HZM.out]; omega), sum_c]; rfl)
      go_wp2
      go_ret2
      exact ⟨by rw [HF.out]; rfl, hbb⟩
    by_cases q7 : 23 < zh
    · have HF := Lib.hid (show V = .tuple #[.int .i64 0, .int .i64 3] by rw [← HV.out, HR.out, zoneO_bad (by rw [HZH.out, HZM.out]; omega), sum_c]; rfl)
      go_wp2
      go_ret2
      exact ⟨by rw [HF.out]; rfl, hbb⟩
    by_cases q8 : zm < 0
    · have HF := Lib.hid (show V = .tuple #[.int .i64 0, .int .i64 3] by rw [← HV.out, HR.out, zoneO_bad (by rw [HZH.out, HZM.out]; omega), sum_c]; rfl)
      go_wp2
      go_ret2
      exact ⟨by rw [HF.out]; rfl, hbb⟩
    by_cases q9 : 59 < zm
    · have HF := Lib.hid (show V = .tuple #[.int .i64 0, .int .i64 3] by rw [← HV.out, HR.out, zoneO_bad (by rw [HZH.out, HZM.out]; omega), sum_c]; rfl)
      go_wp2
      go_ret2
      exact ⟨by rw [HF.out]; rfl, hbb⟩
    obtain ⟨N, hN⟩ : ∃ N : Int, v + 3600 * h + 60 * i + c - (3600 * zh + 60 * zm) = N := ⟨_, rfl⟩
    have HQ := Lib.hid (show rimapL s.data.toList = inT N by
      obtain ⟨h', e1, e1'⟩ := opt_some HH.out (by omega)
      obtain ⟨i', e2, e2'⟩ := opt_some HI.out (by omega)
      obtain ⟨c', e3, e3'⟩ := opt_some HC.out (by omega)
      obtain ⟨zh', e4, e4'⟩ := opt_some HZH.out (by omega)
      obtain ⟨zm', e5, e5'⟩ := opt_some HZM.out (by omega)
      rw [HR.out, HS1.out rfl, e1, e2, e3, e4, e5, timeO_some (by omega) (by omega) (by omega), zoneO_some (by omega) (by omega), sumO]
      congr 1
      rw [← hN]
      simp only [Bool.false_eq_true, if_false]
      omega)
    by_cases r0 : N < 0
    · have HF := Lib.hid (show V = .tuple #[.int .i64 0, .int .i64 3] by rw [← HV.out, HQ.out, inT, if_neg (by omega)]; rfl)
      go_wp2
      go_ret2
      exact ⟨by rw [HF.out]; rfl, hbb⟩
    by_cases r1 : 253402300799 < N
    · have HF := Lib.hid (show V = .tuple #[.int .i64 0, .int .i64 3] by rw [← HV.out, HQ.out, inT, if_neg (by omega)]; rfl)
      go_wp2
      go_ret2
      exact ⟨by rw [HF.out]; rfl, hbb⟩
    have HF := Lib.hid (show V = .tuple #[.int .i64 N, .int .i64 0] by
      rw [← HV.out, HQ.out, inT, if_pos (by omega), rV, show ((N.toNat : Nat) : Int) = N by omega])
    go_wp2
    go_ret2
    exact ⟨by rw [HF.out]; rfl, hbb⟩
  by_cases c45 : (s[21].toNat : Int) = 45
  · have HR := Lib.hid (HRR.out true (by rw [byte_is (c := 45) b21 c45]; rfl) (HFORM.out (Or.inr c45)))
    clear HRR HFORM HREST HBAD
    go_upto_region 4 with fail
    have hp := first_two s hz
    obtain ⟨P, hP⟩ : ∃ P, s.extract 0 2 = P := ⟨_, rfl⟩
    rw [hP] at hp ⊢
    obtain ⟨hps, hpl, hp0⟩ := hp
    have HPL := Lib.hid hpl
    have HP0 := Lib.hid hp0
    clear hP hpl hp0
    have p0 : 0 < P.size := by omega
    have hps' : (P.size : Int) = 2 := by omega
    go_upto_if 60 with fail
    go_cut [4] from 58 to 159 (fun v wx => ∃ T : ByteArray, v = .string T ∧ T.size ≤ 2 ∧ Hid (T.data.toList = dayT s.data.toList) ∧ w = wx)
    case first =>
      by_cases cb : (P[0].toNat : Int) = 32
      · have HT := Lib.hid (show (P.extract 1 2).data.toList = dayT s.data.toList by
          rw [dayT, if_pos (by rw [HP0.out]; exact getD_byte P p0 cb), ← HPL.out, ext_sub, sub, List.take_of_length_le (by rw [List.length_drop, ← Lib.size_eq]; omega)])
        have hsz : (P.extract 1 2).size ≤ 2 := by rw [ByteArray.size_extract]; omega
        go_wp2
        go_meet
        exact ⟨_, rfl, hsz, HT, rfl⟩
      · have HT := Lib.hid (show P.data.toList = dayT s.data.toList by
          rw [dayT, if_neg (by rw [HP0.out]; exact getD_nbyte P p0 cb), ← HPL.out])
        go_wp2
        go_meet
        exact ⟨_, rfl, by omega, HT, rfl⟩
    case rest =>
    obtain ⟨T, rfl, hT, HT, rfl⟩ := hcut
    have hND : optI (numD T.data.toList) = optI D := by rw [HT.out, hD']
    have hx2 : T.size ≤ 4 := by omega
    have hw0 : Below w.heap.size w w.drew := (Below.refl _ w).drew
    go_wp2_with fail
    refine wp_region_any (by kernel_rfl) ?_
    try (change wpAny _ _ _ _ _ _ _ (World.drew _))
    refine wpAny_take (i := 0) (v := ?_) rfl (by kernel_rfl) (by kernel_rfl) (by kernel_rfl) (fun _ _ _ h => h) (Or.inl ⟨by rfl, ?_⟩) ?_
    rotate_left 1
    · (intro w; go_simp) <;> with_reducible rfl
    refine wpAny_take (i := 1) (v := ?_) rfl (by kernel_rfl) (by kernel_rfl) (by kernel_rfl) (fun _ _ _ h => h) (Or.inl ⟨by rfl, ?_⟩) ?_
    rotate_left 1
    · (intro w; go_simp) <;> with_reducible rfl
    refine wpAny_take (i := 3) (v := ?_) rfl (by kernel_rfl) (by kernel_rfl) (by kernel_rfl) (fun _ _ _ h => h) (Or.inl ⟨by rfl, ?_⟩) ?_
    rotate_left 1
    · (intro w; go_simp) <;> with_reducible rfl
    refine wpAny_take (i := 4) (v := ?_) rfl (by kernel_rfl) (by kernel_rfl) (by kernel_rfl) (fun _ _ _ h => h) (Or.inl ⟨by rfl, ?_⟩) ?_
    rotate_left 1
    · (intro w; go_simp) <;> with_reducible rfl
    refine wpAny_take (i := 6) (v := ?_) rfl (by kernel_rfl) (by kernel_rfl) (by kernel_rfl) (fun _ _ _ h => h) (Or.inl ⟨by rfl, ?_⟩) ?_
    rotate_left 1
    · (intro w; go_simp) <;> with_reducible rfl
    refine wpAny_ready (rs := [2]) (by kernel_rfl) (by simp) ?_
    refine AllReady.cons rfl (fun K hK => ?_) AllReady.nil
    go_simp
    go_wp2_with fail
    refine (rnum_any (s.extract 7 11) (ext_le s 7 11 4 (by omega)) _).mono ?_
    rintro e wn ⟨rfl, rfl⟩
    rw [ext_sub, hNY]
    go_wp2_with fail
    refine wpAny_ready (rs := [5]) (by kernel_rfl) (by simp) ?_
    refine AllReady.cons rfl (fun K hK => ?_) AllReady.nil
    go_simp
    go_wp2_with fail
    refine (rwhich_any (s.extract 3 6) hx3 _).mono ?_
    rintro e w2 ⟨rfl, hb2⟩
    rw [ext_sub, hN2]
    go_wp2_with fail
    refine wpAny_ready (rs := [7]) (by kernel_rfl) (by simp) ?_
    refine AllReady.cons rfl (fun K hK => ?_) AllReady.nil
    go_simp
    go_wp2_with fail
    refine (rnum_any T hx2 _).mono ?_
    rintro e wn ⟨rfl, rfl⟩
    rw [hND]
    go_wp2_with fail
    refine wpAny_ready (rs := [8]) (by kernel_rfl) (by simp) ?_
    refine AllReady.cons rfl (fun K hK => ?_) AllReady.nil
    go_simp
    go_wp2_with fail
    refine (rsec_at Y (some M) D _ _ _ rfl rfl rfl yb (by show (M : Int) ≤ 99; omega) db _).mono ?_
    rintro e wn ⟨rfl, rfl⟩
    rw [HSEC.out]
    go_wp2_with fail
    refine wpAny_take (i := 9) (v := ?_) rfl (by kernel_rfl) (by kernel_rfl) (by kernel_rfl) (fun _ _ _ h => h) (Or.inl ⟨by rfl, ?_⟩) ?_
    rotate_left 1
    · (intro w; go_simp) <;> with_reducible rfl
    refine wpAny_take (i := 10) (v := ?_) rfl (by kernel_rfl) (by kernel_rfl) (by kernel_rfl) (fun _ _ _ h => h) (Or.inl ⟨by rfl, ?_⟩) ?_
    rotate_left 1
    · (intro w; go_simp) <;> with_reducible rfl
    refine wpAny_take (i := 11) (v := ?_) rfl (by kernel_rfl) (by kernel_rfl) (by kernel_rfl) (fun _ _ _ h => h) (Or.inl ⟨by rfl, ?_⟩) ?_
    rotate_left 1
    · (intro w; go_simp) <;> with_reducible rfl
    refine wpAny_take (i := 12) (v := ?_) rfl (by kernel_rfl) (by kernel_rfl) (by kernel_rfl) (fun _ _ _ h => h) (Or.inl ⟨by rfl, ?_⟩) ?_
    rotate_left 1
    · (intro w; go_simp) <;> with_reducible rfl
    refine wpAny_take (i := 13) (v := ?_) rfl (by kernel_rfl) (by kernel_rfl) (by kernel_rfl) (fun _ _ _ h => h) (Or.inl ⟨by rfl, ?_⟩) ?_
    rotate_left 1
    · (intro w; go_simp) <;> with_reducible rfl
    refine wpAny_done (by kernel_rfl) ?_ _
    have hb3 := below_first hb2
    clear hb2
    obtain ⟨h, hh⟩ : ∃ h, optI H = h := ⟨_, rfl⟩
    obtain ⟨i, hi⟩ : ∃ i, optI I = i := ⟨_, rfl⟩
    obtain ⟨c, hc⟩ : ∃ c, optI S = c := ⟨_, rfl⟩
    obtain ⟨zh, hzh⟩ : ∃ c, optI ZH = c := ⟨_, rfl⟩
    obtain ⟨zm, hzm⟩ : ∃ c, optI ZM = c := ⟨_, rfl⟩
    rw [hh] at hb hNH
    rw [hi] at ib hNI
    rw [hc] at sb hNS
    rw [hzh] at zhb hNZH
    rw [hzm] at zmb hNZM
    have HH := Lib.hid hh
    have HI := Lib.hid hi
    have HC := Lib.hid hc
    have HZH := Lib.hid hzh
    have HZM := Lib.hid hzm
    clear hh hi hc hzh hzm
    go_wp2_with fail
    refine wp_region_any (by kernel_rfl) ?_
    try (change wpAny _ _ _ _ _ _ _ (World.drew _))
    refine wpAny_take (i := 0) (v := ?_) rfl (by kernel_rfl) (by kernel_rfl) (by kernel_rfl) (fun _ _ _ h => h) (Or.inl ⟨by rfl, ?_⟩) ?_
    rotate_left 1
    · (intro w; go_simp) <;> with_reducible rfl
    refine wpAny_take (i := 1) (v := ?_) rfl (by kernel_rfl) (by kernel_rfl) (by kernel_rfl) (fun _ _ _ h => h) (Or.inl ⟨by rfl, ?_⟩) ?_
    rotate_left 1
    · (intro w; go_simp) <;> with_reducible rfl
    refine wpAny_take (i := 3) (v := ?_) rfl (by kernel_rfl) (by kernel_rfl) (by kernel_rfl) (fun _ _ _ h => h) (Or.inl ⟨by rfl, ?_⟩) ?_
    rotate_left 1
    · (intro w; go_simp) <;> with_reducible rfl
    refine wpAny_take (i := 4) (v := ?_) rfl (by kernel_rfl) (by kernel_rfl) (by kernel_rfl) (fun _ _ _ h => h) (Or.inl ⟨by rfl, ?_⟩) ?_
    rotate_left 1
    · (intro w; go_simp) <;> with_reducible rfl
    refine wpAny_take (i := 6) (v := ?_) rfl (by kernel_rfl) (by kernel_rfl) (by kernel_rfl) (fun _ _ _ h => h) (Or.inl ⟨by rfl, ?_⟩) ?_
    rotate_left 1
    · (intro w; go_simp) <;> with_reducible rfl
    refine wpAny_take (i := 7) (v := ?_) rfl (by kernel_rfl) (by kernel_rfl) (by kernel_rfl) (fun _ _ _ h => h) (Or.inl ⟨by rfl, ?_⟩) ?_
    rotate_left 1
    · (intro w; go_simp) <;> with_reducible rfl
    refine wpAny_take (i := 9) (v := ?_) rfl (by kernel_rfl) (by kernel_rfl) (by kernel_rfl) (fun _ _ _ h => h) (Or.inl ⟨by rfl, ?_⟩) ?_
    rotate_left 1
    · (intro w; go_simp) <;> with_reducible rfl
    refine wpAny_take (i := 10) (v := ?_) rfl (by kernel_rfl) (by kernel_rfl) (by kernel_rfl) (fun _ _ _ h => h) (Or.inl ⟨by rfl, ?_⟩) ?_
    rotate_left 1
    · (intro w; go_simp) <;> with_reducible rfl
    refine wpAny_take (i := 12) (v := ?_) rfl (by kernel_rfl) (by kernel_rfl) (by kernel_rfl) (fun _ _ _ h => h) (Or.inl ⟨by rfl, ?_⟩) ?_
    rotate_left 1
    · (intro w; go_simp) <;> with_reducible rfl
    refine wpAny_take (i := 13) (v := ?_) rfl (by kernel_rfl) (by kernel_rfl) (by kernel_rfl) (fun _ _ _ h => h) (Or.inl ⟨by rfl, ?_⟩) ?_
    rotate_left 1
    · (intro w; go_simp) <;> with_reducible rfl
    refine wpAny_ready (rs := [2]) (by kernel_rfl) (by simp) ?_
    refine AllReady.cons rfl (fun K hK => ?_) AllReady.nil
    go_simp
    go_wp2_with fail
    refine (rnum_any (s.extract 12 14) (ext_le s 12 14 4 (by omega)) _).mono ?_
    rintro e wn ⟨rfl, rfl⟩
    rw [ext_sub, hNH]
    go_wp2_with fail
    refine wpAny_ready (rs := [5]) (by kernel_rfl) (by simp) ?_
    refine AllReady.cons rfl (fun K hK => ?_) AllReady.nil
    go_simp
    go_wp2_with fail
    refine (rnum_any (s.extract 15 17) (ext_le s 15 17 4 (by omega)) _).mono ?_
    rintro e wn ⟨rfl, rfl⟩
    rw [ext_sub, hNI]
    go_wp2_with fail
    refine wpAny_ready (rs := [8]) (by kernel_rfl) (by simp) ?_
    refine AllReady.cons rfl (fun K hK => ?_) AllReady.nil
    go_simp
    go_wp2_with fail
    refine (rnum_any (s.extract 18 20) (ext_le s 18 20 4 (by omega)) _).mono ?_
    rintro e wn ⟨rfl, rfl⟩
    rw [ext_sub, hNS]
    go_wp2_with fail
    refine wpAny_ready (rs := [11]) (by kernel_rfl) (by simp) ?_
    refine AllReady.cons rfl (fun K hK => ?_) AllReady.nil
    go_simp
    go_wp2_with fail
    refine (rnum_any (s.extract 22 24) (ext_le s 22 24 4 (by omega)) _).mono ?_
    rintro e wn ⟨rfl, rfl⟩
    rw [ext_sub, hNZH]
    go_wp2_with fail
    refine wpAny_ready (rs := [14]) (by kernel_rfl) (by simp) ?_
    refine AllReady.cons rfl (fun K hK => ?_) AllReady.nil
    go_simp
    go_wp2_with fail
    refine (rnum_any (s.extract 24 26) (ext_le s 24 26 4 (by omega)) _).mono ?_
    rintro e wn ⟨rfl, rfl⟩
    rw [ext_sub, hNZM]
    go_wp2_with fail
    refine wpAny_take (i := 15) (v := ?_) rfl (by kernel_rfl) (by kernel_rfl) (by kernel_rfl) (fun _ _ _ h => h) (Or.inl ⟨by rfl, ?_⟩) ?_
    rotate_left 1
    · (intro w; go_simp) <;> with_reducible rfl
    refine wpAny_take (i := 16) (v := ?_) rfl (by kernel_rfl) (by kernel_rfl) (by kernel_rfl) (fun _ _ _ h => h) (Or.inl ⟨by rfl, ?_⟩) ?_
    rotate_left 1
    · (intro w; go_simp) <;> with_reducible rfl
    refine wpAny_take (i := 17) (v := ?_) rfl (by kernel_rfl) (by kernel_rfl) (by kernel_rfl) (fun _ _ _ h => h) (Or.inl ⟨by rfl, ?_⟩) ?_
    rotate_left 1
    · (intro w; go_simp) <;> with_reducible rfl
    refine wpAny_take (i := 18) (v := ?_) rfl (by kernel_rfl) (by kernel_rfl) (by kernel_rfl) (fun _ _ _ h => h) (Or.inl ⟨by rfl, ?_⟩) ?_
    rotate_left 1
    · (intro w; go_simp) <;> with_reducible rfl
    refine wpAny_take (i := 19) (v := ?_) rfl (by kernel_rfl) (by kernel_rfl) (by kernel_rfl) (fun _ _ _ h => h) (Or.inl ⟨by rfl, ?_⟩) ?_
    rotate_left 1
    · (intro w; go_simp) <;> with_reducible rfl
    refine wpAny_done (by kernel_rfl) ?_ _
    have hbb : Below w.heap.size w w2.drew := hb3.drew
    clear hb3 hND hx2
    cases ok with
    | false =>
      have HF := Lib.hid (show V = .tuple #[.int .i64 0, .int .i64 3] by rw [← HV.out, HR.out, HS0.out rfl]; rfl)
      go_wp2
      go_ret2
      exact ⟨by rw [HF.out]; rfl, hbb⟩
    | true =>
    have hvin := secsO_in yb (HS1.out rfl)
    by_cases q0 : h < 0
    · have HF := Lib.hid (show V = .tuple #[.int .i64 0, .int .i64 3] by rw [← HV.out, HR.out, timeO_bad (by rw [HH.out, HI.out, HC.out]; omega), sum_b]; rfl)
      go_wp2
      go_ret2
      exact ⟨by rw [HF.out]; rfl, hbb⟩
    by_cases q1 : 23 < h
    · have HF := Lib.hid (show V = .tuple #[.int .i64 0, .int .i64 3] by rw [← HV.out, HR.out, timeO_bad (by rw [HH.out, HI.out, HC.out]; omega), sum_b]; rfl)
      go_wp2
      go_ret2
      exact ⟨by rw [HF.out]; rfl, hbb⟩
    by_cases q2 : i < 0
    · have HF := Lib.hid (show V = .tuple #[.int .i64 0, .int .i64 3] by rw [← HV.out, HR.out, timeO_bad (by rw [HH.out, HI.out, HC.out]; omega), sum_b]; rfl)
      go_wp2
      go_ret2
      exact ⟨by rw [HF.out]; rfl, hbb⟩
    by_cases q3 : 59 < i
    · have HF := Lib.hid (show V = .tuple #[.int .i64 0, .int .i64 3] by rw [← HV.out, HR.out, timeO_bad (by rw [HH.out, HI.out, HC.out]; omega), sum_b]; rfl)
      go_wp2
      go_ret2
      exact ⟨by rw [HF.out]; rfl, hbb⟩
    by_cases q4 : c < 0
    · have HF := Lib.hid (show V = .tuple #[.int .i64 0, .int .i64 3] by rw [← HV.out, HR.out, timeO_bad (by rw [HH.out, HI.out, HC.out]; omega), sum_b]; rfl)
      go_wp2
      go_ret2
      exact ⟨by rw [HF.out]; rfl, hbb⟩
    by_cases q5 : 59 < c
    · have HF := Lib.hid (show V = .tuple #[.int .i64 0, .int .i64 3] by rw [← HV.out, HR.out, timeO_bad (by rw [HH.out, HI.out, HC.out]; omega), sum_b]; rfl)
      go_wp2
      go_ret2
      exact ⟨by rw [HF.out]; rfl, hbb⟩
    by_cases q6 : zh < 0
    · have HF := Lib.hid (show V = .tuple #[.int .i64 0, .int .i64 3] by rw [← HV.out, HR.out, zoneO_bad (by rw [HZH.out, HZM.out]; omega), sum_c]; rfl)
      go_wp2
      go_ret2
      exact ⟨by rw [HF.out]; rfl, hbb⟩
    by_cases q7 : 23 < zh
    · have HF := Lib.hid (show V = .tuple #[.int .i64 0, .int .i64 3] by rw [← HV.out, HR.out, zoneO_bad (by rw [HZH.out, HZM.out]; omega), sum_c]; rfl)
      go_wp2
      go_ret2
      exact ⟨by rw [HF.out]; rfl, hbb⟩
    by_cases q8 : zm < 0
    · have HF := Lib.hid (show V = .tuple #[.int .i64 0, .int .i64 3] by rw [← HV.out, HR.out, zoneO_bad (by rw [HZH.out, HZM.out]; omega), sum_c]; rfl)
      go_wp2
      go_ret2
      exact ⟨by rw [HF.out]; rfl, hbb⟩
    by_cases q9 : 59 < zm
    · have HF := Lib.hid (show V = .tuple #[.int .i64 0, .int .i64 3] by rw [← HV.out, HR.out, zoneO_bad (by rw [HZH.out, HZM.out]; omega), sum_c]; rfl)
      go_wp2
      go_ret2
      exact ⟨by rw [HF.out]; rfl, hbb⟩
    obtain ⟨N, hN⟩ : ∃ N : Int, v + 3600 * h + 60 * i + c - -(3600 * zh + 60 * zm) = N := ⟨_, rfl⟩
    have HQ := Lib.hid (show rimapL s.data.toList = inT N by
      obtain ⟨h', e1, e1'⟩ := opt_some HH.out (by omega)
      obtain ⟨i', e2, e2'⟩ := opt_some HI.out (by omega)
      obtain ⟨c', e3, e3'⟩ := opt_some HC.out (by omega)
      obtain ⟨zh', e4, e4'⟩ := opt_some HZH.out (by omega)
      obtain ⟨zm', e5, e5'⟩ := opt_some HZM.out (by omega)
      rw [HR.out, HS1.out rfl, e1, e2, e3, e4, e5, timeO_some (by omega) (by omega) (by omega), zoneO_some (by omega) (by omega), sumO]
      congr 1
      rw [← hN]
      simp only [if_true]
      omega)
    by_cases r0 : N < 0
    · have HF := Lib.hid (show V = .tuple #[.int .i64 0, .int .i64 3] by rw [← HV.out, HQ.out, inT, if_neg (by omega)]; rfl)
      go_wp2
      go_ret2
      exact ⟨by rw [HF.out]; rfl, hbb⟩
    by_cases r1 : 253402300799 < N
    · have HF := Lib.hid (show V = .tuple #[.int .i64 0, .int .i64 3] by rw [← HV.out, HQ.out, inT, if_neg (by omega)]; rfl)
      go_wp2
      go_ret2
      exact ⟨by rw [HF.out]; rfl, hbb⟩
    have HF := Lib.hid (show V = .tuple #[.int .i64 N, .int .i64 0] by
      rw [← HV.out, HQ.out, inT, if_pos (by omega), rV, show ((N.toNat : Nat) : Int) = N by omega])
    go_wp2
    go_ret2
    exact ⟨by rw [HF.out]; rfl, hbb⟩
  have HF := Lib.hid (HREST.out c43 c45)
  have q43 : ((s[21].toNat : Int) != 43) = true := by simpa using c43
  have q45 : ((s[21].toNat : Int) != 45) = true := by simpa using c45
  clear HRR HFORM HREST HBAD
  go_wp2
  go_ret2
  exact ⟨by rw [HF.out]; rfl, Below.refl _ _⟩
end Go.Proofs.YtlhoellimldimaaDoor.D6
