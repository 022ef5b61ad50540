/-
  The document's answer for package date, as the statements have it: a second's text in the one form read. Condition: the text has at most 2^40 bytes.
-/
import Derived.Test.YtlhoellimldimaaDoorD6Day
namespace Go.Proofs.YtlhoellimldimaaDoor.D6
open Go Go.RowKit Go.Joins Kit

theorem rfc_fields {n : Nat} (h : n ≤ maxT) {l : List UInt8} (e : rfcL n = l) : numD (sub l 0 4) = some (yr n) ∧ numD (sub l 5 2) = some (mo n) ∧ numD (sub l 8 2) = some (dy n) ∧ numD (sub l 11 2) = some (ho n) ∧ numD (sub l 14 2) = some (mi n) ∧ numD (sub l 17 2) = some (se n) ∧ l.length = 20 := by
  subst e
  have ht := time_lt n
  obtain ⟨_, hm2, _, hd2⟩ := date_valid n
  have hd := dim_le (yr n) (mo n)
  have hy := (yr_in h).2
  exact ⟨num_four (by omega), num_two (by omega), num_two (by omega), num_two (by omega), num_two (by omega), num_two (by omega), rfl⟩
theorem rrfc_none {l : List UInt8} (h : ∀ n, n ≤ maxT → rfcL n = l → False) : rrfcL l = none := by
  cases e : rrfcL l with
  | none => rfl
  | some n => exact (h n (rrfc_iff.1 e).1 (rrfc_iff.1 e).2).elim
theorem secV_gen (y m d : Option Nat) (hy : optI y ≤ 9999) (hm : optI m ≤ 99) : ∃ (v : Int) (ok : Bool), secV y m d = .tuple #[.int .i64 v, .bool ok] ∧ (-63000000000 ≤ v ∧ v ≤ 600000000000) ∧
    (ok = true → ∃ y' m' d', y = some y' ∧ m = some m' ∧ d = some d' ∧ v = secs y' m' d') ∧ (ok = false → ∀ y' m' d', y = some y' → m = some m' → d = some d' → ¬ ValidD y' m' d') := by
  unfold secV
  cases y with
  | none => exact ⟨0, false, rfl, ⟨by decide, by decide⟩, (fun e => by cases e), fun _ _ _ _ e => by cases e⟩
  | some y =>
    cases m with
    | none => exact ⟨0, false, rfl, ⟨by decide, by decide⟩, (fun e => by cases e), fun _ _ _ _ _ e => by cases e⟩
    | some m =>
      cases d with
      | none => exact ⟨0, false, rfl, ⟨by decide, by decide⟩, (fun e => by cases e), fun _ _ _ _ _ _ e => by cases e⟩
      | some d =>
        simp only
        by_cases h : 1 ≤ m ∧ 1 ≤ d ∧ d ≤ dim y m
        · rw [if_pos h]
          refine ⟨_, true, rfl, ?_, fun _ => ⟨y, m, d, rfl, rfl, rfl, rfl⟩, fun e => by cases e⟩
          have hy' : (y : Int) ≤ 9999 := hy
          have hm' : (m : Int) ≤ 99 := hm
          have h1 := ahead_le y
          have h2 := mon_le y m
          have h3 := dim_le y m
          unfold secs dayN
          omega
        · rw [if_neg h]
          refine ⟨0, false, rfl, ⟨by decide, by decide⟩, (fun e => by cases e), fun _ y' m' d' e1 e2 e3 hv => ?_⟩
          cases e1; cases e2; cases e3
          exact h ⟨hv.1, hv.2.2.1, hv.2.2.2⟩

set_option maxHeartbeats 2000000 in
set_option maxRecDepth 100000 in
theorem rrfc_reads (s : ByteArray) (w : World) :
    Calls Tryd.prog 21 #[.string s] w fun e w' => e = .returned (rV (rrfcL s.data.toList)) ∧ Below w.heap.size w w' := by
  obtain ⟨V, hV⟩ : ∃ V, rV (rrfcL s.data.toList) = V := ⟨_, rfl⟩
  rw [hV]
  have HV := Lib.hid hV
  clear hV
  have HBAD := Lib.hid (fun (h : ∀ n, n ≤ maxT → rfcL n = s.data.toList → False) => show V = .tuple #[.int .i64 0, .int .i64 3] by rw [← HV.out, rrfc_none h]; rfl)
  go_enter Tryd.func21, Tryd.ntmps21
  by_cases h20 : (s.size : Int) ≠ 20
  · have HF := Lib.hid (HBAD.out (fun n hn e => h20 (by have := (rfc_fields hn e).2.2.2.2.2.2; rw [← Lib.size_eq] at this; omega)))
    go_wp2
    go_ret2
    exact ⟨by rw [HF.out]; rfl, Below.refl _ _⟩
  have hz : s.size = 20 := by omega
  have h20' : (s.size : Int) = 20 := by omega
  clear h20
  obtain ⟨Y, hY⟩ : ∃ Y, numD (sub s.data.toList 0 4) = Y := ⟨_, rfl⟩
  obtain ⟨M, hM⟩ : ∃ M, numD (sub s.data.toList 5 2) = M := ⟨_, rfl⟩
  obtain ⟨D, hD⟩ : ∃ D, numD (sub s.data.toList 8 2) = D := ⟨_, rfl⟩
  obtain ⟨H, hH⟩ : ∃ H, numD (sub s.data.toList 11 2) = H := ⟨_, rfl⟩
  obtain ⟨I, hI⟩ : ∃ I, numD (sub s.data.toList 14 2) = I := ⟨_, rfl⟩
  obtain ⟨S, hS⟩ : ∃ S, numD (sub s.data.toList 17 2) = S := ⟨_, rfl⟩
  have HFLD := Lib.hid (show ∀ n, n ≤ maxT → rfcL n = s.data.toList → Y = some (yr n) ∧ M = some (mo n) ∧ D = some (dy n) ∧ H = some (ho n) ∧ I = some (mi n) ∧ S = some (se n) from fun n hn e => by
    have := rfc_fields hn e
    rw [hY, hM, hD, hH, hI, hS] at this
    exact ⟨this.1, this.2.1, this.2.2.1, this.2.2.2.1, this.2.2.2.2.1, this.2.2.2.2.2.1⟩)
  have yb : optI Y ≤ 9999 := by have := (optI_le 4 (sub_le s.data.toList 0 4)).2; rw [hY] at this; omega
  have mb : optI M ≤ 99 := by have := (optI_le 2 (sub_le s.data.toList 5 2)).2; rw [hM] at this; omega
  have db : optI D ≤ 99 := by have := (optI_le 2 (sub_le s.data.toList 8 2)).2; rw [hD] at this; omega
  have hb : -1 ≤ optI H ∧ optI H ≤ 99 := by have := optI_le 2 (sub_le s.data.toList 11 2); rw [hH] at this; omega
  have ib : -1 ≤ optI I ∧ optI I ≤ 99 := by have := optI_le 2 (sub_le s.data.toList 14 2); rw [hI] at this; omega
  have sb : -1 ≤ optI S ∧ optI S ≤ 99 := by have := optI_le 2 (sub_le s.data.toList 17 2); rw [hS] at this; omega
  have hNY : optI (numD (sub s.data.toList 0 (4 - 0))) = optI Y := by rw [hY]
  have hNM : optI (numD (sub s.data.toList 5 (7 - 5))) = optI M := by rw [hM]
  have hND : optI (numD (sub s.data.toList 8 (10 - 8))) = optI D := by rw [hD]
  have hNH : optI (numD (sub s.data.toList 11 (13 - 11))) = optI H := by rw [hH]
  have hNI : optI (numD (sub s.data.toList 14 (16 - 14))) = optI I := by rw [hI]
  have hNS : optI (numD (sub s.data.toList 17 (19 - 17))) = optI S := by rw [hS]
  clear hY hM hD hH hI hS
  obtain ⟨v, ok, hsec, ⟨vb1, vb2⟩, hok1, hok0⟩ := secV_gen Y M D yb mb
  have HSEC := Lib.hid hsec
  have HS1 := Lib.hid hok1
  have HS0 := Lib.hid hok0
  clear hsec hok1 hok0
  go_wp2_with fail
  refine wp_region_any (by kernel_rfl) ?_
  try (change wpAny _ _ _ _ _ _ _ (World.drew _))
  refine wpAny_take (i := 0) (v := ?_) rfl (by kernel_rfl) (by kernel_rfl) (by kernel_rfl) (fun _ _ _ h => h) (Or.inl ⟨by rfl, ?_⟩) ?_
  rotate_left 1
  · (intro w; go_simp) <;> with_reducible rfl
  refine wpAny_take (i := 1) (v := ?_) rfl (by kernel_rfl) (by kernel_rfl) (by kernel_rfl) (fun _ _ _ h => h) (Or.inl ⟨by rfl, ?_⟩) ?_
  rotate_left 1
  · (intro w; go_simp) <;> with_reducible rfl
  refine wpAny_take (i := 3) (v := ?_) rfl (by kernel_rfl) (by kernel_rfl) (by kernel_rfl) (fun _ _ _ h => h) (Or.inl ⟨by rfl, ?_⟩) ?_
  rotate_left 1
  · (intro w; go_simp) <;> with_reducible rfl
  refine wpAny_take (i := 4) (v := ?_) rfl (by kernel_rfl) (by kernel_rfl) (by kernel_rfl) (fun _ _ _ h => h) (Or.inl ⟨by rfl, ?_⟩) ?_
  rotate_left 1
  · (intro w; go_simp) <;> with_reducible rfl
  refine wpAny_take (i := 6) (v := ?_) rfl (by kernel_rfl) (by kernel_rfl) (by kernel_rfl) (fun _ _ _ h => h) (Or.inl ⟨by rfl, ?_⟩) ?_
  rotate_left 1
  · (intro w; go_simp) <;> with_reducible rfl
  refine wpAny_take (i := 7) (v := ?_) rfl (by kernel_rfl) (by kernel_rfl) (by kernel_rfl) (fun _ _ _ h => h) (Or.inl ⟨by rfl, ?_⟩) ?_
  rotate_left 1
  · (intro w; go_simp) <;> with_reducible rfl
  refine wpAny_ready (rs := [2]) (by kernel_rfl) (by simp) ?_
  refine AllReady.cons rfl (fun K hK => ?_) AllReady.nil
  go_simp
  go_wp2_with fail
  refine (rnum_any (s.extract 0 4) (ext_le s 0 4 4 (by omega)) _).mono ?_
  rintro e wn ⟨rfl, rfl⟩
  rw [ext_sub, hNY]
  go_wp2_with fail
  refine wpAny_ready (rs := [5]) (by kernel_rfl) (by simp) ?_
  refine AllReady.cons rfl (fun K hK => ?_) AllReady.nil
  go_simp
  go_wp2_with fail
  refine (rnum_any (s.extract 5 7) (ext_le s 5 7 4 (by omega)) _).mono ?_
  rintro e wn ⟨rfl, rfl⟩
  rw [ext_sub, hNM]
  go_wp2_with fail
  refine wpAny_ready (rs := [8]) (by kernel_rfl) (by simp) ?_
  refine AllReady.cons rfl (fun K hK => ?_) AllReady.nil
  go_simp
  go_wp2_with fail
  refine (rnum_any (s.extract 8 10) (ext_le s 8 10 4 (by omega)) _).mono ?_
  rintro e wn ⟨rfl, rfl⟩
  rw [ext_sub, hND]
  go_wp2_with fail
  refine wpAny_ready (rs := [9]) (by kernel_rfl) (by simp) ?_
  refine AllReady.cons rfl (fun K hK => ?_) AllReady.nil
  go_simp
  go_wp2_with fail
  refine (rsec_at Y M D _ _ _ rfl rfl rfl yb mb db _).mono ?_
  rintro e wn ⟨rfl, rfl⟩
  rw [HSEC.out]
  go_wp2_with fail
  refine wpAny_take (i := 10) (v := ?_) rfl (by kernel_rfl) (by kernel_rfl) (by kernel_rfl) (fun _ _ _ h => h) (Or.inl ⟨by rfl, ?_⟩) ?_
  rotate_left 1
  · (intro w; go_simp) <;> with_reducible rfl
  refine wpAny_take (i := 11) (v := ?_) rfl (by kernel_rfl) (by kernel_rfl) (by kernel_rfl) (fun _ _ _ h => h) (Or.inl ⟨by rfl, ?_⟩) ?_
  rotate_left 1
  · (intro w; go_simp) <;> with_reducible rfl
  refine wpAny_take (i := 12) (v := ?_) rfl (by kernel_rfl) (by kernel_rfl) (by kernel_rfl) (fun _ _ _ h => h) (Or.inl ⟨by rfl, ?_⟩) ?_
  rotate_left 1
  · (intro w; go_simp) <;> with_reducible rfl
  refine wpAny_take (i := 13) (v := ?_) rfl (by kernel_rfl) (by kernel_rfl) (by kernel_rfl) (fun _ _ _ h => h) (Or.inl ⟨by rfl, ?_⟩) ?_
  rotate_left 1
  · (intro w; go_simp) <;> with_reducible rfl
  refine wpAny_take (i := 14) (v := ?_) rfl (by kernel_rfl) (by kernel_rfl) (by kernel_rfl) (fun _ _ _ h => h) (Or.inl ⟨by rfl, ?_⟩) ?_
  rotate_left 1
  · (intro w; go_simp) <;> with_reducible rfl
  refine wpAny_done (by kernel_rfl) ?_ _
  obtain ⟨m, hm⟩ : ∃ m, optI M = m := ⟨_, rfl⟩
  obtain ⟨h, hh⟩ : ∃ h, optI H = h := ⟨_, rfl⟩
  obtain ⟨i, hi⟩ : ∃ i, optI I = i := ⟨_, rfl⟩
  obtain ⟨c, hc⟩ : ∃ c, optI S = c := ⟨_, rfl⟩
  rw [hh] at hb hNH
  rw [hi] at ib hNI
  rw [hc] at sb hNS
  rw [hm] at mb hNM
  obtain ⟨hb1, hb2⟩ := hb
  obtain ⟨ib1, ib2⟩ := ib
  obtain ⟨sb1, sb2⟩ := sb
  have HM := Lib.hid hm
  have HH := Lib.hid hh
  have HI := Lib.hid hi
  have HC := Lib.hid hc
  clear hm hh hi hc hNY hND yb db
  have HX := Lib.hid (show ∀ n, n ≤ maxT → rfcL n = s.data.toList → m = mo n ∧ h = ho n ∧ i = mi n ∧ c = se n from fun n hn e => by
    obtain ⟨_, e2, _, e4, e5, e6⟩ := HFLD.out n hn e
    rw [← HM.out, ← HH.out, ← HI.out, ← HC.out, e2, e4, e5, e6]
    exact ⟨rfl, rfl, rfl, rfl⟩)
  go_wp2_with fail
  refine (rnum_any (s.extract 5 7) (ext_le s 5 7 4 (by omega)) _).mono ?_
  rintro e wn ⟨rfl, rfl⟩
  rw [ext_sub, hNM]
  by_cases cm : 12 < m
  · have HF := Lib.hid (HBAD.out (fun n hn e => by have := (HX.out n hn e).1; have := (date_valid n).2.1; omega))
    go_wp2
    go_ret2
    exact ⟨by rw [HF.out]; rfl, (Below.refl _ w).drew⟩
  go_wp2_with fail
  refine (rnum_any (s.extract 11 13) (ext_le s 11 13 4 (by omega)) _).mono ?_
  rintro e wn ⟨rfl, rfl⟩
  rw [ext_sub, hNH]
  by_cases ch : h < 0
  · have HF := Lib.hid (HBAD.out (fun n hn e => by have := (HX.out n hn e).2.1; omega))
    go_wp2
    go_ret2
    exact ⟨by rw [HF.out]; rfl, (Below.refl _ w).drew⟩
  go_wp2_with fail
  refine (rnum_any (s.extract 14 16) (ext_le s 14 16 4 (by omega)) _).mono ?_
  rintro e wn ⟨rfl, rfl⟩
  rw [ext_sub, hNI]
  by_cases ci : i < 0
  · have HF := Lib.hid (HBAD.out (fun n hn e => by have := (HX.out n hn e).2.2.1; omega))
    go_wp2
    go_ret2
    exact ⟨by rw [HF.out]; rfl, (Below.refl _ w).drew⟩
  go_wp2_with fail
  refine (rnum_any (s.extract 17 19) (ext_le s 17 19 4 (by omega)) _).mono ?_
  rintro e wn ⟨rfl, rfl⟩
  rw [ext_sub, hNS]
  by_cases cc : c < 0
  · have HF := Lib.hid (HBAD.out (fun n hn e => by have := (HX.out n hn e).2.2.2; omega))
    go_wp2
    go_ret2
    exact ⟨by rw [HF.out]; rfl, (Below.refl _ w).drew⟩
  go_wp2_with fail
  refine wp_region_any (by kernel_rfl) ?_
  try (change wpAny _ _ _ _ _ _ _ (World.drew _))
  refine wpAny_take (i := 0) (v := ?_) rfl (by kernel_rfl) (by kernel_rfl) (by kernel_rfl) (fun _ _ _ h => h) (Or.inl ⟨by rfl, ?_⟩) ?_
  rotate_left 1
  · (intro w; go_simp) <;> with_reducible rfl
  refine wpAny_take (i := 1) (v := ?_) rfl (by kernel_rfl) (by kernel_rfl) (by kernel_rfl) (fun _ _ _ h => h) (Or.inl ⟨by rfl, ?_⟩) ?_
  rotate_left 1
  · (intro w; go_simp) <;> with_reducible rfl
  refine wpAny_take (i := 2) (v := ?_) rfl (by kernel_rfl) (by kernel_rfl) (by kernel_rfl) (fun _ _ _ h => h) (Or.inl ⟨by rfl, ?_⟩) ?_
  rotate_left 1
  · (intro w; go_simp) <;> with_reducible rfl
  refine wpAny_take (i := 6) (v := ?_) rfl (by kernel_rfl) (by kernel_rfl) (by kernel_rfl) (fun _ _ _ h => h) (Or.inl ⟨by rfl, ?_⟩) ?_
  rotate_left 1
  · (intro w; go_simp) <;> with_reducible rfl
  refine wpAny_take (i := 7) (v := ?_) rfl (by kernel_rfl) (by kernel_rfl) (by kernel_rfl) (fun _ _ _ h => h) (Or.inl ⟨by rfl, ?_⟩) ?_
  rotate_left 1
  · (intro w; go_simp) <;> with_reducible rfl
  refine wpAny_take (i := 11) (v := ?_) rfl (by kernel_rfl) (by kernel_rfl) (by kernel_rfl) (fun _ _ _ h => h) (Or.inl ⟨by rfl, ?_⟩) ?_
  rotate_left 1
  · (intro w; go_simp) <;> with_reducible rfl
  refine wpAny_take (i := 12) (v := ?_) rfl (by kernel_rfl) (by kernel_rfl) (by kernel_rfl) (fun _ _ _ h => h) (Or.inl ⟨by rfl, ?_⟩) ?_
  rotate_left 1
  · (intro w; go_simp) <;> with_reducible rfl
  refine wpAny_ready (rs := [3]) (by kernel_rfl) (by simp) ?_
  refine AllReady.cons rfl (fun K hK => ?_) AllReady.nil
  go_simp
  go_wp2_with fail
  refine (rnum_any (s.extract 11 13) (ext_le s 11 13 4 (by omega)) _).mono ?_
  rintro e wn ⟨rfl, rfl⟩
  rw [ext_sub, hNH]
  go_wp2_with fail
  refine wpAny_take (i := 4) (v := ?_) rfl (by kernel_rfl) (by kernel_rfl) (by kernel_rfl) (fun _ _ _ h => h) (Or.inl ⟨by rfl, ?_⟩) ?_
  rotate_left 1
  · (intro w; go_simp) <;> with_reducible rfl
  refine wpAny_take (i := 5) (v := ?_) rfl (by kernel_rfl) (by kernel_rfl) (by kernel_rfl) (fun _ _ _ h => h) (Or.inl ⟨by rfl, ?_⟩) ?_
  rotate_left 1
  · (intro w; go_simp) <;> with_reducible rfl
  refine wpAny_ready (rs := [8]) (by kernel_rfl) (by simp) ?_
  refine AllReady.cons rfl (fun K hK => ?_) AllReady.nil
  go_simp
  go_wp2_with fail
  refine (rnum_any (s.extract 14 16) (ext_le s 14 16 4 (by omega)) _).mono ?_
  rintro e wn ⟨rfl, rfl⟩
  rw [ext_sub, hNI]
  go_wp2_with fail
  refine wpAny_take (i := 9) (v := ?_) rfl (by kernel_rfl) (by kernel_rfl) (by kernel_rfl) (fun _ _ _ h => h) (Or.inl ⟨by rfl, ?_⟩) ?_
  rotate_left 1
  · (intro w; go_simp) <;> with_reducible rfl
  refine wpAny_take (i := 10) (v := ?_) rfl (by kernel_rfl) (by kernel_rfl) (by kernel_rfl) (fun _ _ _ h => h) (Or.inl ⟨by rfl, ?_⟩) ?_
  rotate_left 1
  · (intro w; go_simp) <;> with_reducible rfl
  refine wpAny_ready (rs := [13]) (by kernel_rfl) (by simp) ?_
  refine AllReady.cons rfl (fun K hK => ?_) AllReady.nil
  go_simp
  go_wp2_with fail
  refine (rnum_any (s.extract 17 19) (ext_le s 17 19 4 (by omega)) _).mono ?_
  rintro e wn ⟨rfl, rfl⟩
  rw [ext_sub, hNS]
  go_wp2_with fail
  refine wpAny_take (i := 14) (v := ?_) rfl (by kernel_rfl) (by kernel_rfl) (by kernel_rfl) (fun _ _ _ h => h) (Or.inl ⟨by rfl, ?_⟩) ?_
  rotate_left 1
  · (intro w; go_simp) <;> with_reducible rfl
  refine wpAny_take (i := 15) (v := ?_) rfl (by kernel_rfl) (by kernel_rfl) (by kernel_rfl) (fun _ _ _ h => h) (Or.inl ⟨by rfl, ?_⟩) ?_
  rotate_left 1
  · (intro w; go_simp) <;> with_reducible rfl
  refine wpAny_done (by kernel_rfl) ?_ _
  have HW := Lib.hid (show ok = true → ∀ n, n ≤ maxT → rfcL n = s.data.toList → v + 3600 * h + 60 * i + c = (n : Int) from fun hok n hn e => by
    obtain ⟨y', m', d', e1, e2, e3, e4⟩ := HS1.out hok
    obtain ⟨f1, f2, f3, _⟩ := HFLD.out n hn e
    rw [f1] at e1; rw [f2] at e2; rw [f3] at e3
    cases e1; cases e2; cases e3
    have hx := HX.out n hn e
    have hsd := secs_date n
    rw [e4, hx.2.1, hx.2.2.1, hx.2.2.2]
    omega)
  cases ok with
  | false =>
    have HF := Lib.hid (HBAD.out (fun n hn e => by
      obtain ⟨f1, f2, f3, _⟩ := HFLD.out n hn e
      exact HS0.out rfl _ _ _ f1 f2 f3 (date_valid n)))
    go_wp2
    go_ret2
    exact ⟨by rw [HF.out]; rfl, (Below.refl _ w).drew.drew⟩
  | true =>
    obtain ⟨N, hN⟩ : ∃ N : Int, v + 3600 * h + 60 * i + c = N := ⟨_, rfl⟩
    have HW2 := Lib.hid (show ∀ n, n ≤ maxT → rfcL n = s.data.toList → N = (n : Int) from fun n hn e => by rw [← hN]; exact HW.out rfl n hn e)
    by_cases c1 : N < 0
    · have HF := Lib.hid (HBAD.out (fun n hn e => by have := HW2.out n hn e; omega))
      go_wp2
      go_ret2
      exact ⟨by rw [HF.out]; rfl, (Below.refl _ w).drew.drew⟩
    by_cases c2 : 253402300799 < N
    · have HF := Lib.hid (HBAD.out (fun n hn e => by have := HW2.out n hn e; unfold maxT at hn; omega))
      go_wp2
      go_ret2
      exact ⟨by rw [HF.out]; rfl, (Below.refl _ w).drew.drew⟩
    have hk : clamp N = N.toNat := by unfold clamp; omega
    have hkm : N.toNat ≤ maxT := by unfold maxT; omega
    obtain ⟨T, hT⟩ : ∃ T : ByteArray, (⟨(rfcL (clamp N)).toArray⟩ : ByteArray) = T := ⟨_, rfl⟩
    have hTl : rfcL N.toNat = T.data.toList := by rw [← hT, ← hk]
    have HT := Lib.hid hT
    clear hT
    go_wp2_with fail
    refine (rrfc_tells N (by omega) (by omega) _).mono ?_
    rintro e w2 ⟨rfl, hb2⟩
    rw [HT.out]
    have hbb : Below w.heap.size w w2 := chain ((Below.refl _ w).drew.drew) hb2
    by_cases hts : T = s
    · have HF := Lib.hid (show V = .tuple #[.int .i64 N, .int .i64 0] by
        rw [← HV.out, rrfc_iff.2 ⟨hkm, by rw [hTl, hts]⟩, rV, show ((N.toNat : Nat) : Int) = N by omega])
      clear hTl hk hkm
      subst hts
      go_wp2
      go_ret2
      exact ⟨by rw [HF.out]; rfl, hbb⟩
    · have hne : (!T.toList == s.toList) = true := by
        have hd' : T.data.toList ≠ s.data.toList := fun e => hts (Kit.bytes_ext e)
        rw [Lib.toList_data, Lib.toList_data]
        simpa using hd'
      have HF := Lib.hid (HBAD.out (fun n hn e => by
        have h1 := HW2.out n hn e
        exact hts (Kit.bytes_ext (by rw [← hTl, ← e, show N.toNat = n by omega]))))
      clear hTl hk hkm hts
      go_wp2
      go_ret2
      exact ⟨by rw [HF.out]; rfl, hbb⟩
end Go.Proofs.YtlhoellimldimaaDoor.D6
