/-
  The document's answer for package date, as the statements have it: a day's text read. Condition: the text has at most 2^40 bytes.
-/
import Derived.Test.YtlhoellimldimaaDoorD6Num
import Derived.RegionTactic
import Derived.Deep.CutRange
import Derived.Deep.RegionWith
namespace Go.Proofs.YtlhoellimldimaaDoor.D6
open Go Go.RowKit Go.Joins Kit

theorem getD_at (s : ByteArray) (i : Nat) (h : i < s.size) : s.data.toList.getD i 0 = s[i] := by
  have hl : i < s.data.toList.length := by rw [← Lib.size_eq]; exact h
  rw [List.getD_eq_getElem?_getD, List.getElem?_eq_getElem hl, Option.getD_some, byte_get s i h]
theorem byte_is {s : ByteArray} {i : Nat} (h : i < s.size) {c : UInt8} (e : (s[i].toNat : Int) = c.toNat) : s.data.toList.getD i 0 = c := by
  rw [getD_at s i h]
  exact UInt8.toNat_inj.1 (by omega)
theorem byte_not {s : ByteArray} {i : Nat} (h : i < s.size) {c : UInt8} (e : (s[i].toNat : Int) ≠ c.toNat) : s.data.toList.getD i 0 ≠ c := by
  rw [getD_at s i h]
  intro he
  rw [he] at e
  exact e rfl
theorem ext_sub (s : ByteArray) (a b : Nat) : (s.extract a b).data.toList = sub s.data.toList a (b - a) := by rw [Lib.extract_eq]; rfl
theorem ext_le (s : ByteArray) (a b n : Nat) (h : b ≤ a + n) : (s.extract a b).size ≤ n := by rw [ByteArray.size_extract]; omega
theorem sub_le (l : List UInt8) (i n : Nat) : (sub l i n).length ≤ n := by unfold sub; rw [List.length_take]; omega
theorem secV_of (y d : Option Nat) {m : Nat} (hm : m ≤ 12) : secV y (some m) d = match secsO y m d with
    | some t => .tuple #[.int .i64 t, .bool true]
    | none => .tuple #[.int .i64 0, .bool false] := by
  unfold secV secsO
  cases y with
  | none => rfl
  | some y =>
    cases d with
    | none => rfl
    | some d =>
      simp only
      by_cases h : ValidD y m d
      · rw [if_pos h, if_pos ⟨h.1, h.2.2.1, h.2.2.2⟩]
      · rw [if_neg h, if_neg (fun e => h ⟨e.1, hm, e.2.1, e.2.2⟩)]
theorem secV_parts (y d : Option Nat) {m : Nat} (hm : m ≤ 12) : ∃ (v : Int) (ok : Bool), secV y (some m) d = .tuple #[.int .i64 v, .bool ok] ∧ (ok = true → secsO y m d = some v) ∧ (ok = false → secsO y m d = none) := by
  rw [secV_of y d hm]
  cases h : secsO y m d with
  | none => exact ⟨0, false, rfl, (fun e => by cases e), fun _ => rfl⟩
  | some t => exact ⟨t, true, rfl, fun _ => rfl, fun e => by cases e⟩
theorem secsO_in {y d : Option Nat} {m : Nat} {t : Int} (hy : optI y ≤ 9999) (h : secsO y m d = some t) : -63000000000 ≤ t ∧ t ≤ 253402300799 := by
  unfold secsO at h
  cases y with
  | none => cases h
  | some y =>
    cases d with
    | none => cases h
    | some d =>
      simp only at h
      split at h
      · rename_i hv
        have e := Option.some.inj h
        have h1 := day_year hv
        have hy' : (y : Int) ≤ 9999 := hy
        have h2 := ahead_mono (x := y + 1) (y := 10000) (by omega)
        rw [ahead_end] at h2
        unfold secs at e
        omega
      · cases h

set_option maxHeartbeats 1000000 in
set_option maxRecDepth 100000 in
theorem rday_reads (s : ByteArray) (hs : s.size ≤ 1099511627776) (w : World) :
    Calls Tryd.prog 23 #[.string s] w fun e w' => e = .returned (rV (rdayL s.data.toList)) ∧ Below w.heap.size w w' := by
  obtain ⟨V, hV⟩ : ∃ V, rV (rdayL s.data.toList) = V := ⟨_, rfl⟩
  rw [hV]
  have HV := Lib.hid hV
  clear hV
  go_enter Tryd.func23, Tryd.ntmps23
  go_upto_if 8 with fail
  go_cut [0] from 6 to 43 (fun v wx => ∃ t : ByteArray, v = .string t ∧ t.size ≤ 1099511627777 ∧ Hid (t.data.toList = dayP s.data.toList) ∧ w = wx)
  case first =>
    by_cases h10 : s.size = 10
    · have g : (s.size : Int) = 10 := by omega
      have HT := Lib.hid (show (⟨#[48]⟩ ++ s : ByteArray).data.toList = dayP s.data.toList by rw [Joins.data_append, dayP, if_pos (by rw [← Lib.size_eq]; exact h10)]; rfl)
      go_wp2
      go_meet
      exact ⟨_, rfl, by rw [ByteArray.size_append]; show 1 + s.size ≤ _; omega, HT, rfl⟩
    · have g : (s.size : Int) ≠ 10 := by omega
      have HT := Lib.hid (show s.data.toList = dayP s.data.toList by rw [dayP, if_neg (by rw [← Lib.size_eq]; exact h10)])
      go_wp2
      go_meet
      exact ⟨_, rfl, by omega, HT, rfl⟩
  case rest =>
    obtain ⟨t, rfl, ht, HT, rfl⟩ := hcut
    by_cases h11 : (t.size : Int) = 11
    · have hl : (dayP s.data.toList).length = 11 := by rw [← HT.out, ← Lib.size_eq]; omega
      have b2 : 2 < t.size := by omega
      have b6 : 6 < t.size := by omega
      by_cases c2 : (t[2].toNat : Int) = 45
      · have q2 : (dayP s.data.toList).getD 2 0 = 45 := by rw [← HT.out]; exact byte_is b2 c2
        by_cases c6 : (t[6].toNat : Int) = 45
        · have q6 : (dayP s.data.toList).getD 6 0 = 45 := by rw [← HT.out]; exact byte_is b6 c6
          obtain ⟨Y, hY⟩ : ∃ Y, numD (sub t.data.toList 7 4) = Y := ⟨_, rfl⟩
          obtain ⟨M, hM⟩ : ∃ M, whichN (sub t.data.toList 3 3) = M := ⟨_, rfl⟩
          obtain ⟨D, hD⟩ : ∃ D, numD (sub t.data.toList 0 2) = D := ⟨_, rfl⟩
          have hdr : (dayP s.data.toList).drop 7 = sub t.data.toList 7 4 := by
            rw [← HT.out, sub, List.take_of_length_le (by rw [List.length_drop, ← Lib.size_eq]; omega)]
          have HR := Lib.hid (show rdayL s.data.toList = posO (secsO Y M D) by
            unfold rdayL
            rw [if_pos ⟨hl, q2, q6⟩, hdr, hY, ← HT.out, hM, hD])
          have yb : optI Y ≤ 9999 := by have := (optI_le 4 (sub_le t.data.toList 7 4)).2; rw [hY] at this; omega
          have db : optI D ≤ 99 := by have := (optI_le 2 (sub_le t.data.toList 0 2)).2; rw [hD] at this; omega
          have mb : M ≤ 12 := by rw [← hM]; exact which_le _
          have hN1 : optI (numD (sub t.data.toList 7 (11 - 7))) = optI Y := by rw [hY]
          have hx3 : (t.extract 3 6).size ≤ 1000 := by have := ext_le t 3 6 3 (by omega); omega
          have hx2 : (t.extract 0 2).size ≤ 4 := by have := ext_le t 0 2 2 (by omega); omega
          obtain ⟨v, ok, hsec, hok1, hok0⟩ := secV_parts Y D mb
          have HS1 := Lib.hid hok1
          have HS0 := Lib.hid hok0
          have HSEC := Lib.hid hsec
          clear hsec hok1 hok0
          have hN2 : ((whichN (sub t.data.toList 3 (6 - 3)) : Nat) : Int) = M := by rw [hM]
          have hN3 : optI (numD (sub t.data.toList 0 (2 - 0))) = optI D := by rw [hD]
          clear hY hM hD hdr q2 q6 hl
          have hz : t.size = 11 := by omega
          go_wp2_with fail
          refine wp_region_any (by kernel_rfl) ?_
          try (change wpAny _ _ _ _ _ _ _ (World.drew _))
          refine wpAny_take (i := 0) (v := ?_) rfl (by kernel_rfl) (by kernel_rfl) (by kernel_rfl) (fun _ _ _ h => h) (Or.inl ⟨by rfl, ?_⟩) ?_
          rotate_left 1
          · (intro w; go_simp) <;> with_reducible rfl
          refine wpAny_take (i := 1) (v := ?_) rfl (by kernel_rfl) (by kernel_rfl) (by kernel_rfl) (fun _ _ _ h => h) (Or.inl ⟨by rfl, ?_⟩) ?_
          rotate_left 1
          · (intro w; go_simp) <;> with_reducible rfl
          refine wpAny_take (i := 3) (v := ?_) rfl (by kernel_rfl) (by kernel_rfl) (by kernel_rfl) (fun _ _ _ h => h) (Or.inl ⟨by rfl, ?_⟩) ?_
          rotate_left 1
          · (intro w; go_simp) <;> with_reducible rfl
          refine wpAny_take (i := 4) (v := ?_) rfl (by kernel_rfl) (by kernel_rfl) (by kernel_rfl) (fun _ _ _ h => h) (Or.inl ⟨by rfl, ?_⟩) ?_
          rotate_left 1
          · (intro w; go_simp) <;> with_reducible rfl
          refine wpAny_take (i := 6) (v := ?_) rfl (by kernel_rfl) (by kernel_rfl) (by kernel_rfl) (fun _ _ _ h => h) (Or.inl ⟨by rfl, ?_⟩) ?_
          rotate_left 1
          · (intro w; go_simp) <;> with_reducible rfl
          refine wpAny_take (i := 7) (v := ?_) rfl (by kernel_rfl) (by kernel_rfl) (by kernel_rfl) (fun _ _ _ h => h) (Or.inl ⟨by rfl, ?_⟩) ?_
          rotate_left 1
          · (intro w; go_simp) <;> with_reducible rfl
          refine wpAny_ready (rs := [2]) (by kernel_rfl) (by simp) ?_
          refine AllReady.cons rfl (fun K hK => ?_) AllReady.nil
          go_simp
          go_wp2_with fail
          refine (rnum_any (t.extract 7 11) (ext_le t 7 11 4 (by omega)) _).mono ?_
          rintro e w1 ⟨rfl, rfl⟩
          rw [ext_sub, hN1]
          go_wp2_with fail
          refine wpAny_ready (rs := [5]) (by kernel_rfl) (by simp) ?_
          refine AllReady.cons rfl (fun K hK => ?_) AllReady.nil
          go_simp
          go_wp2_with fail
          refine (rwhich_any (t.extract 3 6) hx3 _).mono ?_
          rintro e w2 ⟨rfl, hb2⟩
          rw [ext_sub, hN2]
          go_wp2_with fail
          refine wpAny_ready (rs := [8]) (by kernel_rfl) (by simp) ?_
          refine AllReady.cons rfl (fun K hK => ?_) AllReady.nil
          go_simp
          go_wp2_with fail
          refine (rnum_any (t.extract 0 2) hx2 _).mono ?_
          rintro e w3 ⟨rfl, rfl⟩
          rw [ext_sub, hN3]
          go_wp2_with fail
          refine wpAny_ready (rs := [9]) (by kernel_rfl) (by simp) ?_
          refine AllReady.cons rfl (fun K hK => ?_) AllReady.nil
          go_simp
          go_wp2_with fail
          refine (rsec_at Y (some M) D _ _ _ rfl rfl rfl yb (by show (M : Int) ≤ 99; omega) db _).mono ?_
          rintro e w4 ⟨rfl, rfl⟩
          rw [HSEC.out]
          go_wp2_with fail
          refine wpAny_take (i := 10) (v := ?_) rfl (by kernel_rfl) (by kernel_rfl) (by kernel_rfl) (fun _ _ _ h => h) (Or.inl ⟨by rfl, ?_⟩) ?_
          rotate_left 1
          · (intro w; go_simp) <;> with_reducible rfl
          refine wpAny_take (i := 11) (v := ?_) rfl (by kernel_rfl) (by kernel_rfl) (by kernel_rfl) (fun _ _ _ h => h) (Or.inl ⟨by rfl, ?_⟩) ?_
          rotate_left 1
          · (intro w; go_simp) <;> with_reducible rfl
          refine wpAny_take (i := 12) (v := ?_) rfl (by kernel_rfl) (by kernel_rfl) (by kernel_rfl) (fun _ _ _ h => h) (Or.inl ⟨by rfl, ?_⟩) ?_
          rotate_left 1
          · (intro w; go_simp) <;> with_reducible rfl
          refine wpAny_take (i := 13) (v := ?_) rfl (by kernel_rfl) (by kernel_rfl) (by kernel_rfl) (fun _ _ _ h => h) (Or.inl ⟨by rfl, ?_⟩) ?_
          rotate_left 1
          · (intro w; go_simp) <;> with_reducible rfl
          refine wpAny_take (i := 14) (v := ?_) rfl (by kernel_rfl) (by kernel_rfl) (by kernel_rfl) (fun _ _ _ h => h) (Or.inl ⟨by rfl, ?_⟩) ?_
          rotate_left 1
          · (intro w; go_simp) <;> with_reducible rfl
          refine wpAny_done (by kernel_rfl) ?_ _
          clear hN1 hN2 hN3 hx2 hx3
          cases ok with
          | false =>
            have HF := Lib.hid (show V = .tuple #[.int .i64 0, .int .i64 3] by rw [← HV.out, HR.out, HS0.out rfl]; rfl)
            go_wp2
            go_ret2
            exact ⟨by rw [HF.out]; rfl, below_first hb2⟩
          | true =>
            have hin := secsO_in yb (HS1.out rfl)
            by_cases hv : v < 0
            · have HF := Lib.hid (show V = .tuple #[.int .i64 0, .int .i64 3] by rw [← HV.out, HR.out, HS1.out rfl, posO, if_neg (by omega)]; rfl)
              go_wp2
              go_ret2
              exact ⟨by rw [HF.out]; rfl, below_first hb2⟩
            · have HF := Lib.hid (show V = .tuple #[.int .i64 v, .int .i64 0] by
                rw [← HV.out, HR.out, HS1.out rfl, posO, if_pos (by omega), rV, show ((v.toNat : Nat) : Int) = v by omega])
              go_wp2
              go_ret2
              exact ⟨by rw [HF.out]; rfl, below_first hb2⟩
        · have HF := Lib.hid (show V = .tuple #[.int .i64 0, .int .i64 3] by
            rw [← HV.out, rdayL, if_neg (fun e => byte_not (c := 45) b6 c6 (by rw [HT.out]; exact e.2.2))]; rfl)
          clear q2 hl
          go_wp2
          go_ret2
          exact ⟨by rw [HF.out]; rfl, Below.refl _ _⟩
      · have HF := Lib.hid (show V = .tuple #[.int .i64 0, .int .i64 3] by
          rw [← HV.out, rdayL, if_neg (fun e => byte_not (c := 45) b2 c2 (by rw [HT.out]; exact e.2.1))]; rfl)
        clear hl
        go_wp2
        go_ret2
        exact ⟨by rw [HF.out]; rfl, Below.refl _ _⟩
    · have HF := Lib.hid (show V = .tuple #[.int .i64 0, .int .i64 3] by
        rw [← HV.out, rdayL, if_neg (fun e => h11 (by have := e.1; rw [← HT.out, ← Lib.size_eq] at this; omega))]; rfl)
      go_wp2
      go_ret2
      exact ⟨by rw [HF.out]; rfl, Below.refl _ _⟩
end Go.Proofs.YtlhoellimldimaaDoor.D6
