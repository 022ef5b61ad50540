/-
  Package date's three readers: a day's first second, a second by each of its two texts. Conditions: the tables as the program's text lays them (Env); the texts have at most 2^20 bytes.
-/
import Derived.Test.YtlhoellimldimaaDoorD6Tells
import Derived.Test.YtlhoellimldimaaDoorD6Date
import Derived.Test.YtlhoellimldimaaDoorD6Rfc
namespace Go.Proofs.YtlhoellimldimaaDoor.D6
open Go Go.RowKit Go.Joins Kit

theorem date_in {l : List UInt8} {t : Int} (h : dateO l = some t) : -719528 ≤ t ∧ t ≤ 2932896 := by
  have key : ∀ (y d : Option Nat) (m : Nat), (∀ k, y = some k → k ≤ 9999) → daysO y m d = some t → -719528 ≤ t ∧ t ≤ 2932896 := by
    intro y d m hy e
    unfold daysO at e
    cases y with
    | none => cases e
    | some y =>
      cases d with
      | none => cases e
      | some d =>
        simp only at e
        split at e
        · rename_i hv
          have h1 := days_in (hy y rfl) hv
          have h2 := Option.some.inj e
          omega
        · cases e
  unfold dateO at h
  split at h
  · exact key _ _ _ (fun k hk => num_le4 (sub_le l 6 4) hk) h
  · split at h
    · exact key _ _ _ (fun k hk => num_le4 (sub_le l 7 4) hk) h
    · cases h

set_option maxHeartbeats 400000 in
set_option maxRecDepth 100000 in
theorem readDay_any (s : ByteArray) (w : World) (hs : s.size ≤ 1048576) (hE : Env w) :
    Calls Tryd.prog 22 #[.string s] w fun e w' => e = .returned (rV (rdayL s.data.toList)) ∧ Below w.heap.size w w' := by
  rw [rday_own, ownDay]
  obtain ⟨v, ok, hok, h1, h0⟩ := okV_parts (dateO s.data.toList)
  have HOK := Lib.hid hok
  go_enter Tryd.func22, Tryd.ntmps22
  cases ok with
  | true =>
    have hd := h1 rfl
    rw [hd]
    have hb := date_in hd
    obtain ⟨hv1, hv2⟩ := hb
    have HR : Hid (∃ X Y : Int, rV (inT (v * 86400)) = .tuple #[.int .i64 X, .int .i64 Y]) := Lib.hid ⟨_, _, rV_eq _⟩
    obtain ⟨X, Y, hXY⟩ := HR.out
    have HXY := Lib.hid hXY
    clear h1 h0 hok hd HR
    rw [hXY]
    clear hXY
    go_wp2_with fail
    refine (cdate_any s hs w hE).mono ?_
    rintro e w1 ⟨rfl, hb1⟩
    rw [HOK.out]
    go_wp2_with fail
    refine (cwithin_any _ (by omega) (by omega) w1).mono ?_
    rintro e w2 ⟨rfl, rfl⟩
    rw [HXY.out]
    go_wp2
    go_ret2
    exact ⟨rfl, hb1⟩
  | false =>
    have hd := h0 rfl
    rw [hd]
    clear h1 h0 hok hd
    go_wp2_with fail
    refine (cdate_any s hs w hE).mono ?_
    rintro e w1 ⟨rfl, hb1⟩
    rw [HOK.out]
    go_wp2
    go_ret2
    exact ⟨rfl, hb1⟩

/-! ### The text of the one form -/
theorem ext_all (s : ByteArray) (a n : Nat) (h : s.size = n) : (s.extract a n).data.toList = s.data.toList.drop a := by
  rw [ext_sub, sub, List.take_of_length_le (by rw [List.length_drop, ← Lib.size_eq]; omega)]
theorem clkV_parts (h i x : Nat) : ∃ (v : Int) (ok : Bool), clkV (timeO (some h) (some i) (some x)) = .tuple #[.int .i64 v, .bool ok] ∧ (0 ≤ v ∧ v ≤ 86399) ∧ (ok = true → timeO (some h) (some i) (some x) = some v.toNat) ∧ (ok = false → timeO (some h) (some i) (some x) = none) := by
  unfold timeO
  try simp only
  by_cases c : h ≤ 23 ∧ i ≤ 59 ∧ x ≤ 59
  · rw [if_pos c]
    exact ⟨((3600 * h + 60 * i + x : Nat) : Int), true, rfl, ⟨by omega, by omega⟩, fun _ => rfl, fun e => by cases e⟩
  · rw [if_neg c]
    exact ⟨0, false, rfl, ⟨by decide, by decide⟩, (fun e => by cases e), fun _ => rfl⟩
/-- What the reader of the one form has of a text that fits. -/
theorem rfc_has {l : List UInt8} (hfit : fitL rfcF l = true) : ∃ y m d hh i x : Nat, numD (sub l 0 4) = some y ∧ numD (sub l 5 2) = some m ∧ numD (sub l 8 2) = some d ∧
    numD (sub (l.drop 11) 0 2) = some hh ∧ numD (sub (l.drop 11) 3 2) = some i ∧ numD (sub (l.drop 11) 6 2) = some x ∧ l.length = 20 ∧
    candL l = (match daysO (some y) m (some d), timeO (some hh) (some i) (some x) with
      | some a, some b => inT (a * 86400 + b)
      | _, _ => none) := by
  obtain ⟨a, b, c, d, e1, f, g, h, i, j, k, m, o, p, rfl, da, db, dc, dd, de, df, dg', dh, di, dj, dk, dm, dn, dp⟩ := fit_rfc hfit
  refine ⟨_, _, _, _, _, _, numD4 da db dc dd, numD2 de df, numD2 dg' dh, numD2 di dj, numD2 dk dm, numD2 dn dp, rfl, ?_⟩
  unfold candL
  rw [show sub [a, b, c, d, 45, e1, f, 45, g, h, 84, i, j, 58, k, m, 58, o, p, 90] 0 4 = [a, b, c, d] from rfl, show sub [a, b, c, d, 45, e1, f, 45, g, h, 84, i, j, 58, k, m, 58, o, p, 90] 5 2 = [e1, f] from rfl,
    show sub [a, b, c, d, 45, e1, f, 45, g, h, 84, i, j, 58, k, m, 58, o, p, 90] 8 2 = [g, h] from rfl, show sub [a, b, c, d, 45, e1, f, 45, g, h, 84, i, j, 58, k, m, 58, o, p, 90] 11 2 = [i, j] from rfl,
    show sub [a, b, c, d, 45, e1, f, 45, g, h, 84, i, j, 58, k, m, 58, o, p, 90] 14 2 = [k, m] from rfl, show sub [a, b, c, d, 45, e1, f, 45, g, h, 84, i, j, 58, k, m, 58, o, p, 90] 17 2 = [o, p] from rfl,
    numD4 da db dc dd, numD2 de df, numD2 dg' dh, numD2 di dj, numD2 dk dm, numD2 dn dp, Option.getD_some, secsO_days]
  generalize timeO (some (dv i * 10 + dv j)) (some (dv k * 10 + dv m)) (some (dv o * 10 + dv p)) = T
  generalize daysO (some (((dv a * 10 + dv b) * 10 + dv c) * 10 + dv d)) (dv e1 * 10 + dv f) (some (dv g * 10 + dv h)) = D
  cases D <;> cases T <;> rfl
theorem days_bound {y m d : Nat} {v : Int} (hy : y ≤ 9999) (h : daysO (some y) m (some d) = some v) : -719528 ≤ v ∧ v ≤ 2932896 := by
  unfold daysO at h
  simp only at h
  split at h
  · rename_i hv
    have h1 := days_in hy hv
    have h2 := Option.some.inj h
    omega
  · cases h
theorem okV_in {y m d : Nat} (hy : y ≤ 9999) : ∃ (v : Int) (ok : Bool), okV (daysO (some y) m (some d)) = .tuple #[.int .i64 v, .bool ok] ∧ (-719528 ≤ v ∧ v ≤ 2932896) ∧ (ok = true → daysO (some y) m (some d) = some v) ∧ (ok = false → daysO (some y) m (some d) = none) := by
  cases h : daysO (some y) m (some d) with
  | none => exact ⟨0, false, rfl, ⟨by decide, by decide⟩, (fun e => by cases e), fun _ => rfl⟩
  | some v => exact ⟨v, true, rfl, days_bound hy h, fun _ => rfl, fun e => by cases e⟩

set_option maxHeartbeats 2000000 in
set_option maxRecDepth 100000 in
theorem readRfc_any (s : ByteArray) (w : World) (hs : s.size ≤ 1048576) (hE : Env w) :
    Calls Tryd.prog 20 #[.string s] w fun e w' => e = .returned (rV (rrfcL s.data.toList)) ∧ Below w.heap.size w w' := by
  obtain ⟨V, hV⟩ : ∃ V, rV (rrfcL s.data.toList) = V := ⟨_, rfl⟩
  rw [hV]
  rw [rrfc_own, ownRfc] at hV
  cases hf : fitL rfcF s.data.toList with
  | false =>
    rw [hf, if_neg (by decide)] at hV
    have HV := Lib.hid hV
    clear hV
    go_enter Tryd.func20, Tryd.ntmps20
    go_wp2_with fail
    refine (cfits_rfc s (by omega) w).mono ?_
    rintro e w1 ⟨rfl, hb1⟩
    rw [hf]
    go_wp2
    go_ret2
    exact ⟨by rw [← HV.out]; rfl, hb1⟩
  | true =>
    obtain ⟨y, m, d, hh, i, x, ny, nm, nd, nh, ni, nx, hl, hcand⟩ := rfc_has hf
    rw [hf, if_pos rfl, hcand] at hV
    clear hcand
    have hz : s.size = 20 := by rw [Lib.size_eq]; exact hl
    have hzi : (s.size : Int) = 20 := by omega
    have hy4 : y ≤ 9999 := num_le4 (sub_le _ 0 4) ny
    have hyb : (y : Int) ≤ 9999 := by omega
    have hmb : (m : Int) ≤ 99 := by have := num_le nm (sub_le _ 5 2); omega
    have hdb : (d : Int) ≤ 99 := by have := num_le nd (sub_le _ 8 2); omega
    obtain ⟨v, ok, hok, ⟨v1, v2⟩, ok1, ok0⟩ := okV_in (m := m) (d := d) hy4
    obtain ⟨c, kc, hkc, ⟨c1, c2⟩, kc1, kc0⟩ := clkV_parts hh i x
    have hd11 := ext_all s 11 20 hz
    have HV := Lib.hid hV
    have HY := Lib.hid ny
    have HM := Lib.hid nm
    have HD := Lib.hid nd
    have NH := Lib.hid nh
    have NI := Lib.hid ni
    have NX := Lib.hid nx
    have HF := Lib.hid hf
    have HOK := Lib.hid hok
    have HKC := Lib.hid hkc
    have OK1 := Lib.hid ok1
    have OK0 := Lib.hid ok0
    have KC1 := Lib.hid kc1
    have KC0 := Lib.hid kc0
    have H11 := Lib.hid hd11
    clear hV ny nm nd nh ni nx hf hok hkc ok1 ok0 kc1 kc0 hd11 hl
    have hx9 : (s.extract 11 20).size = 9 := by rw [ByteArray.size_extract]; omega
    go_enter Tryd.func20, Tryd.ntmps20
    go_wp2_with fail
    refine (cfits_rfc s (by omega) w).mono ?_
    rintro e w1 ⟨rfl, hb1⟩
    rw [HF.out]
    go_wp2_with fail
    refine wp_region_any (by kernel_rfl) ?_
    try (change wpAny _ _ _ _ _ _ _ (World.drew _))
    refine wpAny_take (i := 0) (v := ?_) rfl (by kernel_rfl) (by kernel_rfl) (by kernel_rfl) (fun _ _ _ h => h) (Or.inl ⟨by rfl, ?_⟩) ?_
    rotate_left 1
    · (intro w; go_simp) <;> with_reducible rfl
    refine wpAny_take (i := 1) (v := ?_) rfl (by kernel_rfl) (by kernel_rfl) (by kernel_rfl) (fun _ _ _ h => h) (Or.inl ⟨by rfl, ?_⟩) ?_
    rotate_left 1
    · (intro w; go_simp) <;> with_reducible rfl
    refine wpAny_take (i := 3) (v := ?_) rfl (by kernel_rfl) (by kernel_rfl) (by kernel_rfl) (fun _ _ _ h => h) (Or.inl ⟨by rfl, ?_⟩) ?_
    rotate_left 1
    · (intro w; go_simp) <;> with_reducible rfl
    refine wpAny_take (i := 4) (v := ?_) rfl (by kernel_rfl) (by kernel_rfl) (by kernel_rfl) (fun _ _ _ h => h) (Or.inl ⟨by rfl, ?_⟩) ?_
    rotate_left 1
    · (intro w; go_simp) <;> with_reducible rfl
    refine wpAny_take (i := 6) (v := ?_) rfl (by kernel_rfl) (by kernel_rfl) (by kernel_rfl) (fun _ _ _ h => h) (Or.inl ⟨by rfl, ?_⟩) ?_
    rotate_left 1
    · (intro w; go_simp) <;> with_reducible rfl
    refine wpAny_take (i := 7) (v := ?_) rfl (by kernel_rfl) (by kernel_rfl) (by kernel_rfl) (fun _ _ _ h => h) (Or.inl ⟨by rfl, ?_⟩) ?_
    rotate_left 1
    · (intro w; go_simp) <;> with_reducible rfl
    refine wpAny_ready (rs := [2]) (by kernel_rfl) (by simp) ?_
    refine AllReady.cons rfl (fun K hK => ?_) AllReady.nil
    go_simp
    go_wp2_with fail
    refine (cnum_sub HY.out rfl (by decide) _).mono ?_
    rintro e wn ⟨rfl, rfl⟩
    go_wp2_with fail
    refine wpAny_ready (rs := [5]) (by kernel_rfl) (by simp) ?_
    refine AllReady.cons rfl (fun K hK => ?_) AllReady.nil
    go_simp
    go_wp2_with fail
    refine (cnum_sub HM.out rfl (by decide) _).mono ?_
    rintro e wn ⟨rfl, rfl⟩
    go_wp2_with fail
    refine wpAny_ready (rs := [8]) (by kernel_rfl) (by simp) ?_
    refine AllReady.cons rfl (fun K hK => ?_) AllReady.nil
    go_simp
    go_wp2_with fail
    refine (cnum_sub HD.out rfl (by decide) _).mono ?_
    rintro e wn ⟨rfl, rfl⟩
    go_wp2_with fail
    refine wpAny_ready (rs := [9]) (by kernel_rfl) (by simp) ?_
    refine AllReady.cons rfl (fun K hK => ?_) AllReady.nil
    go_simp
    go_wp2_with fail
    refine (cdayof_any y m d hyb hmb hdb _ (hE.next hb1.drew)).mono ?_
    rintro e wn ⟨rfl, rfl⟩
    rw [HOK.out]
    go_wp2_with fail
    refine wpAny_take (i := 10) (v := ?_) rfl (by kernel_rfl) (by kernel_rfl) (by kernel_rfl) (fun _ _ _ h => h) (Or.inl ⟨by rfl, ?_⟩) ?_
    rotate_left 1
    · (intro w; go_simp) <;> with_reducible rfl
    refine wpAny_take (i := 11) (v := ?_) rfl (by kernel_rfl) (by kernel_rfl) (by kernel_rfl) (fun _ _ _ h => h) (Or.inl ⟨by rfl, ?_⟩) ?_
    rotate_left 1
    · (intro w; go_simp) <;> with_reducible rfl
    refine wpAny_take (i := 12) (v := ?_) rfl (by kernel_rfl) (by kernel_rfl) (by kernel_rfl) (fun _ _ _ h => h) (Or.inl ⟨by rfl, ?_⟩) ?_
    rotate_left 1
    · (intro w; go_simp) <;> with_reducible rfl
    refine wpAny_take (i := 13) (v := ?_) rfl (by kernel_rfl) (by kernel_rfl) (by kernel_rfl) (fun _ _ _ h => h) (Or.inl ⟨by rfl, ?_⟩) ?_
    rotate_left 1
    · (intro w; go_simp) <;> with_reducible rfl
    refine wpAny_take (i := 14) (v := ?_) rfl (by kernel_rfl) (by kernel_rfl) (by kernel_rfl) (fun _ _ _ h => h) (Or.inl ⟨by rfl, ?_⟩) ?_
    rotate_left 1
    · (intro w; go_simp) <;> with_reducible rfl
    refine wpAny_done (by kernel_rfl) ?_ _
    go_wp2_with fail
    refine (cclk_any (s.extract 11 20) (by omega) (by omega) hh i x (by rw [H11.out]; exact NH.out) (by rw [H11.out]; exact NI.out) (by rw [H11.out]; exact NX.out) _).mono ?_
    rintro e w2 ⟨rfl, hb2⟩
    rw [HKC.out]
    have hb3 := hb1.drew.trans (hb2.mono hb1.drew.size)
    clear hb1 hb2
    cases ok with
    | false =>
      have HR := Lib.hid (show V = .tuple #[.int .i64 0, .int .i64 3] by rw [← HV.out, OK0.out rfl]; rfl)
      go_wp2
      go_ret2
      exact ⟨by rw [HR.out]; rfl, hb3⟩
    | true =>
      cases kc with
      | false =>
        have HR := Lib.hid (show V = .tuple #[.int .i64 0, .int .i64 3] by rw [← HV.out, OK1.out rfl, KC0.out rfl]; rfl)
        go_wp2
        go_ret2
        exact ⟨by rw [HR.out]; rfl, hb3⟩
      | true =>
        have hR : V = rV (inT (v * 86400 + c)) := by rw [← HV.out, OK1.out rfl, KC1.out rfl]; show rV (inT (v * 86400 + (c.toNat : Int))) = _; rw [show ((c.toNat : Nat) : Int) = c by omega]
        obtain ⟨X, Y, hXY⟩ : ∃ X Y : Int, rV (inT (v * 86400 + c)) = .tuple #[.int .i64 X, .int .i64 Y] := ⟨_, _, rV_eq _⟩
        have HR := Lib.hid (hR.trans hXY)
        have HXY := Lib.hid hXY
        clear hR hXY
        go_wp2_with fail
        refine (cwithin_any _ (by omega) (by omega) _).mono ?_
        rintro e w2 ⟨rfl, rfl⟩
        rw [HXY.out]
        go_wp2
        go_ret2
        exact ⟨by rw [HR.out]; rfl, hb3⟩

/-! ### The text of the other form -/
theorem trim_one (l : List UInt8) : Lib.trimPrefix l [32] = trimL l := by
  unfold Lib.trimPrefix Lib.hasPrefix trimL
  cases l with
  | nil => rfl
  | cons c r =>
    by_cases h : c = 32
    · subst h
      rfl
    · rw [if_neg (by simpa using fun e => h e.symm), if_neg (by simpa using h)]
theorem trim_any (s : ByteArray) (l : List UInt8) (hl : s.data.toList = l) (hs : s.size ≤ 11) (w : World) :
    Calls Tryd.prog 42 #[.string s, .string ⟨#[32]⟩] w fun e w' => ∃ T : ByteArray, e = .returned (.string T) ∧ T.size ≤ 11 ∧ Hid (T.data.toList = trimL l) ∧ w = w' := by
  subst hl
  refine (Tryd.strings_TrimPrefix s ⟨#[32]⟩ w).mono ?_
  rintro e w' ⟨rfl, rfl⟩
  have e1 : Lib.trimPrefix s.data.toList (⟨#[32]⟩ : ByteArray).data.toList = trimL s.data.toList := trim_one _
  refine ⟨_, rfl, ?_, Lib.hid e1, rfl⟩
  rw [Lib.size_eq]
  show (Lib.trimPrefix s.data.toList (⟨#[32]⟩ : ByteArray).data.toList).length ≤ 11
  rw [e1, trimL]
  rw [Lib.size_eq] at hs
  split
  · rw [List.length_drop]; omega
  · exact hs
theorem away_in {h i : Nat} {z : List UInt8} (e1 : numD (sub z 1 2) = some h) (e2 : numD (sub z 3 2) = some i) : ∃ (v : Int) (ok : Bool), okV (awayO z) = .tuple #[.int .i64 v, .bool ok] ∧ (-86399 ≤ v ∧ v ≤ 86399) ∧ (ok = true → awayO z = some v) ∧ (ok = false → awayO z = none) := by
  unfold awayO
  rw [e1, e2, zoneO]
  by_cases c : h ≤ 23 ∧ i ≤ 59
  · rw [if_pos c]
    simp only
    by_cases p : z.getD 0 0 = 43
    · rw [if_pos p]
      exact ⟨_, true, rfl, ⟨by omega, by omega⟩, fun _ => rfl, fun e => by cases e⟩
    · rw [if_neg p]
      by_cases q : z.getD 0 0 = 45
      · rw [if_pos q]
        exact ⟨_, true, rfl, ⟨by omega, by omega⟩, fun _ => rfl, fun e => by cases e⟩
      · rw [if_neg q]
        exact ⟨0, false, rfl, ⟨by decide, by decide⟩, (fun e => by cases e), fun _ => rfl⟩
  · rw [if_neg c]
    exact ⟨0, false, rfl, ⟨by decide, by decide⟩, (fun e => by cases e), fun _ => rfl⟩
theorem imap_has {l : List UInt8} (h : fitL restF (l.drop 11) = true) : ∃ hh i x zh zi : Nat, numD (sub (l.drop 12) 0 2) = some hh ∧ numD (sub (l.drop 12) 3 2) = some i ∧ numD (sub (l.drop 12) 6 2) = some x ∧ numD (sub (l.drop 21) 1 2) = some zh ∧ numD (sub (l.drop 21) 3 2) = some zi := by
  obtain ⟨a, b, c, d, e, f, z, g, h, i, j, hl, da, db, dc, dd, de, df, dg', dh, di, dj⟩ := fit_rest h
  have h12 : l.drop 12 = [a, b, 58, c, d, 58, e, f, 32, z, g, h, i, j] := by
    rw [show 12 = 11 + 1 from rfl, ← List.drop_drop, hl]
    rfl
  have h21 : l.drop 21 = [z, g, h, i, j] := by
    rw [show 21 = 11 + 10 from rfl, ← List.drop_drop, hl]
    rfl
  rw [h12, h21]
  exact ⟨_, _, _, _, _, numD2 da db, numD2 dc dd, numD2 de df, numD2 dg' dh, numD2 di dj⟩
theorem dateV_in (l : List UInt8) : ∃ (v : Int) (ok : Bool), okV (dateO l) = .tuple #[.int .i64 v, .bool ok] ∧ (-719528 ≤ v ∧ v ≤ 2932896) ∧ (ok = true → dateO l = some v) ∧ (ok = false → dateO l = none) := by
  cases h : dateO l with
  | none => exact ⟨0, false, rfl, ⟨by decide, by decide⟩, (fun e => by cases e), fun _ => rfl⟩
  | some v => exact ⟨v, true, rfl, date_in h, fun _ => rfl, fun e => by cases e⟩

set_option maxHeartbeats 2000000 in
set_option maxRecDepth 100000 in
theorem readImap_any (s : ByteArray) (w : World) (_hs : s.size ≤ 1048576) (hE : Env w) :
    Calls Tryd.prog 18 #[.string s] w fun e w' => e = .returned (rV (rimapL s.data.toList)) ∧ Below w.heap.size w w' := by
  obtain ⟨V, hV⟩ : ∃ V, rV (rimapL s.data.toList) = V := ⟨_, rfl⟩
  rw [hV]
  rw [rimap_own, ownImap, ← Lib.size_eq] at hV
  by_cases h26 : s.size = 26
  · have hzi : (s.size : Int) = 26 := by omega
    have hd11 := ext_all s 11 26 h26
    cases hf : fitL restF (s.data.toList.drop 11) with
    | false =>
      rw [if_neg (by rw [hf]; simp)] at hV
      have HV := Lib.hid hV
      have HF := Lib.hid (show fitL restF (s.extract 11 26).data.toList = false by rw [hd11, hf])
      have hx : (s.extract 11 26).size ≤ 1099511627776 := by rw [ByteArray.size_extract]; omega
      clear hV hf hd11
      go_enter Tryd.func18, Tryd.ntmps18
      go_wp2_with fail
      refine (cfits_rest (s.extract 11 26) hx w).mono ?_
      rintro e w1 ⟨rfl, hb1⟩
      rw [HF.out]
      go_wp2
      go_ret2
      exact ⟨by rw [← HV.out]; rfl, hb1⟩
    | true =>
      rw [if_pos ⟨h26, hf⟩] at hV
      obtain ⟨hh, i, x, zh, zi, nh, ni, nx, nzh, nzi⟩ := imap_has hf
      obtain ⟨v, ok, hok, ⟨v1, v2⟩, ok1, ok0⟩ := dateV_in (trimL (s.data.toList.take 11))
      obtain ⟨c, kc, hkc, ⟨c1, c2⟩, kc1, kc0⟩ := clkV_parts hh i x
      obtain ⟨z, kz, hkz, ⟨z1, z2⟩, kz1, kz0⟩ := away_in nzh nzi
      have hclk : clockO (s.data.toList.drop 12) = timeO (some hh) (some i) (some x) := by unfold clockO; rw [nh, ni, nx]
      rw [hclk] at hV
      have HV := Lib.hid hV
      have HF := Lib.hid (show fitL restF (s.extract 11 26).data.toList = true by rw [hd11, hf])
      have H12 := Lib.hid (ext_all s 12 26 h26)
      have H21 := Lib.hid (ext_all s 21 26 h26)
      have H011 := Lib.hid (show (s.extract 0 11).data.toList = s.data.toList.take 11 by rw [ext_sub]; rfl)
      have NH := Lib.hid nh
      have NI := Lib.hid ni
      have NX := Lib.hid nx
      have NZH := Lib.hid nzh
      have NZI := Lib.hid nzi
      have HOK := Lib.hid hok
      have HKC := Lib.hid hkc
      have HKZ := Lib.hid hkz
      have OK1 := Lib.hid ok1
      have OK0 := Lib.hid ok0
      have KC1 := Lib.hid kc1
      have KC0 := Lib.hid kc0
      have KZ1 := Lib.hid kz1
      have KZ0 := Lib.hid kz0
      have hx11 : (s.extract 11 26).size = 15 := by rw [ByteArray.size_extract]; omega
      have hx12 : (s.extract 12 26).size = 14 := by rw [ByteArray.size_extract]; omega
      have hx21 : (s.extract 21 26).size = 5 := by rw [ByteArray.size_extract]; omega
      have hx0 : (s.extract 0 11).size = 11 := by rw [ByteArray.size_extract]; omega
      clear hV hf hd11 nh ni nx nzh nzi hok hkc hkz ok1 ok0 kc1 kc0 kz1 kz0 hclk
      go_enter Tryd.func18, Tryd.ntmps18
      go_wp2_with fail
      refine (cfits_rest (s.extract 11 26) (by omega) w).mono ?_
      rintro e w1 ⟨rfl, hb1⟩
      rw [HF.out]
      go_wp2_with fail
      refine (trim_any (s.extract 0 11) _ H011.out (by omega) _).mono ?_
      rintro e wn ⟨T, rfl, hT, HT, rfl⟩
      go_wp2_with fail
      refine (cdate_any T (by omega) _ (hE.next hb1)).mono ?_
      rintro e w2 ⟨rfl, hb2⟩
      rw [HT.out, HOK.out]
      have hb3 := chain hb1 hb2
      clear hb1 hb2
      go_wp2_with fail
      refine (cclk_any (s.extract 12 26) (by omega) (by omega) hh i x (by rw [H12.out]; exact NH.out) (by rw [H12.out]; exact NI.out) (by rw [H12.out]; exact NX.out) _).mono ?_
      rintro e w4 ⟨rfl, hb4⟩
      rw [HKC.out]
      have hb5 := chain hb3 hb4
      clear hb3 hb4
      go_wp2_with fail
      refine (czone_any (s.extract 21 26) (by omega) (by omega) zh zi (by rw [H21.out]; exact NZH.out) (by rw [H21.out]; exact NZI.out) _).mono ?_
      rintro e w6 ⟨rfl, hb6⟩
      rw [H21.out, HKZ.out]
      have hb7 := chain hb5 hb6
      clear hb5 hb6
      cases ok with
      | false =>
        have HR := Lib.hid (show V = .tuple #[.int .i64 0, .int .i64 3] by rw [← HV.out, OK0.out rfl]; rfl)
        go_wp2
        go_ret2
        exact ⟨by rw [HR.out]; rfl, hb7⟩
      | true =>
        cases kc with
        | false =>
          have HR := Lib.hid (show V = .tuple #[.int .i64 0, .int .i64 3] by rw [← HV.out, OK1.out rfl, KC0.out rfl]; rfl)
          go_wp2
          go_ret2
          exact ⟨by rw [HR.out]; rfl, hb7⟩
        | true =>
          cases kz with
          | false =>
            have HR := Lib.hid (show V = .tuple #[.int .i64 0, .int .i64 3] by rw [← HV.out, OK1.out rfl, KC1.out rfl, KZ0.out rfl]; rfl)
            go_wp2
            go_ret2
            exact ⟨by rw [HR.out]; rfl, hb7⟩
          | true =>
            have hR : V = rV (inT (v * 86400 + c - z)) := by rw [← HV.out, OK1.out rfl, KC1.out rfl, KZ1.out rfl]; show rV (inT (v * 86400 + (c.toNat : Int) - z)) = _; rw [show ((c.toNat : Nat) : Int) = c by omega]
            obtain ⟨X, Y, hXY⟩ : ∃ X Y : Int, rV (inT (v * 86400 + c - z)) = .tuple #[.int .i64 X, .int .i64 Y] := ⟨_, _, rV_eq _⟩
            have HR := Lib.hid (hR.trans hXY)
            have HXY := Lib.hid hXY
            clear hR hXY
            go_wp2_with fail
            refine (cwithin_any _ (by omega) (by omega) _).mono ?_
            rintro e w2 ⟨rfl, rfl⟩
            rw [HXY.out]
            go_wp2
            go_ret2
            exact ⟨by rw [HR.out]; rfl, hb7⟩
  · have g26 : (s.size : Int) ≠ 26 := by omega
    rw [if_neg (fun e => h26 e.1)] at hV
    have HV := Lib.hid hV
    clear hV
    go_enter Tryd.func18, Tryd.ntmps18
    go_wp2
    go_ret2
    exact ⟨by rw [← HV.out]; rfl, Below.refl _ _⟩
end Go.Proofs.YtlhoellimldimaaDoor.D6
