/-
  Package date's readers: a month by its letters, a day's text, a second's texts in both forms. Conditions: the tables as the program's text lays them (Env); the texts have at most 2^20 bytes.
-/
import Derived.Test.YtlhoellimldimaaDoorD6Put
import Derived.Test.YtlhoellimldimaaDoorD6Fit
import Derived.Test.YtlhoellimldimaaDoorD6Rfc
namespace Go.Proofs.YtlhoellimldimaaDoor.D6
open Go Go.RowKit Go.Joins Kit

set_option maxHeartbeats 400000 in
set_option maxRecDepth 100000 in
theorem cmonth_any (s : ByteArray) (hs : s.size ≤ 1000) (w : World) :
    Calls Tryd.prog 60 #[.string s] w fun e w' => e = .returned (.int .i64 (whichN s.data.toList : Nat)) ∧ Below w.heap.size w w' := by
  obtain ⟨W, hW⟩ : ∃ W, whichN s.data.toList = W := ⟨_, rfl⟩
  rw [hW]
  have HW := Lib.hid (show whichF 12 1 s.data.toList = W from hW)
  clear hW
  go_enter Tryd.func60, Tryd.ntmps60
  go_wp2_with fail
  go_loopw [3] (fun i wr => ∃ (m f : Nat), 1 ≤ m ∧ m + f = 13 ∧ i = .int .i64 m ∧ Hid (whichF f m s.data.toList = W) ∧ Below w.heap.size w wr) (fun i _ => 13 - (intOf i).toNat)
  case atStart => exact ⟨1, 12, Nat.le_refl _, rfl, rfl, HW, Below.refl _ _⟩
  case round =>
    obtain ⟨m, f, hm, hf, rfl, HF, hb⟩ := hrel
    by_cases hle : m ≤ 12
    · have g1 : (m : Int) ≤ 12 := by omega
      obtain ⟨f', rfl⟩ : ∃ f', f = f' + 1 := ⟨f - 1, by omega⟩
      go_wp2_with fail
      refine (cmon_any hm hle wr).mono ?_
      rintro e w2 ⟨T, rfl, sT, HT, rfl⟩
      go_wp2_with fail
      refine (Tx.fold_any T wr (by omega)).mono ?_
      rintro e w1 ⟨rfl, hb1⟩
      obtain ⟨F2, hF2⟩ : ∃ F, (⟨(Tx.foldL T.data.toList).toArray⟩ : ByteArray) = F := ⟨_, rfl⟩
      have e2 : F2.data.toList = Tx.foldL (mon3 m) := by rw [← hF2, ← HT.out]
      rw [hF2]
      clear hF2
      go_wp2_with fail
      refine (Tx.fold_any s w1 (by omega)).mono ?_
      rintro e w3 ⟨rfl, hb3⟩
      have hbb := hb.trans ((chain hb1 hb3).mono hb.size)
      clear hb1 hb3
      obtain ⟨F1, hF1⟩ : ∃ F, (⟨(Tx.foldL s.data.toList).toArray⟩ : ByteArray) = F := ⟨_, rfl⟩
      have e1 : F1.data.toList = Tx.foldL s.data.toList := by rw [← hF1]
      rw [hF1]
      clear hF1
      by_cases he : F1 = F2
      · have HM := Lib.hid (show W = m by
          have := HF.out
          unfold whichF at this
          rw [if_pos (by rw [← e1, ← e2, he])] at this
          exact this.symm)
        clear e1 e2
        subst he
        go_wp2
        go_ret
        exact ⟨by rw [HM.out]; rfl, hbb⟩
      · have hne : (F2.toList == F1.toList) = false := by
          have hd' : F2.data.toList ≠ F1.data.toList := fun e => he (Kit.bytes_ext e.symm)
          rw [Lib.toList_data, Lib.toList_data]
          simpa using hd'
        have HM := Lib.hid (show whichF f' (m + 1) s.data.toList = W by
          have := HF.out
          unfold whichF at this
          rw [if_neg (by rw [← e1, ← e2]; exact fun e => he (Kit.bytes_ext e))] at this
          exact this)
        clear e1 e2 he
        go_wp2
        go_roundw
        case rel => exact ⟨m + 1, f', by omega, by omega, by go_num, HM, hbb⟩
        case measure => simp [intOf]; omega
    · have g1 : ¬ (m : Int) ≤ 12 := by omega
      have hf0 : f = 0 := by omega
      subst hf0
      have HM := Lib.hid (show W = 0 from HF.out.symm)
      go_wp2
      go_ret
      exact ⟨by rw [HM.out]; rfl, hb⟩

/-! ### A day's text -/
/-- A text that fits as a day: what is cut at its first dash. -/
theorem date_fits {l : List UInt8} (h : fitL shortF l = true ∨ (fitL shortF l = false ∧ fitL longF l = true)) :
    ∃ (p q : List UInt8) (y d : Nat), l = p ++ 45 :: q ∧ (∀ c ∈ p, c ≠ 45) ∧ numD p = some d ∧ q.length = 8 ∧ p.length ≤ 2 ∧ numD (sub q 4 4) = some y ∧ dateO l = daysO (some y) (whichN (sub q 0 3)) (some d) := by
  have nd : ∀ {c : UInt8}, Tx.isDig c = true → c ≠ 45 := by
    intro c hc e
    rw [e] at hc
    revert hc
    decide
  rcases h with h | ⟨h1, h⟩
  · obtain ⟨a, b, c, d, e, f, g, i, rfl, ha, he, hf, hg, hi⟩ := fit_short h
    refine ⟨[a], [b, c, d, 45, e, f, g, i], _, _, rfl, ?_, numD1 ha, rfl, by simp, numD4 he hf hg hi, ?_⟩
    · intro x hx
      rw [List.mem_singleton] at hx
      rw [hx]
      exact nd ha
    · unfold dateO
      rw [if_pos h, show sub [a, 45, b, c, d, 45, e, f, g, i] 6 4 = [e, f, g, i] from rfl, show sub [a, 45, b, c, d, 45, e, f, g, i] 0 1 = [a] from rfl, numD4 he hf hg hi, numD1 ha]
      rfl
  · obtain ⟨a, a', b, c, d, e, f, g, i, rfl, ha, ha', he, hf, hg, hi⟩ := fit_long h
    refine ⟨[a, a'], [b, c, d, 45, e, f, g, i], _, _, rfl, ?_, numD2 ha ha', rfl, by simp, numD4 he hf hg hi, ?_⟩
    · intro x hx
      rcases List.mem_cons.1 hx with rfl | hx
      · exact nd ha
      · rw [List.mem_singleton] at hx
        rw [hx]
        exact nd ha'
    · unfold dateO
      rw [h1, if_neg (by decide), if_pos h, show sub [a, a', 45, b, c, d, 45, e, f, g, i] 7 4 = [e, f, g, i] from rfl, show sub [a, a', 45, b, c, d, 45, e, f, g, i] 0 2 = [a, a'] from rfl, numD4 he hf hg hi, numD2 ha ha']
      rfl
theorem date_not {l : List UInt8} (h1 : fitL shortF l = false) (h2 : fitL longF l = false) : dateO l = none := by
  unfold dateO
  rw [h1, h2]
  rfl
theorem cut_one {x : UInt8} : ∀ {a r p q : List UInt8}, a ++ x :: r = p ++ x :: q → (∀ c ∈ a, c ≠ x) → (∀ c ∈ p, c ≠ x) → a = p ∧ r = q
  | [], r, [], q, h, _, _ => by simpa using h
  | [], r, c :: p, q, h, _, hp => by
    simp only [List.nil_append, List.cons_append, List.cons.injEq] at h
    exact absurd h.1.symm (hp c (by simp))
  | b :: a, r, [], q, h, ha, _ => by
    simp only [List.nil_append, List.cons_append, List.cons.injEq] at h
    exact absurd h.1 (ha b (by simp))
  | b :: a, r, c :: p, q, h, ha, hp => by
    simp only [List.cons_append, List.cons.injEq] at h
    obtain ⟨h1, h2⟩ := h
    obtain ⟨e1, e2⟩ := cut_one h2 (fun z hz => ha z (List.mem_cons_of_mem _ hz)) (fun z hz => hp z (List.mem_cons_of_mem _ hz))
    exact ⟨by rw [h1, e1], e2⟩
/-- strings.Cut at a dash that is there. -/
theorem cut_at {s : ByteArray} {p q : List UInt8} (h : s.data.toList = p ++ 45 :: q) (hp : ∀ c ∈ p, c ≠ 45) (w : World) (hs : s.size ≤ 1048576) (hE : Env w) :
    Calls Tryd.prog 59 #[.string s, .string ⟨#[45]⟩] w fun e w' => ∃ a r : ByteArray, e = .returned (.tuple #[.string a, .string r, .bool true]) ∧ Hid (a.data.toList = p) ∧ Hid (r.data.toList = q) ∧ Below w.heap.size w w' := by
  refine (Srch.cut_any 45 s w (by omega) hE.srch).mono ?_
  rintro e w' ⟨hc, hb, _⟩
  rcases hc with ⟨rfl, hno⟩ | ⟨a, r, hd, ha, rfl⟩
  · exact absurd rfl (hno 45 (by rw [h]; simp))
  · obtain ⟨e1, e2⟩ := cut_one (hd.symm.trans h) ha hp
    exact ⟨a, r, rfl, Lib.hid e1, Lib.hid e2, hb⟩
theorem okV_parts (o : Option Int) : ∃ (v : Int) (ok : Bool), okV o = .tuple #[.int .i64 v, .bool ok] ∧ (ok = true → o = some v) ∧ (ok = false → o = none) := by
  cases o with
  | none => exact ⟨0, false, rfl, (fun e => by cases e), fun _ => rfl⟩
  | some t => exact ⟨t, true, rfl, fun _ => rfl, fun e => by cases e⟩
theorem cfits_short (s : ByteArray) (hs : s.size ≤ 1099511627776) (w : World) :
    Calls Tryd.prog 40 #[.string s, .string ⟨#[48, 45, 97, 97, 97, 45, 48, 48, 48, 48]⟩] w fun e w' => e = .returned (.bool (fitL shortF s.data.toList)) ∧ Below w.heap.size w w' := cfits_any s _ hs w
theorem cfits_long (s : ByteArray) (hs : s.size ≤ 1099511627776) (w : World) :
    Calls Tryd.prog 40 #[.string s, .string ⟨#[48, 48, 45, 97, 97, 97, 45, 48, 48, 48, 48]⟩] w fun e w' => e = .returned (.bool (fitL longF s.data.toList)) ∧ Below w.heap.size w w' := cfits_any s _ hs w
theorem cfits_rest (s : ByteArray) (hs : s.size ≤ 1099511627776) (w : World) :
    Calls Tryd.prog 40 #[.string s, .string ⟨#[32, 48, 48, 58, 48, 48, 58, 48, 48, 32, 97, 48, 48, 48, 48]⟩] w fun e w' => e = .returned (.bool (fitL restF s.data.toList)) ∧ Below w.heap.size w w' := cfits_any s _ hs w
theorem cfits_rfc (s : ByteArray) (hs : s.size ≤ 1099511627776) (w : World) :
    Calls Tryd.prog 40 #[.string s, .string ⟨#[48, 48, 48, 48, 45, 48, 48, 45, 48, 48, 84, 48, 48, 58, 48, 48, 58, 48, 48, 90]⟩] w fun e w' => e = .returned (.bool (fitL rfcF s.data.toList)) ∧ Below w.heap.size w w' := cfits_any s _ hs w
theorem cmonth_at (s : ByteArray) (l : List UInt8) (h : s.data.toList = l) (hs : s.size ≤ 1000) (w : World) :
    Calls Tryd.prog 60 #[.string s] w fun e w' => e = .returned (.int .i64 (whichN l : Nat)) ∧ Below w.heap.size w w' := by
  subst h
  exact cmonth_any s hs w

set_option maxHeartbeats 2000000 in
set_option maxRecDepth 100000 in
theorem cdate_any (s : ByteArray) (hs : s.size ≤ 1048576) (w : World) (hE : Env w) :
    Calls Tryd.prog 41 #[.string s] w fun e w' => e = .returned (okV (dateO s.data.toList)) ∧ Below w.heap.size w w' := by
  cases h0 : fitL shortF s.data.toList with
  | true =>
    have HSL : fitL shortF s.data.toList = true ∨ (fitL shortF s.data.toList = false ∧ fitL longF s.data.toList = true) := Or.inl h0
    obtain ⟨p, q, y, d, hpq, hp, hd, hq, hpl, hy, hdate⟩ := date_fits HSL
    rw [hdate]
    obtain ⟨v, ok, hok, _, _⟩ := okV_parts (daysO (some y) (whichN (sub q 0 3)) (some d))
    rw [hok]
    have HOK := Lib.hid hok
    have HPQ := Lib.hid hpq
    have HP := Lib.hid hp
    have HD := Lib.hid hd
    have HY := Lib.hid hy
    have HQ := Lib.hid hq
    have HPL := Lib.hid hpl
    clear hok hpq hp hd hy hq hpl hdate
    go_enter Tryd.func41, Tryd.ntmps41
    go_wp2_with fail
    refine (cfits_short s (by omega) w).mono ?_
    rintro e w1 ⟨rfl, hb1⟩
    rw [h0]
    go_wp2_with fail
    refine (cut_at HPQ.out HP.out w1 hs (hE.next hb1)).mono ?_
    rintro e w2 ⟨a, r, rfl, HA, HR, hb2⟩
    replace hb2 := chain hb1 hb2
    clear hb1
    have hr8 : r.size = 8 := by rw [Lib.size_eq, HR.out, HQ.out]
    have hr4 : 4 ≤ (r.size : Int) := by omega
    have hr3 : 3 ≤ (r.size : Int) := by omega
    have ha4 : a.size ≤ 4 := by rw [Lib.size_eq, HA.out]; have := HPL.out; omega
    clear hr8
    go_wp2_with fail
    refine wp_region_any (by kernel_rfl) ?_
    try (change wpAny _ _ _ _ _ _ _ (World.drew _))
    refine wpAny_take (i := 0) (v := ?_) rfl (by kernel_rfl) (by kernel_rfl) (by kernel_rfl) (fun _ _ _ h => h) (Or.inl ⟨by rfl, ?_⟩) ?_
    rotate_left 1
    · (intro w; go_simp) <;> with_reducible rfl
    refine wpAny_take (i := 1) (v := ?_) rfl (by kernel_rfl) (by kernel_rfl) (by kernel_rfl) (fun _ _ _ h => h) (Or.inl ⟨by rfl, ?_⟩) ?_
    rotate_left 1
    · (intro w; go_simp) <;> with_reducible rfl
    refine wpAny_take (i := 3) (v := ?_) rfl (by kernel_rfl) (by kernel_rfl) (by kernel_rfl) (fun _ _ _ h => h) (Or.inl ⟨by rfl, ?_⟩) ?_
    rotate_left 1
    · (intro w; go_simp) <;> with_reducible rfl
    refine wpAny_take (i := 4) (v := ?_) rfl (by kernel_rfl) (by kernel_rfl) (by kernel_rfl) (fun _ _ _ h => h) (Or.inl ⟨by rfl, ?_⟩) ?_
    rotate_left 1
    · (intro w; go_simp) <;> with_reducible rfl
    refine wpAny_take (i := 6) (v := ?_) rfl (by kernel_rfl) (by kernel_rfl) (by kernel_rfl) (fun _ _ _ h => h) (Or.inl ⟨by rfl, ?_⟩) ?_
    rotate_left 1
    · (intro w; go_simp) <;> with_reducible rfl
    refine wpAny_ready (rs := [2]) (by kernel_rfl) (by simp) ?_
    refine AllReady.cons rfl (fun K hK => ?_) AllReady.nil
    go_simp
    go_wp2_with fail
    refine (cnum_any (r.extract 4 r.size) y (by rw [ext_sub]; have := HY.out; rw [← HR.out] at this; rw [show r.size - 4 = 4 by have := HQ.out; rw [← HR.out, ← Lib.size_eq] at this; omega]; exact this) (ext_le r 4 r.size 4 (by have := HQ.out; rw [← HR.out, ← Lib.size_eq] at this; omega)) _).mono ?_
    rintro e wn ⟨rfl, rfl⟩
    go_wp2_with fail
    refine wpAny_ready (rs := [5]) (by kernel_rfl) (by simp) ?_
    refine AllReady.cons rfl (fun K hK => ?_) AllReady.nil
    go_simp
    go_wp2_with fail
    refine (cmonth_at (r.extract 0 3) (sub q 0 3) (by rw [ext_sub, HR.out]) (by have := ext_le r 0 3 3 (by omega); omega) _).mono ?_
    rintro e w3 ⟨rfl, hb3⟩
    go_wp2_with fail
    refine wpAny_ready (rs := [7]) (by kernel_rfl) (by simp) ?_
    refine AllReady.cons rfl (fun K hK => ?_) AllReady.nil
    go_simp
    go_wp2_with fail
    refine (cnum_any a d (by rw [HA.out]; exact HD.out) ha4 _).mono ?_
    rintro e wn ⟨rfl, rfl⟩
    go_wp2_with fail
    refine wpAny_ready (rs := [8]) (by kernel_rfl) (by simp) ?_
    refine AllReady.cons rfl (fun K hK => ?_) AllReady.nil
    go_simp
    go_wp2_with fail
    have hb4 := hb2.drew.trans (hb3.mono (by have := hb2.drew.size; exact this))
    refine (cdayof_any y (whichN (sub q 0 3)) d (by have := num_le4 (sub_le q 4 4) HY.out; omega) (by have := which_le (sub q 0 3); omega) (by have := num_le HD.out HPL.out; omega) _ (hE.next hb4)).mono ?_
    rintro e wn ⟨rfl, rfl⟩
    rw [HOK.out]
    go_wp2_with fail
    refine wpAny_take (i := 9) (v := ?_) rfl (by kernel_rfl) (by kernel_rfl) (by kernel_rfl) (fun _ _ _ h => h) (Or.inl ⟨by rfl, ?_⟩) ?_
    rotate_left 1
    · (intro w; go_simp) <;> with_reducible rfl
    refine wpAny_take (i := 10) (v := ?_) rfl (by kernel_rfl) (by kernel_rfl) (by kernel_rfl) (fun _ _ _ h => h) (Or.inl ⟨by rfl, ?_⟩) ?_
    rotate_left 1
    · (intro w; go_simp) <;> with_reducible rfl
    refine wpAny_take (i := 11) (v := ?_) rfl (by kernel_rfl) (by kernel_rfl) (by kernel_rfl) (fun _ _ _ h => h) (Or.inl ⟨by rfl, ?_⟩) ?_
    rotate_left 1
    · (intro w; go_simp) <;> with_reducible rfl
    refine wpAny_take (i := 12) (v := ?_) rfl (by kernel_rfl) (by kernel_rfl) (by kernel_rfl) (fun _ _ _ h => h) (Or.inl ⟨by rfl, ?_⟩) ?_
    rotate_left 1
    · (intro w; go_simp) <;> with_reducible rfl
    refine wpAny_done (by kernel_rfl) ?_ _
    go_wp2
    go_ret2
    exact ⟨rfl, hb4⟩
  | false =>
    have h1 := h0
    clear h0
    cases h2 : fitL longF s.data.toList with
    | true =>
      have HSL : fitL shortF s.data.toList = true ∨ (fitL shortF s.data.toList = false ∧ fitL longF s.data.toList = true) := Or.inr ⟨h1, h2⟩
      obtain ⟨p, q, y, d, hpq, hp, hd, hq, hpl, hy, hdate⟩ := date_fits HSL
      rw [hdate]
      obtain ⟨v, ok, hok, _, _⟩ := okV_parts (daysO (some y) (whichN (sub q 0 3)) (some d))
      rw [hok]
      have HOK := Lib.hid hok
      have HPQ := Lib.hid hpq
      have HP := Lib.hid hp
      have HD := Lib.hid hd
      have HY := Lib.hid hy
      have HQ := Lib.hid hq
      have HPL := Lib.hid hpl
      clear hok hpq hp hd hy hq hpl hdate
      go_enter Tryd.func41, Tryd.ntmps41
      go_wp2_with fail
      refine (cfits_short s (by omega) w).mono ?_
      rintro e w1 ⟨rfl, hb1⟩
      rw [h1]
      go_wp2_with fail
      refine (cfits_long s (by omega) w1).mono ?_
      rintro e w1' ⟨rfl, hb1'⟩
      rw [h2]
      replace hb1 := chain hb1 hb1'
      clear hb1'
      go_wp2_with fail
      refine (cut_at HPQ.out HP.out w1' hs (hE.next hb1)).mono ?_
      rintro e w2 ⟨a, r, rfl, HA, HR, hb2⟩
      replace hb2 := chain hb1 hb2
      clear hb1
      have hr8 : r.size = 8 := by rw [Lib.size_eq, HR.out, HQ.out]
      have hr4 : 4 ≤ (r.size : Int) := by omega
      have hr3 : 3 ≤ (r.size : Int) := by omega
      have ha4 : a.size ≤ 4 := by rw [Lib.size_eq, HA.out]; have := HPL.out; omega
      clear hr8
      go_wp2_with fail
      refine wp_region_any (by kernel_rfl) ?_
      try (change wpAny _ _ _ _ _ _ _ (World.drew _))
      refine wpAny_take (i := 0) (v := ?_) rfl (by kernel_rfl) (by kernel_rfl) (by kernel_rfl) (fun _ _ _ h => h) (Or.inl ⟨by rfl, ?_⟩) ?_
      rotate_left 1
      · (intro w; go_simp) <;> with_reducible rfl
      refine wpAny_take (i := 1) (v := ?_) rfl (by kernel_rfl) (by kernel_rfl) (by kernel_rfl) (fun _ _ _ h => h) (Or.inl ⟨by rfl, ?_⟩) ?_
      rotate_left 1
      · (intro w; go_simp) <;> with_reducible rfl
      refine wpAny_take (i := 3) (v := ?_) rfl (by kernel_rfl) (by kernel_rfl) (by kernel_rfl) (fun _ _ _ h => h) (Or.inl ⟨by rfl, ?_⟩) ?_
      rotate_left 1
      · (intro w; go_simp) <;> with_reducible rfl
      refine wpAny_take (i := 4) (v := ?_) rfl (by kernel_rfl) (by kernel_rfl) (by kernel_rfl) (fun _ _ _ h => h) (Or.inl ⟨by rfl, ?_⟩) ?_
      rotate_left 1
      · (intro w; go_simp) <;> with_reducible rfl
      refine wpAny_take (i := 6) (v := ?_) rfl (by kernel_rfl) (by kernel_rfl) (by kernel_rfl) (fun _ _ _ h => h) (Or.inl ⟨by rfl, ?_⟩) ?_
      rotate_left 1
      · (intro w; go_simp) <;> with_reducible rfl
      refine wpAny_ready (rs := [2]) (by kernel_rfl) (by simp) ?_
      refine AllReady.cons rfl (fun K hK => ?_) AllReady.nil
      go_simp
      go_wp2_with fail
      refine (cnum_any (r.extract 4 r.size) y (by rw [ext_sub]; have := HY.out; rw [← HR.out] at this; rw [show r.size - 4 = 4 by have := HQ.out; rw [← HR.out, ← Lib.size_eq] at this; omega]; exact this) (ext_le r 4 r.size 4 (by have := HQ.out; rw [← HR.out, ← Lib.size_eq] at this; omega)) _).mono ?_
      rintro e wn ⟨rfl, rfl⟩
      go_wp2_with fail
      refine wpAny_ready (rs := [5]) (by kernel_rfl) (by simp) ?_
      refine AllReady.cons rfl (fun K hK => ?_) AllReady.nil
      go_simp
      go_wp2_with fail
      refine (cmonth_at (r.extract 0 3) (sub q 0 3) (by rw [ext_sub, HR.out]) (by have := ext_le r 0 3 3 (by omega); omega) _).mono ?_
      rintro e w3 ⟨rfl, hb3⟩
      go_wp2_with fail
      refine wpAny_ready (rs := [7]) (by kernel_rfl) (by simp) ?_
      refine AllReady.cons rfl (fun K hK => ?_) AllReady.nil
      go_simp
      go_wp2_with fail
      refine (cnum_any a d (by rw [HA.out]; exact HD.out) ha4 _).mono ?_
      rintro e wn ⟨rfl, rfl⟩
      go_wp2_with fail
      refine wpAny_ready (rs := [8]) (by kernel_rfl) (by simp) ?_
      refine AllReady.cons rfl (fun K hK => ?_) AllReady.nil
      go_simp
      go_wp2_with fail
      have hb4 := hb2.drew.trans (hb3.mono (by have := hb2.drew.size; exact this))
      refine (cdayof_any y (whichN (sub q 0 3)) d (by have := num_le4 (sub_le q 4 4) HY.out; omega) (by have := which_le (sub q 0 3); omega) (by have := num_le HD.out HPL.out; omega) _ (hE.next hb4)).mono ?_
      rintro e wn ⟨rfl, rfl⟩
      rw [HOK.out]
      go_wp2_with fail
      refine wpAny_take (i := 9) (v := ?_) rfl (by kernel_rfl) (by kernel_rfl) (by kernel_rfl) (fun _ _ _ h => h) (Or.inl ⟨by rfl, ?_⟩) ?_
      rotate_left 1
      · (intro w; go_simp) <;> with_reducible rfl
      refine wpAny_take (i := 10) (v := ?_) rfl (by kernel_rfl) (by kernel_rfl) (by kernel_rfl) (fun _ _ _ h => h) (Or.inl ⟨by rfl, ?_⟩) ?_
      rotate_left 1
      · (intro w; go_simp) <;> with_reducible rfl
      refine wpAny_take (i := 11) (v := ?_) rfl (by kernel_rfl) (by kernel_rfl) (by kernel_rfl) (fun _ _ _ h => h) (Or.inl ⟨by rfl, ?_⟩) ?_
      rotate_left 1
      · (intro w; go_simp) <;> with_reducible rfl
      refine wpAny_take (i := 12) (v := ?_) rfl (by kernel_rfl) (by kernel_rfl) (by kernel_rfl) (fun _ _ _ h => h) (Or.inl ⟨by rfl, ?_⟩) ?_
      rotate_left 1
      · (intro w; go_simp) <;> with_reducible rfl
      refine wpAny_done (by kernel_rfl) ?_ _
      go_wp2
      go_ret2
      exact ⟨rfl, hb4⟩
    | false =>
      have HF := Lib.hid (date_not h1 h2)
      go_enter Tryd.func41, Tryd.ntmps41
      go_wp2_with fail
      refine (cfits_short s (by omega) w).mono ?_
      rintro e w1 ⟨rfl, hb1⟩
      rw [h1]
      go_wp2_with fail
      refine (cfits_long s (by omega) w1).mono ?_
      rintro e w1' ⟨rfl, hb1'⟩
      rw [h2]
      go_wp2
      go_ret2
      exact ⟨by rw [HF.out]; rfl, chain hb1 hb1'⟩
end Go.Proofs.YtlhoellimldimaaDoor.D6
