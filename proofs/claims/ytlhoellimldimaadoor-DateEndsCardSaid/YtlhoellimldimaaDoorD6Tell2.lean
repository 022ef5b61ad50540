/-
  The document's answer for package date, as the statements have it: a second's two texts. Conditions: none beyond int.
-/
import Derived.Test.YtlhoellimldimaaDoorD6Tell
namespace Go.Proofs.YtlhoellimldimaaDoor.D6
open Go Go.RowKit Go.Joins Kit Dg

theorem rtwo_any {n : Nat} (hn : n < 100) (w : World) :
    Calls Tryd.prog 39 #[.int .i64 n, .int .i64 2] w fun e w' => ∃ T : ByteArray, e = .returned (.string T) ∧ T.size = 2 ∧ Hid (T.data.toList = two n) ∧ Below w.heap.size w w' := by
  refine (rpad_two hn w).mono ?_
  rintro e w' ⟨rfl, hb⟩
  exact ⟨_, rfl, rfl, Lib.hid rfl, hb⟩
theorem rfour_any {n : Nat} (h : 1000 ≤ n) (hn : n < 10000) (w : World) :
    Calls Tryd.prog 39 #[.int .i64 n, .int .i64 4] w fun e w' => ∃ T : ByteArray, e = .returned (.string T) ∧ T.size = 4 ∧ Hid (T.data.toList = four n) ∧ Below w.heap.size w w' := by
  refine (rpad_four h hn w).mono ?_
  rintro e w' ⟨rfl, hb⟩
  exact ⟨_, rfl, rfl, Lib.hid rfl, hb⟩
theorem rmon_any {m : Nat} (h1 : 1 ≤ m) (h2 : m ≤ 12) (w : World) :
    Calls Tryd.prog 38 #[.int .i64 m] w fun e w' => ∃ T : ByteArray, e = .returned (.string T) ∧ T.size = 3 ∧ Hid (T.data.toList = mon3 m) ∧ w = w' := by
  refine (rmonth_any m h1 h2 w).mono ?_
  rintro e w' ⟨rfl, hb⟩
  exact ⟨_, rfl, rfl, Lib.hid rfl, hb⟩
theorem rdig_any {d : Nat} (h2 : d ≤ 31) (w : World) :
    Calls Tryd.prog 26 #[.int .i64 d] w fun e w' => ∃ T : ByteArray, e = .returned (.string T) ∧ T.size ≤ 19 ∧ Hid (T.data.toList = if d < 10 then [dg (d % 10)] else two d) ∧ Below w.heap.size w w' := by
  refine (Rf.digits_call d (by omega) (by omega) w).mono ?_
  rintro e w' ⟨rfl, hb⟩
  refine ⟨_, rfl, digs_short (by omega), Lib.hid ?_, hb⟩
  rw [digs_data]
  split
  · rw [Lib.decDigits_one (by omega), show d % 10 = d by omega]; rfl
  · exact digits_two (by omega) (by omega)
/-- The parts of a second's date, as numbers within their bounds. -/
theorem civ_parts {n : Nat} (h : n ≤ maxT) : ∃ Y M D H I S : Nat, civV n = .tuple #[.int .i64 Y, .int .i64 M, .int .i64 D, .int .i64 H, .int .i64 I, .int .i64 S] ∧ imapL n = imapD Y M D H I S ∧ rfcL n = rfcD Y M D H I S ∧
    1970 ≤ Y ∧ Y ≤ 9999 ∧ 1 ≤ M ∧ M ≤ 12 ∧ 1 ≤ D ∧ D ≤ 31 ∧ H ≤ 23 ∧ I ≤ 59 ∧ S ≤ 59 := by
  obtain ⟨a, b, c, d⟩ := date_valid n
  have hd := dim_le (yr n) (mo n)
  have ht := time_lt n
  exact ⟨yr n, mo n, dy n, ho n, mi n, se n, rfl, rfl, rfl, (yr_in h).1, (yr_in h).2, a, b, c, by omega, ht.1, ht.2.1, ht.2.2⟩

theorem imap_join {Y M D H I S : Nat} {T0 TM TY TH TI TS : ByteArray} (h0 : T0.data.toList = [day1 D, dg (D % 10)]) (hm : TM.data.toList = mon3 M) (hy : TY.data.toList = four Y) (hh : TH.data.toList = two H) (hi : TI.data.toList = two I) (hs : TS.data.toList = two S) :
    (T0 ++ ⟨#[45]⟩ ++ TM ++ ⟨#[45]⟩ ++ TY ++ ⟨#[32]⟩ ++ TH ++ ⟨#[58]⟩ ++ TI ++ ⟨#[58]⟩ ++ TS ++ ⟨#[32, 43, 48, 48, 48, 48]⟩ : ByteArray).data.toList = imapD Y M D H I S := by
  simp only [Joins.data_append, h0, hm, hy, hh, hi, hs]
  rfl
theorem rfc_join {Y M D H I S : Nat} {TY TM TD TH TI TS : ByteArray} (hd : TD.data.toList = two D) (hm : TM.data.toList = two M) (hy : TY.data.toList = four Y) (hh : TH.data.toList = two H) (hi : TI.data.toList = two I) (hs : TS.data.toList = two S) :
    (TY ++ ⟨#[45]⟩ ++ TM ++ ⟨#[45]⟩ ++ TD ++ ⟨#[84]⟩ ++ TH ++ ⟨#[58]⟩ ++ TI ++ ⟨#[58]⟩ ++ TS ++ ⟨#[90]⟩ : ByteArray).data.toList = rfcD Y M D H I S := by
  simp only [Joins.data_append, hd, hm, hy, hh, hi, hs]
  rfl
set_option maxHeartbeats 1000000 in
set_option maxRecDepth 100000 in
theorem rimap_tells (x : Int) (h0 : -9223372036854775808 ≤ x) (h1 : x ≤ 9223372036854775807) (w : World) :
    Calls Tryd.prog 14 #[.int .i64 x] w fun e w' => e = .returned (.string ⟨(imapL (clamp x)).toArray⟩) ∧ Below w.heap.size w w' := by
  obtain ⟨Y, M, D, H, I, S, hc, hi, _, y1, y2, m1, m2, d1, d2, t1, t2, t3⟩ := civ_parts (clamp_le x)
  rw [hi]
  have hcall := rcivil_any x h0 h1 w
  rw [hc] at hcall
  clear hc hi
  go_enter Tryd.func14, Tryd.ntmps14
  go_wp2_with fail
  refine hcall.mono ?_
  rintro e w1 ⟨rfl, rfl⟩
  clear hcall
  go_wp2_with fail
  refine (rdig_any d2 w).mono ?_
  rintro e w1 ⟨TD, rfl, sD, HD, b1⟩
  have hday : ∃ T : ByteArray, T.size ≤ 20 ∧ (if (D : Int) < 10 then (⟨#[32]⟩ ++ TD : ByteArray) else TD) = T ∧ Hid (T.data.toList = [day1 D, dg (D % 10)]) := by
    by_cases hd : D < 10
    · refine ⟨⟨#[32]⟩ ++ TD, ?_, by rw [if_pos (by omega)], Lib.hid ?_⟩
      · rw [ByteArray.size_append]; show 1 + TD.size ≤ 20; omega
      · rw [Joins.data_append, HD.out, if_pos hd, day1, if_pos hd]; rfl
    · refine ⟨TD, by omega, by rw [if_neg (by omega)], Lib.hid ?_⟩
      rw [HD.out, if_neg hd, day1, if_neg hd]; rfl
  obtain ⟨T0, s0, hT0, HT0⟩ := hday
  by_cases hd : (D : Int) < 10
  · rw [if_pos hd] at hT0
    have HT := Lib.hid hT0
    clear hT0
    go_wp2_with fail
    refine (rmon_any m1 m2 w1).mono ?_
    rintro e w2 ⟨TM, rfl, sM, HM, rfl⟩
    go_wp2_with fail
    refine (rfour_any (by omega) (by omega) w1).mono ?_
    rintro e w3 ⟨TY, rfl, sY, HY, b3⟩
    go_wp2_with fail
    refine (rtwo_any (by omega) w3).mono ?_
    rintro e w4 ⟨TH, rfl, sH, HH, b4⟩
    go_wp2_with fail
    refine (rtwo_any (by omega) w4).mono ?_
    rintro e w5 ⟨TI, rfl, sI, HI, b5⟩
    go_wp2_with fail
    refine (rtwo_any (by omega) w5).mono ?_
    rintro e w6 ⟨TS, rfl, sS, HS, b6⟩
    go_wp2
    go_ret
    refine ⟨ret_bytes ?_, chain (chain (chain (chain b1 b3) b4) b5) b6⟩
    rw [HT.out]
    exact imap_join HT0.out HM.out HY.out HH.out HI.out HS.out
  · rw [if_neg hd] at hT0
    subst hT0
    go_wp2_with fail
    refine (rmon_any m1 m2 w1).mono ?_
    rintro e w2 ⟨TM, rfl, sM, HM, rfl⟩
    go_wp2_with fail
    refine (rfour_any (by omega) (by omega) w1).mono ?_
    rintro e w3 ⟨TY, rfl, sY, HY, b3⟩
    go_wp2_with fail
    refine (rtwo_any (by omega) w3).mono ?_
    rintro e w4 ⟨TH, rfl, sH, HH, b4⟩
    go_wp2_with fail
    refine (rtwo_any (by omega) w4).mono ?_
    rintro e w5 ⟨TI, rfl, sI, HI, b5⟩
    go_wp2_with fail
    refine (rtwo_any (by omega) w5).mono ?_
    rintro e w6 ⟨TS, rfl, sS, HS, b6⟩
    go_wp2
    go_ret
    refine ⟨ret_bytes ?_, chain (chain (chain (chain b1 b3) b4) b5) b6⟩
    exact imap_join HT0.out HM.out HY.out HH.out HI.out HS.out

set_option maxHeartbeats 1000000 in
set_option maxRecDepth 100000 in
theorem rrfc_tells (x : Int) (h0 : -9223372036854775808 ≤ x) (h1 : x ≤ 9223372036854775807) (w : World) :
    Calls Tryd.prog 16 #[.int .i64 x] w fun e w' => e = .returned (.string ⟨(rfcL (clamp x)).toArray⟩) ∧ Below w.heap.size w w' := by
  obtain ⟨Y, M, D, H, I, S, hc, _, hi, y1, y2, m1, m2, d1, d2, t1, t2, t3⟩ := civ_parts (clamp_le x)
  rw [hi]
  have hcall := rcivil_any x h0 h1 w
  rw [hc] at hcall
  clear hc hi
  go_enter Tryd.func16, Tryd.ntmps16
  go_wp2_with fail
  refine hcall.mono ?_
  rintro e w1 ⟨rfl, rfl⟩
  clear hcall
  go_wp2_with fail
  refine (rfour_any (by omega) (by omega) w).mono ?_
  rintro e w1 ⟨TY, rfl, sY, HY, b1⟩
  go_wp2_with fail
  refine (rtwo_any (by omega) w1).mono ?_
  rintro e w2 ⟨TM, rfl, sM, HM, b2⟩
  go_wp2_with fail
  refine (rtwo_any (by omega) w2).mono ?_
  rintro e w3 ⟨TD, rfl, sD, HD, b3⟩
  go_wp2_with fail
  refine (rtwo_any (by omega) w3).mono ?_
  rintro e w4 ⟨TH, rfl, sH, HH, b4⟩
  go_wp2_with fail
  refine (rtwo_any (by omega) w4).mono ?_
  rintro e w5 ⟨TI, rfl, sI, HI, b5⟩
  go_wp2_with fail
  refine (rtwo_any (by omega) w5).mono ?_
  rintro e w6 ⟨TS, rfl, sS, HS, b6⟩
  go_wp2
  go_ret
  refine ⟨ret_bytes ?_, chain (chain (chain (chain (chain b1 b2) b3) b4) b5) b6⟩
  exact rfc_join HD.out HM.out HY.out HH.out HI.out HS.out
end Go.Proofs.YtlhoellimldimaaDoor.D6
