/-
  The law LogFloors: a log of few entries forgets the oldest; what is asked from below its floor is refused, from it on it is not. Conditions: none.
-/
import Derived.Test.YtojjlbhodiphdaaLgAwake
import Derived.Test.YtojjlbhodiphdaaLgAll
import Derived.Test.YtojjlbhodiphdaaLgFloP
namespace Go.Proofs.Ytojjlbhodiphdaa.Lg
open Go Go.RowKit Go.Joins

set_option maxHeartbeats 8000000 in
set_option maxRecDepth 100000 in
theorem logFloors_walk (a b : Int) (a0 : 0 ≤ a) (a1 : a ≤ 255) (b0 : 0 ≤ b) (b1 : b ≤ 255) (w : World) :
    Calls Try.prog 5 #[.int .u8 a, .int .u8 b] w fun e w' => e = .returned (.bool true) ∧ Below w.heap.size w w' := by
  obtain ⟨n, rfl⟩ : ∃ n : Nat, a = (n : Int) := ⟨a.toNat, by omega⟩
  obtain ⟨c, rfl⟩ : ∃ c : Nat, b = (c : Int) := ⟨b.toNat, by omega⟩
  obtain ⟨m, hm⟩ : ∃ m : Nat, 1 + (c : Int) % 20 = (m : Int) := ⟨1 + c % 20, by omega⟩
  have hm1 : 1 ≤ m ∧ m ≤ 20 := by omega
  have hn1 : n ≤ 255 := by omega
  have HNEW := Lib.hid (new_any m w (by omega))
  have HADD := Lib.hid (fun lb v w1 (i : Nat) (hL : LogAt w.heap.size lb v m (stF m i).1 (stF m i).2 w1) (ev : Value) (w2 : World) (hb : Below w1.heap.size w1 w2) (he : SAt w2 ev 4 [(⟨(i : Int) + 1, 2, (i : Int) + 1, 1⟩ : En)].length (esC [⟨(i : Int) + 1, 2, (i : Int) + 1, 1⟩])) (hap : ∀ g, v.ownBlock = some g → ev.ownBlock ≠ some g) (hne : ev.ownBlock ≠ some lb) =>
    add_any w.heap.size lb v m (stF m i).1 (stF m i).2 [⟨(i : Int) + 1, 2, (i : Int) + 1, 1⟩] ev w2 (hL.below hb) he hap hne (by omega) (by omega) (by rw [stF_len]; omega) (by show 1 ≤ 1000000; omega))
  have HSIN := Lib.hid (fun lb v w1 (i : Int) (hL : LogAt w.heap.size lb v m (stF m n).1 (stF m n).2 w1) => since_any w.heap.size lb v m (stF m n).1 2 i n 0 (stF m n).2 w1 hL (rgF_rise _ _) (by rw [stF_len]; omega) (fun e he => by
    obtain ⟨h1, h2, h3, h4, h5⟩ := rgF_mem _ _ e he
    rw [h4]
    have : (0 : Int) ≤ e.mod ∧ e.mod ≤ 255 := by omega
    have e1 : IntKind.i64.min = -9223372036854775808 := by decide
    have e2 : IntKind.i64.max = 9223372036854775807 := by decide
    simp only [Lit.wf, e1, e2, Bool.and_eq_true, decide_eq_true_eq]
    omega))
  have HALL := Lib.hid (fun lb v w1 (hL : LogAt w.heap.size lb v m (stF m n).1 (stF m n).2 w1) => all_any w.heap.size lb v m _ _ w1 hL (by rw [stF_len]; omega))
  have HFLO := Lib.hid (fun lb v w1 (hL : LogAt w.heap.size lb v m (stF m n).1 (stF m n).2 w1) => floor_any w.heap.size lb v m _ _ w1 hL)
  go_enter Try.func5, Try.ntmps5
  go_wp2_with fail
  refine HNEW.out.mono ?_
  rintro e w1 ⟨rfl, hL1, hb1⟩
  replace hL1 : LogAt w.heap.size w.heap.size (.slice none 0 0) m (stF m 0).1 (stF m 0).2 w1 := by rw [stF_zero]; exact hL1
  have HB1 := Lib.hid hb1
  have HL1 := Lib.hid hL1
  have HM := Lib.hid hm
  clear hb1 hL1 hm
  go_wp2_with fail
  refine (num_any 0 w1).mono ?_
  rintro e w1 ⟨rfl, rfl⟩
  go_wp2_with fail
  go_loopg [9] n (fun gm iv wr => ∃ (i : Nat) (u : Value), gm = n - i ∧ iv = .int .i64 ((i : Int) + 1) ∧ i ≤ n ∧ Hid (LogAt w.heap.size w.heap.size u m (stF m i).1 (stF m i).2 wr) ∧ Hid (Below w.heap.size w wr))
  case atStart => exact ⟨0, .slice none 0 0, rfl, rfl, Nat.zero_le _, HL1, HB1⟩
  case round =>
    obtain ⟨i, u, rfl, rfl, hi, HLr, HBr⟩ := hrel
    by_cases hlt : i < n
    · have g1 : (i : Int) + 1 ≤ (n : Int) := by omega
      go_wp2_with fail
      obtain ⟨W2, hW2⟩ : ∃ W2, wr.alloc (.cells #[.int .i64 ((i : Int) + 1), .int .i64 2, .int .i64 ((i : Int) + 1), .int .i64 1] 54) = W2 := ⟨_, rfl⟩
      have hbs : Below wr.heap.size wr W2 := by rw [← hW2]; exact (Below.refl _ wr).alloc (Nat.le_refl _) _
      have hblk : W2.heap[wr.heap.size]? = some (.cells (esC [⟨(i : Int) + 1, 2, (i : Int) + 1, 1⟩]).toArray 54 (0, 0)) := by rw [← hW2]; exact heap_alloc_new wr _
      have hA := HADD.out w.heap.size u wr i HLr.out (.slice (some ⟨wr.heap.size, 0, none⟩) 1 1) W2 hbs (sat_new (es := [⟨(i : Int) + 1, 2, (i : Int) + 1, 1⟩]) hblk (by show 1 ≤ 1000000; omega))
        (fun g he e => by have h5 : wr.heap.size = g := Option.some.inj e; obtain ⟨_, cur, hh⟩ := HLr.out.2.2.block he; have := (Array.getElem?_eq_some_iff.1 hh).1; omega)
        (fun e => by have h5 : wr.heap.size = w.heap.size := Option.some.inj e; have := HLr.out.lt; omega)
      rw [hW2]
      rw [stF_step] at hA
      refine hA.mono ?_
      rintro e w3 ⟨rfl, v3, hL3, hT3⟩
      have HB3 := Lib.hid (HBr.out.trans ((hbs.mono HBr.out.size).trans (hT3.below (HLr.out.below hbs))))
      have HL3 := Lib.hid hL3
      clear hL3 hT3 hbs hblk hA hW2
      go_wp2_with fail
      go_roundg (n - (i + 1))
      case measure => omega
      case rel => exact ⟨i + 1, v3, rfl, by go_num, by omega, HL3, HB3⟩
    · have hin : i = n := by omega
      subst hin
      have g1 : ¬ (i : Int) + 1 ≤ (i : Int) := by omega
      go_wp2_with fail
      all_goals clear HNEW HADD HL1 HB1
      · have HH := Lib.hid h
        go_loopg [11] (i + 1) (fun gm iv wr2 => ∃ j : Nat, gm = i + 1 - j ∧ iv = .int .i64 (j : Int) ∧ j ≤ i + 1 ∧ Hid (LogAt w.heap.size w.heap.size u m (stF m i).1 (stF m i).2 wr2) ∧ Hid (Below w.heap.size w wr2))
        case atStart => exact ⟨0, rfl, rfl, Nat.zero_le _, HLr, HBr⟩
        case round =>
          obtain ⟨j, rfl, rfl, hj, HL2, HB2⟩ := hrel
          by_cases hlj : j ≤ i
          · have g2 : (j : Int) ≤ (i : Int) := by omega
            go_wp2_with fail
            refine (HSIN.out _ _ _ (j : Int) HL2.out).mono ?_
            by_cases hc : (j : Int) < ((i - m : Nat) : Int)
            · rw [since_low m i j hc]
              rintro e w4 ⟨v4, rfl, ⟨c1, c2, c3, rfl, q1, q2, q3⟩, hb4⟩
              obtain ⟨a1', m1, rfl⟩ := q1.form
              obtain ⟨a2, m2, rfl⟩ := q2.form
              obtain ⟨a3, m3, rfl⟩ := q3.form
              have HB4 := Lib.hid (HB2.out.trans (hb4.mono HB2.out.size))
              have HL4 := Lib.hid (HL2.out.below hb4)
              clear q1 q2 q3 hb4
              have g3 : (j : Int) < ((i : Int) - (m : Int)) := by omega
              dsimp only [noCh, List.length_nil]
              go_wp2_with fail
              refine (num_any 12 _).mono ?_
              rintro e w5 ⟨rfl, rfl⟩
              go_wp2_with fail
              go_roundg (i + 1 - (j + 1))
              case measure => omega
              case rel => exact ⟨j + 1, rfl, by go_num, by omega, Lib.hid (HL4.out.below ((Below.refl _ _).alloc (Nat.le_refl _) _)), Lib.hid (HB4.out.alloc HB4.out.size _)⟩
            · obtain ⟨s1, s2⟩ := since_in m i j (by omega) (by omega)
              rw [s1]
              generalize (sinceL (stF m i).1 (stF m i).2 2 j i 0).1 = C at s2
              rintro e w4 ⟨v4, rfl, ⟨c1, c2, c3, rfl, q1, q2, q3⟩, hb4⟩
              obtain ⟨L, hL⟩ : ∃ L, C.made.length = L := ⟨_, rfl⟩
              rw [hL] at q1 s2
              obtain ⟨a1', m1, rfl⟩ := q1.form
              obtain ⟨a2, m2, rfl⟩ := q2.form
              obtain ⟨a3, m3, rfl⟩ := q3.form
              have HB4 := Lib.hid (HB2.out.trans (hb4.mono HB2.out.size))
              have HL4 := Lib.hid (HL2.out.below hb4)
              have s3 : (i : Int) - (j : Int) = (L : Int) := s2.symm
              have s4 : (L : Int) ≤ 255 := by omega
              clear q1 q2 q3 hb4 s1 s2 hL
              have g3 : ¬ (j : Int) < ((i : Int) - (m : Int)) := by omega
              have g4 : ((i : Int) - (m : Int)) ≤ (j : Int) := by omega
              go_wp2_with fail
              refine (num_any 0 _).mono ?_
              rintro e w5 ⟨rfl, rfl⟩
              go_wp2_with fail
              go_roundg (i + 1 - (j + 1))
              case measure => omega
              case rel => exact ⟨j + 1, rfl, by go_num, by omega, Lib.hid (HL4.out.below ((Below.refl _ _).alloc (Nat.le_refl _) _)), Lib.hid (HB4.out.alloc HB4.out.size _)⟩
          · have g2 : ¬ (j : Int) ≤ (i : Int) := by omega
            go_wp2_with fail
            refine (HSIN.out _ _ _ ((i : Int) + 1) HL2.out).mono ?_
            rw [since_high m i ((i : Int) + 1) (by omega)]
            rintro e w4 ⟨v4, rfl, ⟨c1, c2, c3, rfl, q1, q2, q3⟩, hb4⟩
            obtain ⟨a1', m1, rfl⟩ := q1.form
            obtain ⟨a2, m2, rfl⟩ := q2.form
            obtain ⟨a3, m3, rfl⟩ := q3.form
            have HB4 := Lib.hid (HB2.out.trans (hb4.mono HB2.out.size))
            have HL4 := Lib.hid (HL2.out.below hb4)
            clear q1 q2 q3 hb4
            dsimp only [noCh, List.length_nil]
            go_wp2_with fail
            have HL5 := Lib.hid (HL4.out.below ((Below.refl w4.heap.size w4).alloc (Nat.le_refl _) (.cells #[.slice a1' 0 m1, .slice a2 0 m2, .slice a3 0 m3, .int .i64 0, .bool false] 42)))
            have HB5 := Lib.hid (HB4.out.alloc HB4.out.size (.cells #[.slice a1' 0 m1, .slice a2 0 m2, .slice a3 0 m3, .int .i64 0, .bool false] 42))
            refine (HFLO.out _ _ _ HL5.out).mono ?_
            rintro e w6 ⟨rfl, rfl⟩
            have HST : Hid ((stF m i).1 = ((i : Int) - (m : Int)) ∧ (stF m i).2.length = min i m) := Lib.hid ⟨by show ((i - m : Nat) : Int) = _; omega, stF_len m i⟩
            rw [HST.out.1]
            go_wp2_with fail
            refine (HALL.out _ _ _ HL5.out).mono ?_
            rw [HST.out.2]
            rintro e w7 ⟨u7, rfl, hq7, hb7⟩
            obtain ⟨ua, uc, rfl⟩ := hq7.form
            have HB7 := Lib.hid (HB5.out.trans (hb7.mono HB5.out.size))
            clear hq7 hb7
            go_wp2_with fail
            refine (num_any 12 _).mono ?_
            rintro e w8 ⟨rfl, rfl⟩
            go_wp2_with fail
            refine (awake_any _).mono ?_
            rintro e w9 ⟨rfl, hb9⟩
            go_wp2_with fail
            go_ret
            exact ⟨rfl, HB7.out.trans (hb9.mono HB7.out.size)⟩
      · have HH := Lib.hid h
        go_loopg [11] (i + 1) (fun gm iv wr2 => ∃ j : Nat, gm = i + 1 - j ∧ iv = .int .i64 (j : Int) ∧ j ≤ i + 1 ∧ Hid (LogAt w.heap.size w.heap.size u m (stF m i).1 (stF m i).2 wr2) ∧ Hid (Below w.heap.size w wr2))
        case atStart => exact ⟨0, rfl, rfl, Nat.zero_le _, HLr, HBr⟩
        case round =>
          obtain ⟨j, rfl, rfl, hj, HL2, HB2⟩ := hrel
          by_cases hlj : j ≤ i
          · have g2 : (j : Int) ≤ (i : Int) := by omega
            go_wp2_with fail
            refine (HSIN.out _ _ _ (j : Int) HL2.out).mono ?_
            by_cases hc : (j : Int) < ((i - m : Nat) : Int)
            · exact absurd hc (by have := HH.out; omega)
            · obtain ⟨s1, s2⟩ := since_in m i j (by omega) (by omega)
              rw [s1]
              generalize (sinceL (stF m i).1 (stF m i).2 2 j i 0).1 = C at s2
              rintro e w4 ⟨v4, rfl, ⟨c1, c2, c3, rfl, q1, q2, q3⟩, hb4⟩
              obtain ⟨L, hL⟩ : ∃ L, C.made.length = L := ⟨_, rfl⟩
              rw [hL] at q1 s2
              obtain ⟨a1', m1, rfl⟩ := q1.form
              obtain ⟨a2, m2, rfl⟩ := q2.form
              obtain ⟨a3, m3, rfl⟩ := q3.form
              have HB4 := Lib.hid (HB2.out.trans (hb4.mono HB2.out.size))
              have HL4 := Lib.hid (HL2.out.below hb4)
              have s3 : (i : Int) - (j : Int) = (L : Int) := s2.symm
              have s4 : (L : Int) ≤ 255 := by omega
              clear q1 q2 q3 hb4 s1 s2 hL
              have g3 : ¬ (j : Int) < (0 : Int) := by omega
              have g4 : (0 : Int) ≤ (j : Int) := by omega
              go_wp2_with fail
              refine (num_any 0 _).mono ?_
              rintro e w5 ⟨rfl, rfl⟩
              go_wp2_with fail
              go_roundg (i + 1 - (j + 1))
              case measure => omega
              case rel => exact ⟨j + 1, rfl, by go_num, by omega, Lib.hid (HL4.out.below ((Below.refl _ _).alloc (Nat.le_refl _) _)), Lib.hid (HB4.out.alloc HB4.out.size _)⟩
          · have g2 : ¬ (j : Int) ≤ (i : Int) := by omega
            go_wp2_with fail
            refine (HSIN.out _ _ _ ((i : Int) + 1) HL2.out).mono ?_
            rw [since_high m i ((i : Int) + 1) (by omega)]
            rintro e w4 ⟨v4, rfl, ⟨c1, c2, c3, rfl, q1, q2, q3⟩, hb4⟩
            obtain ⟨a1', m1, rfl⟩ := q1.form
            obtain ⟨a2, m2, rfl⟩ := q2.form
            obtain ⟨a3, m3, rfl⟩ := q3.form
            have HB4 := Lib.hid (HB2.out.trans (hb4.mono HB2.out.size))
            have HL4 := Lib.hid (HL2.out.below hb4)
            clear q1 q2 q3 hb4
            dsimp only [noCh, List.length_nil]
            go_wp2_with fail
            have HL5 := Lib.hid (HL4.out.below ((Below.refl w4.heap.size w4).alloc (Nat.le_refl _) (.cells #[.slice a1' 0 m1, .slice a2 0 m2, .slice a3 0 m3, .int .i64 0, .bool false] 42)))
            have HB5 := Lib.hid (HB4.out.alloc HB4.out.size (.cells #[.slice a1' 0 m1, .slice a2 0 m2, .slice a3 0 m3, .int .i64 0, .bool false] 42))
            refine (HFLO.out _ _ _ HL5.out).mono ?_
            rintro e w6 ⟨rfl, rfl⟩
            have HST : Hid ((stF m i).1 = (0 : Int) ∧ (stF m i).2.length = min i m) := Lib.hid ⟨by show ((i - m : Nat) : Int) = _; omega, stF_len m i⟩
            rw [HST.out.1]
            go_wp2_with fail
            refine (HALL.out _ _ _ HL5.out).mono ?_
            rw [HST.out.2]
            rintro e w7 ⟨u7, rfl, hq7, hb7⟩
            obtain ⟨ua, uc, rfl⟩ := hq7.form
            have HB7 := Lib.hid (HB5.out.trans (hb7.mono HB5.out.size))
            clear hq7 hb7
            go_wp2_with fail
            refine (num_any 12 _).mono ?_
            rintro e w8 ⟨rfl, rfl⟩
            go_wp2_with fail
            refine (awake_any _).mono ?_
            rintro e w9 ⟨rfl, hb9⟩
            go_wp2_with fail
            go_ret
            exact ⟨rfl, HB7.out.trans (hb9.mono HB7.out.size)⟩
end Go.Proofs.Ytojjlbhodiphdaa.Lg
