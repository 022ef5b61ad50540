/-
  The law JsonReads returns true, of any bytes: the walk. Conditions: none.
-/
import Derived.Test.YtpnffmimpkimeaaJ7RP
import Derived.Test.YtpnffmimpkimeaaJ7ReP
namespace Go.Proofs.Ytpnffmimpkimeaa.J7
open Go Go.RowKit Go.Joins Kit

set_option maxHeartbeats 4000000 in
set_option maxRecDepth 100000 in
theorem jsonReads_walk (l : List UInt8) (a : Option Addr) (n cap : Nat) (_hn : l.length = n) (w : World) (hb : BytesAt w (.slice a n cap) l) :
    Calls Try.prog 3 #[.slice a n cap] w fun e w' => e = .returned (.bool true) ∧ Below w.heap.size w w' := by
  clear _hn
  have hp1 := parse_any l _ w hb
  have HB := Lib.hid hb
  have hsame1 := same_read l
  obtain ⟨O, hO⟩ : ∃ O, parseG numC l = O := ⟨_, rfl⟩
  have hO2 : parseG numberL l = O := by rw [← parse_near]; exact hO
  rw [hO] at hp1 hsame1
  have HSAME := Lib.hid hsame1
  have HO2 := Lib.hid hO2
  obtain ⟨C, hC⟩ : ∃ C, cR O = C := ⟨_, rfl⟩
  have HC := Lib.hid hC
  clear hb hO hO2 hsame1 hC
  rcases (show ((3000 : Int) < n ∧ (n : Int) ≤ 65536) ∨ decide ((3000 : Int) < (n : Int)) = false ∧ decide (3000 < n) = false ∨ ((3000 : Int) < n ∧ (65537 : Int) ≤ n) by
    rcases Nat.lt_or_ge 3000 n with h | h
    · rcases Nat.lt_or_ge 65536 n with h' | h'
      · exact Or.inr (Or.inr ⟨by omega, by omega⟩)
      · exact Or.inl ⟨by omega, by omega⟩
    · exact Or.inr (Or.inl ⟨by rw [decide_eq_false_iff_not]; omega, by rw [decide_eq_false_iff_not]; omega⟩)) with ⟨ga, gb⟩ | ⟨ga, gb⟩ | ⟨ga, gb⟩
  · clear hp1
    go_enter Try.func3, Try.ntmps3
    go_wp2_with fail
    refine (awake_any _).mono ?_
    rintro e' w9 ⟨rfl, hb9⟩
    go_wp2_with fail
    go_ret
    exact ⟨rfl, hb9⟩
  all_goals
    go_enter Try.func3, Try.ntmps3
    go_wp2_with fail
    refine hp1.mono ?_
    intro e' w4 hL
    obtain ⟨hb4, x0, x1, x2, a3, l3, m3, a4, l4, m4, he, hn4⟩ := parse_two hL
    rw [HC.out] at he
    subst he
    obtain ⟨w5, hw5⟩ : ∃ w5, w4.alloc (.cells #[.int .i64 x0, .int .i64 x1, .string x2, .slice a3 l3 m3, .slice a4 l4 m4] 27) = w5 := ⟨_, rfl⟩
    have hb45 : Below w4.heap.size w4 w5 := by rw [← hw5]; exact (Below.refl _ w4).alloc (Nat.le_refl _) _
    have hb5 : Below w.heap.size w w5 := hb4.trans (hb45.mono hb4.size)
    have hA : Bx w4.heap.size (.int .i64 x0) (.int .i64 x1) (.string x2) (.slice a3 l3 m3) (.slice a4 l4 m4) w5 := by rw [← hw5]; exact Bx.made w4 _ _ _ _ _
    have hn5 := hn4.keep (kept_below hb45)
    have HW5 := Lib.hid hw5
    obtain ⟨Gn, hGn⟩ : ∃ Gn, w4.heap.size = Gn := ⟨_, rfl⟩
    rw [hGn] at hA
    have hGl := hA.lt
    have hp2 := rparse_any l _ w5 (HB.out.below hb5)
    rw [HO2.out] at hp2
    clear hL hp1 hw5 hn4
    go_upto_region 4 with fail
    rw [HW5.out]
    (try rw [hGn])
    go_wp2_with fail
    refine hp2.mono ?_
    intro e' w6 hL
    obtain ⟨hb56, y0, y1, y2, a5, l5, m5, a6, l6, m6, he, hn6⟩ := parse_two hL
    rw [HC.out] at he
    subst he
    obtain ⟨w7, hw7⟩ : ∃ w7, w6.alloc (.cells #[.int .i64 y0, .int .i64 y1, .string y2, .slice a5 l5 m5, .slice a6 l6 m6] 27) = w7 := ⟨_, rfl⟩
    have hb67 : Below w6.heap.size w6 w7 := by rw [← hw7]; exact (Below.refl _ w6).alloc (Nat.le_refl _) _
    have hb57 : Below w5.heap.size w5 w7 := hb56.trans (hb67.mono hb56.size)
    have hb7 : Below w.heap.size w w7 := hb5.trans (hb57.mono hb5.size)
    have hA7 : Bx Gn (.int .i64 x0) (.int .i64 x1) (.string x2) (.slice a3 l3 m3) (.slice a4 l4 m4) w7 := hA.same (hb57.block Gn hGl)
    have hB7 : Bx w6.heap.size (.int .i64 y0) (.int .i64 y1) (.string y2) (.slice a5 l5 m5) (.slice a6 l6 m6) w7 := by rw [← hw7]; exact Bx.made w6 _ _ _ _ _
    have hsame := HSAME.out _ _ w7 _ _ _ _ _ _ _ _ _ _ (hn5.keep (kept_below hb57)) (hn6.keep (kept_below hb67))
    have HW7 := Lib.hid hw7
    obtain ⟨Gm, hGm⟩ : ∃ Gm, w6.heap.size = Gm := ⟨_, rfl⟩
    rw [hGm] at hB7
    have p0 := hA7.p0
    have p1 := hA7.p1
    have p2 := hA7.p2
    have p3 := hA7.p3
    have p4 := hA7.p4
    have q0 := hB7.p0
    have q1 := hB7.p1
    have q2 := hB7.p2
    have q3 := hB7.p3
    have q4 := hB7.p4
    clear hL hp2 hw7 hn6 hn5 hb4 hb45 hb56 hb67 hb57 hA
    go_upto_region 5 with fail
    rw [HW7.out]
    (try rw [hGm])
    go_wp2_with fail
    refine hsame.mono ?_
    rintro e' w8 ⟨rfl, hb78⟩
    have hb8 : Below w.heap.size w w8 := hb7.trans (hb78.mono hb7.size)
    clear p0 p1 p2 p3 p4 q0 q1 q2 q3 q4 hsame hA7 hB7 hb7 hb78 hb5
    go_wp2_with fail
    refine (L3.num_any (C : Int) _).mono ?_
    rintro e' w9 ⟨rfl, rfl⟩
    go_wp2_with fail
    refine (awake_any _).mono ?_
    rintro e' w10 ⟨rfl, hb10⟩
    go_wp2_with fail
    go_ret
    exact ⟨rfl, hb8.trans (hb10.mono hb8.size)⟩
end Go.Proofs.Ytpnffmimpkimeaa.J7
