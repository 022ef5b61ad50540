/-
  The law JsonBack returns true, of any bytes: the walk. Conditions: none.
-/
import Derived.Test.YtpnffmimpkimeaaJ7ErrP
import Derived.Test.YtpnffmimpkimeaaJ7EscW
namespace Go.Proofs.Ytpnffmimpkimeaa.J7
open Go Go.RowKit Go.Joins Kit

set_option maxHeartbeats 2000000 in
set_option maxRecDepth 100000 in
theorem jsonBack_walk (l : List UInt8) (a : Option Addr) (n cap : Nat) (hn : l.length = n) (w : World) (hb : BytesAt w (.slice a n cap) l) :
    Calls Try.prog 5 #[.slice a n cap] w fun e w' => e = .returned (.bool true) ∧ Below w.heap.size w w' := by
  by_cases hg : (3000 : Int) < n
  · clear hb hn
    go_enter Try.func5, Try.ntmps5
    go_wp2_with fail
    refine (awake_any _).mono ?_
    rintro e' w9 ⟨rfl, hb9⟩
    go_wp2_with fail
    go_ret
    exact ⟨rfl, hb9⟩
  have hp := parse_any l _ w hb
  cases ho : parseG numC l with
  | error e =>
    have he : (1 : Int) ≤ (e : Int) := by
      have := parse_noz l
      rw [ho] at this
      have : e ≠ 0 := fun h => this (by rw [h])
      omega
    rw [ho] at hp
    clear ho hb hn
    go_enter Try.func5, Try.ntmps5
    go_wp2_with fail
    refine hp.mono ?_
    intro e' w3 hL
    obtain ⟨hb3, x0, x1, x2, a3, l3, m3, a4, l4, m4, c, rfl, rfl, -⟩ := parse_forms hL
    have hb4 := hb3.alloc hb3.size (.cells #[.int .i64 x0, .int .i64 x1, .string x2, .slice a3 l3 m3, .slice a4 l4 m4] 27)
    clear hL hp
    go_wp2_with fail
    refine (L3.num_any (e : Int) _).mono ?_
    rintro e' w5 ⟨rfl, rfl⟩
    go_wp2_with fail
    refine (awake_any _).mono ?_
    rintro e' w9 ⟨rfl, hb9⟩
    go_wp2_with fail
    go_ret
    exact ⟨rfl, hb4.trans (hb9.mono hb4.size)⟩
  | ok j =>
    obtain ⟨hr, hlen, hl6⟩ := parse_right ho
    have hpp := parse_put j hr (by omega)
    have HPP := Lib.hid hpp
    have HR := Lib.hid hr
    obtain ⟨S, hS⟩ : ∃ S : ByteArray, ⟨(putJ j).toArray⟩ = S := ⟨_, rfl⟩
    have hsz : (S.size : Int) ≤ n := by rw [← hS, Lib.size_eq]; show (((putJ j).length : Nat) : Int) ≤ n; omega
    have hSd : S.data.toList = putJ j := by rw [← hS]
    have HSD := Lib.hid hSd
    have HS := Lib.hid hS
    have HL6 : Hid ((putJ j).length ≤ 65536) := Lib.hid (by omega)
    rw [ho] at hp
    clear ho hb hn hlen hl6 hr hpp hS hSd
    go_enter Try.func5, Try.ntmps5
    go_wp2_with fail
    refine hp.mono ?_
    intro e' w3 hL
    obtain ⟨hb3, x0, x1, x2, a3, l3, m3, a4, l4, m4, c, rfl, rfl, hn3⟩ := parse_forms hL
    obtain ⟨w4, hw4⟩ : ∃ w4, w3.alloc (.cells #[.int .i64 x0, .int .i64 x1, .string x2, .slice a3 l3 m3, .slice a4 l4 m4] 27) = w4 := ⟨_, rfl⟩
    have hb4 : Below w.heap.size w w4 := by rw [← hw4]; exact hb3.alloc hb3.size _
    have hb34 : Below w3.heap.size w3 w4 := by rw [← hw4]; exact (Below.refl _ w3).alloc (Nat.le_refl _) _
    have hA : Bx w3.heap.size (.int .i64 x0) (.int .i64 x1) (.string x2) (.slice a3 l3 m3) (.slice a4 l4 m4) w4 := by rw [← hw4]; exact Bx.made w3 _ _ _ _ _
    have hn4 := hn3.keep (kept_below hb34)
    have HW4 := Lib.hid hw4
    obtain ⟨Gn, hGn⟩ : ∃ Gn, w3.heap.size = Gn := ⟨_, rfl⟩
    rw [hGn] at hA
    have hGl := hA.lt
    have p0 := hA.p0
    have p1 := hA.p1
    have p2 := hA.p2
    have p3 := hA.p3
    have p4 := hA.p4
    have hpr := print_any j HR.out HL6.out _ w4 _ _ _ _ _ hn4
    rw [HS.out] at hpr
    clear hL hp hw4 hn3 hb34
    go_upto_region 4 with fail
    rw [HW4.out]
    (try rw [hGn])
    go_wp2_with fail
    refine (L3.num_any 0 _).mono ?_
    rintro e' w5 ⟨rfl, rfl⟩
    go_wp2_with fail
    refine hpr.mono ?_
    rintro e' w5 ⟨rfl, hb5⟩
    obtain ⟨N1, cap1, gg1, w6, hconv, hby, hb6⟩ := conv_text S _ HSD.out w5
    have hp := parse_any _ _ w6 hby
    rw [HPP.out] at hp
    clear hby hpr p0 p1 p2 p3 p4
    go_wp2_with fail
    refine hp.mono ?_
    intro e' w7 hL
    obtain ⟨hb7, y0, y1, y2, a5, l5, m5, a6, l6, m6, c, rfl, rfl, hn7⟩ := parse_forms hL
    obtain ⟨w8, hw8⟩ : ∃ w8, w7.alloc (.cells #[.int .i64 y0, .int .i64 y1, .string y2, .slice a5 l5 m5, .slice a6 l6 m6] 27) = w8 := ⟨_, rfl⟩
    have hb78 : Below w7.heap.size w7 w8 := by rw [← hw8]; exact (Below.refl _ w7).alloc (Nat.le_refl _) _
    have hb57 : Below w5.heap.size w5 w7 := hb6.trans (hb7.mono hb6.size)
    have hb47 : Below w4.heap.size w4 w7 := hb5.trans (hb57.mono hb5.size)
    have hb48 : Below w4.heap.size w4 w8 := hb47.trans (hb78.mono hb47.size)
    have hb08 := hb4.trans (hb48.mono hb4.size)
    have hA8 : Bx Gn (.int .i64 x0) (.int .i64 x1) (.string x2) (.slice a3 l3 m3) (.slice a4 l4 m4) w8 := hA.same (hb48.block Gn hGl)
    have hB : Bx w7.heap.size (.int .i64 y0) (.int .i64 y1) (.string y2) (.slice a5 l5 m5) (.slice a6 l6 m6) w8 := by rw [← hw8]; exact Bx.made w7 _ _ _ _ _
    have hsame := same_any 24 j HR.out _ _ w8 _ _ _ _ _ _ _ _ _ _ (hn4.keep (kept_below hb48)) (hn7.keep (kept_below hb78))
    have HW8 := Lib.hid hw8
    obtain ⟨Gm, hGm⟩ : ∃ Gm, w7.heap.size = Gm := ⟨_, rfl⟩
    rw [hGm] at hB
    have p0 := hA8.p0
    have p1 := hA8.p1
    have p2 := hA8.p2
    have p3 := hA8.p3
    have p4 := hA8.p4
    have q0 := hB.p0
    have q1 := hB.p1
    have q2 := hB.p2
    have q3 := hB.p3
    have q4 := hB.p4
    clear hL hp hw8 hn7 hn4 hb78 hb57 hb47 hb48 hconv
    go_upto_region 8 with fail
    rw [HW8.out]
    (try rw [hGm])
    go_wp2_with fail
    refine (L3.num_any 0 _).mono ?_
    rintro e' w9 ⟨rfl, rfl⟩
    go_wp2_with fail
    refine hsame.mono ?_
    rintro e' w9 ⟨rfl, hb9⟩
    go_wp2_with fail
    refine (awake_any _).mono ?_
    rintro e' w10 ⟨rfl, hb10⟩
    go_wp2_with fail
    go_ret
    have hb11 := hb08.trans (hb9.mono hb08.size)
    exact ⟨rfl, hb11.trans (hb10.mono hb11.size)⟩
end Go.Proofs.Ytpnffmimpkimeaa.J7
