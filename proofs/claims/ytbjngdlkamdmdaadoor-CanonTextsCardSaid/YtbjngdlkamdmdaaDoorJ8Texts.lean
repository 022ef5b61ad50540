/-
  The law CanonTexts returns true, of any text. Condition: the library's table of powers of ten reads as its text lays it.
-/
import Derived.Test.YtbjngdlkamdmdaaDoorJ8Within
import Derived.Test.YtbjngdlkamdmdaaDoorJ8Inj
namespace Go.Proofs.YtbjngdlkamdmdaaDoor.J8
open Go Go.RowKit Go.Joins Kit J7 Nds

theorem text_conv8 (s : ByteArray) (l : List UInt8) (hs : s.data.toList = l) (w : World) : ∃ N cap g w', (convert 9 40 (.string s)).run Tryd.prog w = .ok (.slice (some ⟨g, 0, none⟩) N cap) w' ∧ BytesAt w' (.slice (some ⟨g, 0, none⟩) N cap) l ∧ Below w.heap.size w w' := by
  obtain ⟨cap, w', h1, h2, h3⟩ := conv_bytes s w
  exact ⟨_, cap, _, w', h1, by rw [← hs]; exact h2, h3⟩
theorem rRight_one {a : J} (ht : Tame a) {w : World} {c0 c1 c2 c3 c4 : Value} (hN : NodeIn w a (.agg #[c0, c1, c2, c3, c4])) :
    Calls Tryd.prog 14 #[.agg #[c0, c1, c2, c3, c4]] w fun e w' => e = .returned (.bool (rightP 0 a)) ∧ Below w.heap.size w w' := by
  have hra := rightAns_any ht hN
  obtain ⟨k, n, t, a3, n3, m3, a4, n4, m4, rfl, rfl, rfl, rfl, rfl⟩ := in_forms hN
  exact Right_call w _ k n t a3 a4 n3 m3 n4 m4 hra
/-- A text as a value. -/
def txJ (s : ByteArray) : J := .mk 5 0 s [] []
theorem put_txJ (s : ByteArray) : putJ (txJ s) = quoteL s.data.toList := by unfold txJ; rw [putJ]; rfl
theorem tx_yes {s : ByteArray} (hs : s.size ≤ 2000) (hv : U8.validL s.data.toList = true) : RightIn 0 (arrJ (txJ s)) ∧ (putJ (arrJ (txJ s))).length ≤ 65536 ∧ printP (arrJ (txJ s)) = (⟨(putJ (arrJ (txJ s))).toArray⟩, 0) := by
  have h1 : RightIn 0 (arrJ (txJ s)) := right_arr.2 (right_str.2 hv)
  have h2 : (putJ (arrJ (txJ s))).length ≤ 65536 := by
    have := quote_len s
    rw [put_arr, put_txJ, List.length_cons, List.length_append, List.length_singleton]
    omega
  exact ⟨h1, h2, by unfold printP; rw [if_pos (rightP_yes h1), if_pos h2]⟩
theorem tx_no {s : ByteArray} (hv : ¬ U8.validL s.data.toList = true) : ¬ RightIn 0 (arrJ (txJ s)) ∧ ¬ RightIn 0 (txJ s) ∧ printP (arrJ (txJ s)) = (⟨#[]⟩, 1) := by
  have h0 : ¬ RightIn 0 (txJ s) := fun h => hv (right_str.1 h)
  have h1 : ¬ RightIn 0 (arrJ (txJ s)) := fun h => hv (right_str.1 (right_arr.1 h))
  exact ⟨h1, h0, by unfold printP; rw [if_neg (by rw [rightP_no h1]; decide)]⟩
theorem tx_ge (s : ByteArray) (x : UInt8) (h : x ∈ putJ (arrJ (txJ s))) : 32 ≤ x.toNat := by
  rw [put_arr, put_txJ] at h
  rcases List.mem_cons.1 h with rfl | h
  · decide
  · rcases List.mem_append.1 h with h | h
    · exact quote_ge _ x h
    · rw [List.mem_singleton] at h
      subst h
      decide

set_option maxHeartbeats 16000000 in
set_option maxRecDepth 100000 in
theorem canonTexts_walk (s : ByteArray) (w : World) (hE : EnvW w) :
    Calls Tryd.prog 6 #[.string s] w fun e w' => e = .returned (.bool true) ∧ Below w.heap.size w w' := by
  have HE : Hid (∀ w', Below w.heap.size w w' → EnvW w') := Lib.hid (fun w' h => hE.next h)
  by_cases hsz : s.size ≤ 2000
  rotate_left 1
  · have g0 : (2000 : Int) < (s.size : Int) := by omega
    have ha := awake_any hE
    clear hE
    go_enter Tryd.func6, Tryd.ntmps6
    go_wp2_with fail
    refine ha.mono ?_
    rintro e w1 ⟨rfl, hb1⟩
    go_wp2_with fail
    go_ret
    exact ⟨rfl, hb1⟩
  have g0 : ¬ (2000 : Int) < (s.size : Int) := by omega
  have hin := in_plain w 5 0 s
  have hb1 : Below w.heap.size w (w.alloc (.cells #[.int .i64 5, .int .i64 0, .string s, .slice none 0 0, .slice none 0 0] 25)) := (Below.refl _ w).alloc (Nat.le_refl _) _
  have hts : Tame (txJ s) := tame_str s (by omega)
  have hpr := cprint_any (tame_arr hts) (fun h => by
    have := quote_len s
    rw [put_arr, put_txJ, List.length_cons, List.length_append, List.length_singleton]
    omega) (HE.out _ hb1) (in_one hin)
  have HRT : Hid (∀ w', Calls Tryd.prog 14 #[.agg #[.int .i64 5, .int .i64 0, .string s, .slice none 0 0, .slice none 0 0]] w' fun e w'' => e = .returned (.bool (rightP 0 (txJ s))) ∧ Below w'.heap.size w' w'') := Lib.hid (fun w' => rRight_one hts (in_plain w' 5 0 s))
  by_cases hv : U8.validL s.data.toList = true
  rotate_left 1
  · obtain ⟨h1, h2, h3⟩ := tx_no hv
    rw [h3] at hpr
    have hrt := HRT.out
    rw [rightP_no h2] at hrt
    clear h1 h2 h3 hv hts hin hE HRT
    go_enter Tryd.func6, Tryd.ntmps6
    go_wp2_with fail
    refine hpr.mono ?_
    rintro e w2 ⟨rfl, hb2⟩
    have hb02 := hb1.trans (hb2.mono hb1.size)
    clear hpr
    go_wp2_with fail
    refine (hrt _).mono ?_
    rintro e w3 ⟨rfl, hb3⟩
    have hb03 := hb02.trans (hb3.mono hb02.size)
    clear hrt
    go_wp2_with fail
    refine (L3.num_any _ _).mono ?_
    rintro e w4 ⟨rfl, rfl⟩
    go_wp2_with fail
    refine (awake_any (HE.out _ hb03)).mono ?_
    rintro e w5 ⟨rfl, hb5⟩
    go_wp2_with fail
    go_ret
    exact ⟨rfl, hb03.trans (hb5.mono hb03.size)⟩
  obtain ⟨h1, h2, h3⟩ := tx_yes hsz hv
  rw [h3] at hpr
  have hrt := HRT.out
  rw [rightP_yes (show RightIn 0 (txJ s) from right_str.2 hv)] at hrt
  obtain ⟨S, hS⟩ : ∃ S : ByteArray, (⟨(putJ (arrJ (txJ s))).toArray⟩ : ByteArray) = S := ⟨_, rfl⟩
  rw [hS] at hpr
  have hSd : S.data.toList = putJ (arrJ (txJ s)) := by rw [← hS]
  have HSD := Lib.hid hSd
  have hSz : (S.size : Int) ≤ 65536 := by
    rw [Lib.size_eq, hSd]
    omega
  have HGE : Hid (∀ i (h : i < S.size), ¬ ((S[i].toNat : Int) < 32)) := Lib.hid (fun i h => by
    have h9 : S[i] ∈ putJ (arrJ (txJ s)) := by
      rw [← hSd, ← byte_get S i h]
      exact List.getElem_mem _
    have := tx_ge s _ h9
    omega)
  have HPP := Lib.hid (parse_put (arrJ (txJ s)) (right_J (tame_arr hts) 24 0 rfl h1) h2)
  clear h1 h2 h3 hv hts hin hE HRT hS hSd
  go_enter Tryd.func6, Tryd.ntmps6
  go_wp2_with fail
  refine hpr.mono ?_
  rintro e w2 ⟨rfl, hb2⟩
  have hb02 := hb1.trans (hb2.mono hb1.size)
  clear hpr
  go_wp2_with fail
  refine (hrt _).mono ?_
  rintro e w3 ⟨rfl, hb3⟩
  have hb03 := hb02.trans (hb3.mono hb02.size)
  clear hrt hb1 hb2 hb3 hb02
  go_wp2_with fail
  go_loopg [5] S.size (fun m v wr => ∃ i : Nat, m = S.size - i ∧ v = .int .i64 i ∧ i ≤ S.size ∧ w3 = wr)
  case atStart => exact ⟨0, rfl, rfl, Nat.zero_le _, rfl⟩
  case round =>
    obtain ⟨i, rfl, rfl, hi, rfl⟩ := hrel
    by_cases hlt : i < S.size
    · have gi : (i : Int) < S.size := by omega
      have gb := HGE.out i hlt
      go_wp2_with fail
      go_roundg (S.size - (i + 1))
      case measure => omega
      case rel => exact ⟨i + 1, rfl, by go_num, by omega, rfl⟩
    · have gi : decide ((i : Int) < (S.size : Int)) = false := by rw [decide_eq_false_iff_not]; omega
      obtain ⟨N1, cap1, gg1, wc, hconv, hby, hbc⟩ := text_conv8 S _ HSD.out w3
      have hp := parse_any _ _ wc hby
      rw [HPP.out] at hp
      clear hby
      go_wp2_with fail
      refine hp.mono ?_
      intro e' w9 hL
      obtain ⟨hb9, n0, n1, n2, a5, l5, m5, a6, l6, m6, cc, rfl, rfl, hn9⟩ := parse_forms hL
      have hb39 : Below w3.heap.size w3 w9 := hbc.trans (hb9.mono hbc.size)
      have hb09 := hb03.trans (hb39.mono hb03.size)
      obtain ⟨hm1, hm2, hm3⟩ := bx_new w9 (.int .i64 n0) (.int .i64 n1) (.string n2) (.slice a5 l5 m5) (.slice a6 l6 m6)
      obtain ⟨g, o, cap, e4, hk⟩ := kid_cells hn9 (by intro e; cases e)
      rw [show (arrJ (txJ s)).kids.length = 1 from rfl] at e4
      injection e4 with e4 e5 e6
      subst e4 e5 e6
      obtain ⟨d0, d1, d2, d3, d4, r0, r1, r2, r3, r4, hn0⟩ := hk 0 (by show 0 < 1; decide)
      obtain ⟨-, -, t2, -, -⟩ := node_cells hn0
      obtain rfl : d2 = .string s := t2
      have u2 : (w9.alloc (.cells #[.int .i64 n0, .int .i64 n1, .string n2, .slice a5 l5 m5, .slice (some ⟨g, o, none⟩) 1 m6] 25)).cell? ⟨g, o + 2, none⟩ = some (.string s) := (hm1.cell (p := ⟨g, o + 2, none⟩) (World.block_lt_of_cell? w9 _ r2)).trans r2
      obtain ⟨w10, hw10⟩ : ∃ w10, w9.alloc (.cells #[.int .i64 n0, .int .i64 n1, .string n2, .slice a5 l5 m5, .slice (some ⟨g, o, none⟩) 1 m6] 25) = w10 := ⟨_, rfl⟩
      rw [hw10] at hm1 hm2 hm3 u2
      have HW10 := Lib.hid hw10
      have hb10 := hb09.trans (hm1.mono hb09.size)
      obtain ⟨P, hP⟩ : ∃ P, w9.heap.size = P := ⟨_, rfl⟩
      rw [hP] at hm2 hm3
      have p4 := hm2.p4
      clear hL hp hbc hb9 hn9 hb39 hb09 hm1 hm2 hw10 hk r0 r1 r2 r3 r4 hn0
      go_upto_region 12 with fail
      rw [HW10.out]
      (try rw [hP])
      go_wp2_with fail
      refine (L3.num_any _ _).mono ?_
      rintro e w11 ⟨rfl, rfl⟩
      go_wp2_with fail
      refine (L3.num_any _ _).mono ?_
      rintro e w12 ⟨rfl, rfl⟩
      go_wp2_with fail
      refine (awake_any (HE.out _ hb10)).mono ?_
      rintro e w13 ⟨rfl, hb13⟩
      go_wp2_with fail
      go_ret
      exact ⟨rfl, hb10.trans (hb13.mono hb10.size)⟩
end Go.Proofs.YtbjngdlkamdmdaaDoor.J8
