/-
  Package date's faces: a second's two texts, a day's text read, a second's texts read. Conditions: the tables as the program's text lays them (Env); the texts have at most 2^20 bytes.
-/
import Derived.Test.YtlhoellimldimaaDoorD6Put
namespace Go.Proofs.YtlhoellimldimaaDoor.D6
open Go Go.RowKit Go.Joins Kit Dg
open Bld (BSet)

/-! ### A second's texts -/
theorem imap_out {Y M D H I S : Nat} {L : List UInt8} (h : L = [day1 D, dg (D % 10)]) :
    L ++ [45] ++ mon3 M ++ [45] ++ four Y ++ [32] ++ two H ++ [58] ++ two I ++ [58] ++ two S ++ [32, 43, 48, 48, 48, 48] = imapD Y M D H I S := by
  subst h
  rfl
theorem rfc_out {Y M D H I S : Nat} : [] ++ four Y ++ [45] ++ two M ++ [45] ++ two D ++ [84] ++ two H ++ [58] ++ two I ++ [58] ++ two S ++ [90] = rfcD Y M D H I S := rfl
set_option maxHeartbeats 2000000 in
set_option maxRecDepth 100000 in
theorem imap_any (x : Int) (h0 : -9223372036854775808 ≤ x) (h1 : x ≤ 9223372036854775807) (w : World) (hE : Env w) :
    Calls Tryd.prog 13 #[.int .i64 x] w fun e w' => e = .returned (.string ⟨(imapL (clamp x)).toArray⟩) ∧ Below w.heap.size w w' := by
  obtain ⟨Y, M, D, H, I, S, hc, hi, hr, y1, y2, m1, m2, d1, d2, t1, t2, t3⟩ := civ_parts (clamp_le x)
  rw [hi]
  have hcall := civ_same x h0 h1 w hE
  rw [hc] at hcall
  clear hc hi hr
  go_enter Tryd.func13, Tryd.ntmps13
  go_wp2_with fail
  refine hcall.mono ?_
  rintro e w1 ⟨rfl, rfl⟩
  clear hcall
  go_wp2_with fail
  refine (own_grow w 26 (by decide)).mono ?_
  rintro e w1 ⟨rfl, B1, W1⟩
  by_cases hd : (D : Int) < 10
  · go_wp2_with fail
    refine (put_byte (c := 32) rfl W1 B1 (by decide)).mono ?_
    rintro e w1b ⟨rfl, B1b, W1b⟩
    clear W1 B1
    go_wp2_with fail
    refine (cdig_any d2 w1b (hE.next W1b)).mono ?_
    rintro e wx ⟨TD, rfl, sTD, HTD, hb⟩
    have Wx := W1b.trans (hb.mono W1b.size)
    have Bx := B1b.below hb
    clear hb W1b B1b
    go_wp2_with fail
    refine (put_text HTD.out Wx Bx (by decide) (by omega)).mono ?_
    rintro e w2 ⟨rfl, B2, W2⟩
    clear Wx Bx
    obtain ⟨L, hL⟩ : ∃ L, [] ++ [32] ++ (if D < 10 then [dg (D % 10)] else two D) = L := ⟨_, rfl⟩
    rw [hL] at B2
    have hl2 : L.length = 2 := by rw [← hL, if_pos (by omega)]; rfl
    have HL := Lib.hid (show L = [day1 D, dg (D % 10)] by rw [← hL, if_pos (by omega), day1, if_pos (by omega)]; rfl)
    clear hL
    go_wp2_with fail
    refine (put_byte (c := 45) rfl W2 B2 (by omega)).mono ?_
    rintro e w3 ⟨rfl, B3, W3⟩
    clear W2 B2
    go_wp2_with fail
    refine (cmon_any m1 m2 w3).mono ?_
    rintro e wx ⟨TM, rfl, sTM, HTM, rfl⟩
    go_wp2_with fail
    refine (put_text HTM.out W3 B3 (by simp only [List.length_append, List.length_cons, List.length_nil]; omega) (by omega)).mono ?_
    rintro e w4 ⟨rfl, B4, W4⟩
    clear W3 B3
    go_wp2_with fail
    refine (put_byte (c := 45) rfl W4 B4 (by simp only [List.length_append, len_mon, List.length_cons, List.length_nil]; omega)).mono ?_
    rintro e w5 ⟨rfl, B5, W5⟩
    clear W4 B4
    go_wp2_with fail
    refine (cpad_four (by omega) (by omega) w5 (hE.next W5)).mono ?_
    rintro e wx ⟨TY, rfl, sTY, HTY, hb⟩
    have Wx := W5.trans (hb.mono W5.size)
    have Bx := B5.below hb
    clear hb W5 B5
    go_wp2_with fail
    refine (put_text HTY.out Wx Bx (by simp only [List.length_append, len_mon, List.length_cons, List.length_nil]; omega) (by omega)).mono ?_
    rintro e w6 ⟨rfl, B6, W6⟩
    clear Wx Bx
    go_wp2_with fail
    refine (put_byte (c := 32) rfl W6 B6 (by simp only [List.length_append, len_four, len_mon, List.length_cons, List.length_nil]; omega)).mono ?_
    rintro e w7 ⟨rfl, B7, W7⟩
    clear W6 B6
    go_wp2_with fail
    refine (cclock_any w hE w.heap.size _ (by simp only [List.length_append, len_four, len_mon, List.length_cons, List.length_nil]; omega) H I S t1 t2 t3 w7 W7 B7).mono ?_
    rintro e w8 ⟨rfl, B8, W8⟩
    clear W7 B7
    go_wp2_with fail
    refine (put_text (s := ⟨#[32, 43, 48, 48, 48, 48]⟩) (t := [32, 43, 48, 48, 48, 48]) rfl W8 B8 (by simp only [List.length_append, len_two, len_four, len_mon, List.length_cons, List.length_nil]; omega) (by decide)).mono ?_
    rintro e w9 ⟨rfl, B9, W9⟩
    clear W8 B8
    rw [imap_out HL.out] at B9
    go_wp2_with fail
    refine (Tryd.Builder_String_any w.heap.size w.heap.size _ _ B9.isB W9.size).mono ?_
    rintro e w10 ⟨rfl, hb⟩
    go_wp2
    go_ret
    exact ⟨rfl, W9.trans hb⟩
  · go_wp2_with fail
    refine (cdig_any d2 w1 (hE.next W1)).mono ?_
    rintro e wx ⟨TD, rfl, sTD, HTD, hb⟩
    have Wx := W1.trans (hb.mono W1.size)
    have Bx := B1.below hb
    clear hb W1 B1
    go_wp2_with fail
    refine (put_text HTD.out Wx Bx (by decide) (by omega)).mono ?_
    rintro e w2 ⟨rfl, B2, W2⟩
    clear Wx Bx
    obtain ⟨L, hL⟩ : ∃ L, [] ++ (if D < 10 then [dg (D % 10)] else two D) = L := ⟨_, rfl⟩
    rw [hL] at B2
    have hl2 : L.length = 2 := by rw [← hL, if_neg (by omega)]; rfl
    have HL := Lib.hid (show L = [day1 D, dg (D % 10)] by rw [← hL, if_neg (by omega), day1, if_neg (by omega)]; rfl)
    clear hL
    go_wp2_with fail
    refine (put_byte (c := 45) rfl W2 B2 (by omega)).mono ?_
    rintro e w3 ⟨rfl, B3, W3⟩
    clear W2 B2
    go_wp2_with fail
    refine (cmon_any m1 m2 w3).mono ?_
    rintro e wx ⟨TM, rfl, sTM, HTM, rfl⟩
    go_wp2_with fail
    refine (put_text HTM.out W3 B3 (by simp only [List.length_append, List.length_cons, List.length_nil]; omega) (by omega)).mono ?_
    rintro e w4 ⟨rfl, B4, W4⟩
    clear W3 B3
    go_wp2_with fail
    refine (put_byte (c := 45) rfl W4 B4 (by simp only [List.length_append, len_mon, List.length_cons, List.length_nil]; omega)).mono ?_
    rintro e w5 ⟨rfl, B5, W5⟩
    clear W4 B4
    go_wp2_with fail
    refine (cpad_four (by omega) (by omega) w5 (hE.next W5)).mono ?_
    rintro e wx ⟨TY, rfl, sTY, HTY, hb⟩
    have Wx := W5.trans (hb.mono W5.size)
    have Bx := B5.below hb
    clear hb W5 B5
    go_wp2_with fail
    refine (put_text HTY.out Wx Bx (by simp only [List.length_append, len_mon, List.length_cons, List.length_nil]; omega) (by omega)).mono ?_
    rintro e w6 ⟨rfl, B6, W6⟩
    clear Wx Bx
    go_wp2_with fail
    refine (put_byte (c := 32) rfl W6 B6 (by simp only [List.length_append, len_four, len_mon, List.length_cons, List.length_nil]; omega)).mono ?_
    rintro e w7 ⟨rfl, B7, W7⟩
    clear W6 B6
    go_wp2_with fail
    refine (cclock_any w hE w.heap.size _ (by simp only [List.length_append, len_four, len_mon, List.length_cons, List.length_nil]; omega) H I S t1 t2 t3 w7 W7 B7).mono ?_
    rintro e w8 ⟨rfl, B8, W8⟩
    clear W7 B7
    go_wp2_with fail
    refine (put_text (s := ⟨#[32, 43, 48, 48, 48, 48]⟩) (t := [32, 43, 48, 48, 48, 48]) rfl W8 B8 (by simp only [List.length_append, len_two, len_four, len_mon, List.length_cons, List.length_nil]; omega) (by decide)).mono ?_
    rintro e w9 ⟨rfl, B9, W9⟩
    clear W8 B8
    rw [imap_out HL.out] at B9
    go_wp2_with fail
    refine (Tryd.Builder_String_any w.heap.size w.heap.size _ _ B9.isB W9.size).mono ?_
    rintro e w10 ⟨rfl, hb⟩
    go_wp2
    go_ret
    exact ⟨rfl, W9.trans hb⟩
set_option maxHeartbeats 2000000 in
set_option maxRecDepth 100000 in
theorem rfc_any (x : Int) (h0 : -9223372036854775808 ≤ x) (h1 : x ≤ 9223372036854775807) (w : World) (hE : Env w) :
    Calls Tryd.prog 15 #[.int .i64 x] w fun e w' => e = .returned (.string ⟨(rfcL (clamp x)).toArray⟩) ∧ Below w.heap.size w w' := by
  obtain ⟨Y, M, D, H, I, S, hc, hi, hr, y1, y2, m1, m2, d1, d2, t1, t2, t3⟩ := civ_parts (clamp_le x)
  rw [hr]
  have hcall := civ_same x h0 h1 w hE
  rw [hc] at hcall
  clear hc hi hr
  go_enter Tryd.func15, Tryd.ntmps15
  go_wp2_with fail
  refine hcall.mono ?_
  rintro e w1 ⟨rfl, rfl⟩
  clear hcall
  go_wp2_with fail
  refine (own_grow w 20 (by decide)).mono ?_
  rintro e w1 ⟨rfl, B1, W1⟩
  go_wp2_with fail
  refine (cpad_four (by omega) (by omega) w1 (hE.next W1)).mono ?_
  rintro e wx ⟨TY, rfl, sTY, HTY, hb⟩
  have Wx := W1.trans (hb.mono W1.size)
  have Bx := B1.below hb
  clear hb W1 B1
  go_wp2_with fail
  refine (put_text HTY.out Wx Bx (by decide) (by omega)).mono ?_
  rintro e w2 ⟨rfl, B2, W2⟩
  clear Wx Bx
  go_wp2_with fail
  refine (put_byte (c := 45) rfl W2 B2 (by simp only [List.length_append, len_four, List.length_nil]; omega)).mono ?_
  rintro e w3 ⟨rfl, B3, W3⟩
  clear W2 B2
  go_wp2_with fail
  refine (cpad_two (by omega) w3 (hE.next W3)).mono ?_
  rintro e wx ⟨TM, rfl, sTM, HTM, hb⟩
  have Wx := W3.trans (hb.mono W3.size)
  have Bx := B3.below hb
  clear hb W3 B3
  go_wp2_with fail
  refine (put_text HTM.out Wx Bx (by simp only [List.length_append, len_four, List.length_cons, List.length_nil]; omega) (by omega)).mono ?_
  rintro e w4 ⟨rfl, B4, W4⟩
  clear Wx Bx
  go_wp2_with fail
  refine (put_byte (c := 45) rfl W4 B4 (by simp only [List.length_append, len_two, len_four, List.length_cons, List.length_nil]; omega)).mono ?_
  rintro e w5 ⟨rfl, B5, W5⟩
  clear W4 B4
  go_wp2_with fail
  refine (cpad_two (by omega) w5 (hE.next W5)).mono ?_
  rintro e wx ⟨TD, rfl, sTD, HTD, hb⟩
  have Wx := W5.trans (hb.mono W5.size)
  have Bx := B5.below hb
  clear hb W5 B5
  go_wp2_with fail
  refine (put_text HTD.out Wx Bx (by simp only [List.length_append, len_two, len_four, List.length_cons, List.length_nil]; omega) (by omega)).mono ?_
  rintro e w6 ⟨rfl, B6, W6⟩
  clear Wx Bx
  go_wp2_with fail
  refine (put_byte (c := 84) rfl W6 B6 (by simp only [List.length_append, len_two, len_four, List.length_cons, List.length_nil]; omega)).mono ?_
  rintro e w7 ⟨rfl, B7, W7⟩
  clear W6 B6
  go_wp2_with fail
  refine (cclock_any w hE w.heap.size _ (by simp only [List.length_append, len_two, len_four, List.length_cons, List.length_nil]; omega) H I S t1 t2 t3 w7 W7 B7).mono ?_
  rintro e w8 ⟨rfl, B8, W8⟩
  clear W7 B7
  go_wp2_with fail
  refine (put_byte (c := 90) rfl W8 B8 (by simp only [List.length_append, len_two, len_four, List.length_cons, List.length_nil]; omega)).mono ?_
  rintro e w9 ⟨rfl, B9, W9⟩
  clear W8 B8
  rw [rfc_out] at B9
  go_wp2_with fail
  refine (Tryd.Builder_String_any w.heap.size w.heap.size _ _ B9.isB W9.size).mono ?_
  rintro e w10 ⟨rfl, hb⟩
  go_wp2
  go_ret
  exact ⟨rfl, W9.trans hb⟩
end Go.Proofs.YtlhoellimldimaaDoor.D6
