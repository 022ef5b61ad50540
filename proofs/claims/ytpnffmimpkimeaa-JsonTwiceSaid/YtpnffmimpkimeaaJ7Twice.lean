/-
  The law JsonTwice returns true, of any texts: the walk. Conditions: none.
-/
import Derived.Test.YtpnffmimpkimeaaJ7TwicP
import Derived.Test.YtpnffmimpkimeaaJ7EscW
namespace Go.Proofs.Ytpnffmimpkimeaa.J7
open Go Go.RowKit Go.Joins Kit

theorem print_str (t : ByteArray) (ht : t.size ≤ 300) (hv : U8.validL t.data.toList = true) (w : World) :
    Calls Try.prog 17 #[.agg #[.int .i64 5, .int .i64 0, .string t, .slice none 0 0, .slice none 0 0]] w fun e w' => e = .returned (.tuple #[.string ⟨(quoteL t.data.toList).toArray⟩, .int .i64 0]) ∧ Below w.heap.size w w' := by
  have h := print_any (.mk 5 0 t [] []) (right_str t (by omega) hv 24) (by
    rw [put_str]
    have h1 := qL_length t.data.toList
    rw [Lib.size_eq] at ht
    unfold quoteL
    simp only [List.length_cons, List.length_append, List.length_nil]
    omega) (fun _ => True) w _ _ _ _ _ (node_plain _ _ 5 0 t)
  rw [put_str] at h
  exact h
theorem print_str_bad (t : ByteArray) (ht : t.size ≤ 300) (hv : U8.validL t.data.toList = false) (w : World) :
    Calls Try.prog 17 #[.agg #[.int .i64 5, .int .i64 0, .string t, .slice none 0 0, .slice none 0 0]] w fun e w' => e = .returned (.tuple #[.string ⟨#[]⟩, .int .i64 1]) ∧ Below w.heap.size w w' := by
  have h := rightAns_text t (by omega) w
  rw [hv] at h
  exact print_bad w 5 0 t none none 0 0 0 0 h
theorem quote_size (t : ByteArray) (ht : t.size ≤ 300) : ((ByteArray.mk (quoteL t.data.toList).toArray).size : Int) ≤ 1802 := by
  have h1 := qL_length t.data.toList
  rw [Lib.size_eq] at ht ⊢
  unfold quoteL
  simp only [List.length_cons, List.length_append, List.length_nil]
  omega

set_option maxHeartbeats 2000000 in
set_option maxRecDepth 100000 in
theorem jsonTwice_walk (a b : ByteArray) (w : World) :
    Calls Try.prog 8 #[.string a, .string b] w fun e w' => e = .returned (.bool true) ∧ Below w.heap.size w w' := by
  by_cases hla : (300 : Int) < a.size
  · go_enter Try.func8, Try.ntmps8
    go_wp2_with fail
    refine (awake_any _).mono ?_
    rintro e' w9 ⟨rfl, hb9⟩
    go_wp2_with fail
    go_ret
    exact ⟨rfl, hb9⟩
  by_cases hlb : (300 : Int) < b.size
  · go_enter Try.func8, Try.ntmps8
    go_wp2_with fail
    refine (awake_any _).mono ?_
    rintro e' w9 ⟨rfl, hb9⟩
    go_wp2_with fail
    go_ret
    exact ⟨rfl, hb9⟩
  have la : a.size ≤ 300 := by omega
  have lb : b.size ≤ 300 := by omega
  have HLA := Lib.hid la
  have HLB := Lib.hid lb
  have gla : (a.size : Int) ≤ 300 := by omega
  have glb : (b.size : Int) ≤ 300 := by omega
  clear la lb hla hlb
  cases hva : U8.validL a.data.toList with
  | false =>
    have h1 := print_str_bad a HLA.out hva w
    clear hva
    cases hvb : U8.validL b.data.toList with
    | false =>
      have h2 := fun w1 => print_str_bad b HLB.out hvb w1
      clear hvb
      go_enter Try.func8, Try.ntmps8
      go_wp2_with fail
      refine h1.mono ?_
      rintro e w1 ⟨rfl, hb1⟩
      go_wp2_with fail
      refine (h2 w1).mono ?_
      rintro e w2 ⟨rfl, hb2⟩
      have hb3 := hb1.trans (hb2.mono hb1.size)
      go_wp2_with fail
      refine (awake_any _).mono ?_
      rintro e' w9 ⟨rfl, hb9⟩
      go_wp2_with fail
      go_ret
      exact ⟨rfl, hb3.trans (hb9.mono hb3.size)⟩
    | true =>
      have h2 := fun w1 => print_str b HLB.out hvb w1
      clear hvb
      go_enter Try.func8, Try.ntmps8
      go_wp2_with fail
      refine h1.mono ?_
      rintro e w1 ⟨rfl, hb1⟩
      go_wp2_with fail
      refine (h2 w1).mono ?_
      rintro e w2 ⟨rfl, hb2⟩
      have hb3 := hb1.trans (hb2.mono hb1.size)
      go_wp2_with fail
      refine (awake_any _).mono ?_
      rintro e' w9 ⟨rfl, hb9⟩
      go_wp2_with fail
      go_ret
      exact ⟨rfl, hb3.trans (hb9.mono hb3.size)⟩
  | true =>
    have h1 := print_str a HLA.out hva w
    cases hvb : U8.validL b.data.toList with
    | false =>
      have h2 := fun w1 => print_str_bad b HLB.out hvb w1
      clear hva hvb
      go_enter Try.func8, Try.ntmps8
      go_wp2_with fail
      refine h1.mono ?_
      rintro e w1 ⟨rfl, hb1⟩
      go_wp2_with fail
      refine (h2 w1).mono ?_
      rintro e w2 ⟨rfl, hb2⟩
      have hb3 := hb1.trans (hb2.mono hb1.size)
      go_wp2_with fail
      refine (awake_any _).mono ?_
      rintro e' w9 ⟨rfl, hb9⟩
      go_wp2_with fail
      go_ret
      exact ⟨rfl, hb3.trans (hb9.mono hb3.size)⟩
    | true =>
      have h2 := fun w1 => print_str b HLB.out hvb w1
      have hsa := quote_size a HLA.out
      have hsb := quote_size b HLB.out
      obtain ⟨S1, hS1⟩ : ∃ S : ByteArray, ⟨(quoteL a.data.toList).toArray⟩ = S := ⟨_, rfl⟩
      obtain ⟨S2, hS2⟩ : ∃ S : ByteArray, ⟨(quoteL b.data.toList).toArray⟩ = S := ⟨_, rfl⟩
      rw [hS1] at h1 hsa
      rw [hS2] at h2 hsb
      have d1 : S1.data.toList = 34 :: (qL a.data.toList ++ [34]) := by rw [← hS1]; rfl
      have d2 : S2.data.toList = 34 :: (qL b.data.toList ++ [34]) := by rw [← hS2]; rfl
      have la : a.data.toList.length ≤ 300 := by rw [← Lib.size_eq]; exact HLA.out
      have lb : b.data.toList.length ≤ 300 := by rw [← Lib.size_eq]; exact HLB.out
      obtain ⟨tw1, tw2⟩ := two_parse _ _ hva hvb la lb
      obtain ⟨j2, ap⟩ := apart_parse _ _ hva hvb la lb
      have hT1 : ((((ByteArray.mk #[123] ++ S1) ++ ByteArray.mk #[58, 49, 44]) ++ S2) ++ ByteArray.mk #[58, 50, 125]).data.toList = twoL a.data.toList b.data.toList := by
        rw [cat_bS (cat_bS (cat_bS (cat_bS (a := ByteArray.mk #[123]) (l := [123]) rfl d1) (b := ByteArray.mk #[58, 49, 44]) (m := [58, 49, 44]) rfl) d2) (b := ByteArray.mk #[58, 50, 125]) (m := [58, 50, 125]) rfl]
        unfold twoL
        simp
      have hT2 : ((((ByteArray.mk #[91, 123] ++ S1) ++ ByteArray.mk #[58, 49, 125, 44, 123]) ++ S2) ++ ByteArray.mk #[58, 50, 125, 93]).data.toList = apartL a.data.toList b.data.toList := by
        rw [cat_bS (cat_bS (cat_bS (cat_bS (a := ByteArray.mk #[91, 123]) (l := [91, 123]) rfl d1) (b := ByteArray.mk #[58, 49, 125, 44, 123]) (m := [58, 49, 125, 44, 123]) rfl) d2) (b := ByteArray.mk #[58, 50, 125, 93]) (m := [58, 50, 125, 93]) rfl]
        unfold apartL
        simp
      have HT1 := Lib.hid hT1
      have HT2 := Lib.hid hT2
      have AP := Lib.hid ap
      clear hva hvb d1 d2 la lb hT1 hT2 ap hS1 hS2
      by_cases heq : a = b
      · have TW := Lib.hid (tw1 (by rw [heq]))
        have q1 : (a.toList == b.toList) = true := by rw [heq]; simp
        clear tw1 tw2 heq
        go_enter Try.func8, Try.ntmps8
        go_wp2_with fail
        refine h1.mono ?_
        rintro e w1 ⟨rfl, hb1⟩
        go_wp2_with fail
        refine (h2 w1).mono ?_
        rintro e w2 ⟨rfl, hb2⟩
        have hb3 := hb1.trans (hb2.mono hb1.size)
        clear h1 h2 hb1 hb2
        obtain ⟨N1, cap, gg1, w4, hconv, hby, hb4⟩ := conv_text _ _ HT1.out w2
        have hp := parse_any _ _ w4 hby
        rw [TW.out] at hp
        clear hby
        go_wp2_with fail
        refine hp.mono ?_
        intro e' w5 hL
        obtain ⟨hb5, x0, x1, x2, a3, l3, m3, a4, l4, m4, c, rfl, rfl, -⟩ := parse_forms hL
        have hb6 := (hb3.trans ((hb4.trans (hb5.mono hb4.size)).mono hb3.size)).alloc (by have := hb3.size; have := hb4.size; have := hb5.size; omega) (.cells #[.int .i64 x0, .int .i64 x1, .string x2, .slice a3 l3 m3, .slice a4 l4 m4] 27)
        obtain ⟨N2, cap2, gg2, w7, hconv2, hby2, hb7⟩ := conv_text _ _ HT2.out (w5.alloc (.cells #[.int .i64 x0, .int .i64 x1, .string x2, .slice a3 l3 m3, .slice a4 l4 m4] 27))
        have hp2 := parse_any _ _ w7 hby2
        rw [AP.out] at hp2
        clear hby2 hp hL hconv
        go_wp2_with fail
        refine hp2.mono ?_
        intro e' w8 hL
        obtain ⟨hb8, y0, y1, y2, a5, l5, m5, a6, l6, m6, c, rfl, rfl, -⟩ := parse_forms hL
        have hb9 := (hb6.trans ((hb7.trans (hb8.mono hb7.size)).mono hb6.size)).alloc (by have := hb6.size; have := hb7.size; have := hb8.size; omega) (.cells #[.int .i64 y0, .int .i64 y1, .string y2, .slice a5 l5 m5, .slice a6 l6 m6] 27)
        clear hL hp2 hconv2
        go_wp2_with fail
        refine (L3.num_any 5 _).mono ?_
        rintro e' w10 ⟨rfl, rfl⟩
        go_wp2_with fail
        refine (L3.num_any 0 _).mono ?_
        rintro e' w11 ⟨rfl, rfl⟩
        go_wp2_with fail
        refine (awake_any _).mono ?_
        rintro e' w12 ⟨rfl, hb12⟩
        go_wp2_with fail
        go_ret
        exact ⟨rfl, hb9.trans (hb12.mono hb9.size)⟩
      · obtain ⟨j1, tw⟩ := tw2 (fun e => heq (Kit.bytes_ext e))
        have TW := Lib.hid tw
        have q1 : (a.toList == b.toList) = false := by
          rw [beq_eq_false_iff_ne, Lib.toList_data, Lib.toList_data]
          exact fun e => heq (Kit.bytes_ext e)
        clear tw1 tw2 heq tw
        go_enter Try.func8, Try.ntmps8
        go_wp2_with fail
        refine h1.mono ?_
        rintro e w1 ⟨rfl, hb1⟩
        go_wp2_with fail
        refine (h2 w1).mono ?_
        rintro e w2 ⟨rfl, hb2⟩
        have hb3 := hb1.trans (hb2.mono hb1.size)
        clear h1 h2 hb1 hb2
        obtain ⟨N1, cap, gg1, w4, hconv, hby, hb4⟩ := conv_text _ _ HT1.out w2
        have hp := parse_any _ _ w4 hby
        rw [TW.out] at hp
        clear hby
        go_wp2_with fail
        refine hp.mono ?_
        intro e' w5 hL
        obtain ⟨hb5, x0, x1, x2, a3, l3, m3, a4, l4, m4, c, rfl, rfl, -⟩ := parse_forms hL
        have hb6 := (hb3.trans ((hb4.trans (hb5.mono hb4.size)).mono hb3.size)).alloc (by have := hb3.size; have := hb4.size; have := hb5.size; omega) (.cells #[.int .i64 x0, .int .i64 x1, .string x2, .slice a3 l3 m3, .slice a4 l4 m4] 27)
        obtain ⟨N2, cap2, gg2, w7, hconv2, hby2, hb7⟩ := conv_text _ _ HT2.out (w5.alloc (.cells #[.int .i64 x0, .int .i64 x1, .string x2, .slice a3 l3 m3, .slice a4 l4 m4] 27))
        have hp2 := parse_any _ _ w7 hby2
        rw [AP.out] at hp2
        clear hby2 hp hL hconv
        go_wp2_with fail
        refine hp2.mono ?_
        intro e' w8 hL
        obtain ⟨hb8, y0, y1, y2, a5, l5, m5, a6, l6, m6, c, rfl, rfl, -⟩ := parse_forms hL
        have hb9 := (hb6.trans ((hb7.trans (hb8.mono hb7.size)).mono hb6.size)).alloc (by have := hb6.size; have := hb7.size; have := hb8.size; omega) (.cells #[.int .i64 y0, .int .i64 y1, .string y2, .slice a5 l5 m5, .slice a6 l6 m6] 27)
        clear hL hp2 hconv2
        go_wp2_with fail
        refine (L3.num_any 0 _).mono ?_
        rintro e' w10 ⟨rfl, rfl⟩
        go_wp2_with fail
        refine (L3.num_any 0 _).mono ?_
        rintro e' w11 ⟨rfl, rfl⟩
        go_wp2_with fail
        refine (L3.num_any 0 _).mono ?_
        rintro e' w11 ⟨rfl, rfl⟩
        go_wp2_with fail
        refine (awake_any _).mono ?_
        rintro e' w12 ⟨rfl, hb12⟩
        go_wp2_with fail
        go_ret
        exact ⟨rfl, hb9.trans (hb12.mono hb9.size)⟩
end Go.Proofs.Ytpnffmimpkimeaa.J7
