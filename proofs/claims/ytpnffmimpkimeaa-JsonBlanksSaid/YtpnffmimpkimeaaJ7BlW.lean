/-
  The law JsonBlanks returns true, of any bytes, numbers and byte: the walk. Conditions: none.
-/
import Derived.Test.YtpnffmimpkimeaaJ7BlF
namespace Go.Proofs.Ytpnffmimpkimeaa.J7
open Go Go.RowKit Go.Joins Kit

set_option maxHeartbeats 4000000 in
set_option maxRecDepth 100000 in
theorem jsonBlanks_walk (l : List UInt8) (a : Option Addr) (n cap : Nat) (hn : l.length = n) (p q c : Int) (pl : 0 ≤ p) (ph : p ≤ 255) (ql : 0 ≤ q) (qh : q ≤ 255) (cl : 0 ≤ c) (ch : c ≤ 255) (w : World) (hb : BytesAt w (.slice a n cap) l) :
    Calls Try.prog 4 #[.slice a n cap, .int .u8 p, .int .u8 q, .int .u8 c] w fun e w' => e = .returned (.bool true) ∧ Below w.heap.size w w' := by
  by_cases hg : (3000 : Int) < n
  · clear hb hn
    go_enter Try.func4, Try.ntmps4
    go_wp2_with fail
    refine (awake_any _).mono ?_
    rintro e' w9 ⟨rfl, hb9⟩
    go_wp2_with fail
    go_ret
    exact ⟨rfl, hb9⟩
  obtain ⟨k, hk⟩ : ∃ k : Nat, p % 9 = (k : Int) := ⟨(p % 9).toNat, by omega⟩
  obtain ⟨m, hm⟩ : ∃ m : Nat, q % 9 = (m : Int) := ⟨(q % 9).toNat, by omega⟩
  have hk8 : (k : Int) ≤ 8 := by omega
  have hm8 : (m : Int) ≤ 8 := by omega
  obtain ⟨vA, wA, hconv, hr0, hbA⟩ := Apm.rowM_conv ((ByteArray.mk #[32, 9, 10, 13, 32, 10, 9, 13]).extract 0 k) w
  have hAd := bs8_take k (by omega)
  have hBd := bs8_take m (by omega)
  have hAl := bs8_len k
  have hBl := bs8_len m
  have hBs : ((ByteArray.mk #[32, 9, 10, 13, 32, 10, 9, 13]).extract 0 m).size ≤ 8 := by rw [Lib.size_eq, hBd]; exact hBl
  have hBA := bs8_bl k
  have hBB := bs8_bl m
  rw [hAd] at hr0
  obtain ⟨A, hA⟩ : ∃ A, bs8.take k = A := ⟨_, rfl⟩
  obtain ⟨B, hB⟩ : ∃ B, bs8.take m = B := ⟨_, rfl⟩
  rw [hA] at hr0 hAl hBA
  rw [hB] at hBd hBl hBB
  obtain ⟨O, hO⟩ : ∃ O, parseG numC l = O := ⟨_, rfl⟩
  have hPB : parseG numC (A ++ l ++ B) = O := by rw [← hO]; exact parse_blanks l hBA hBB (by rw [List.length_append, List.length_append]; omega)
  have HPB := Lib.hid hPB
  have hcode := code_one l
  have hsame1 := same_one l
  rw [hO] at hcode hsame1
  have HCODE := Lib.hid hcode
  have HSAME := Lib.hid hsame1
  have HO := Lib.hid hO
  obtain ⟨K, hK⟩ : ∃ K, (jO O).kind = K := ⟨_, rfl⟩
  obtain ⟨C, hC⟩ : ∃ C, cO O = C := ⟨_, rfl⟩
  have HK := Lib.hid hK
  have HC := Lib.hid hC
  have R1 : Hid (A.length + l.length ≤ 140737488355328) := Lib.hid (by omega)
  have R2 : Hid ((A ++ l).length + ((ByteArray.mk #[32, 9, 10, 13, 32, 10, 9, 13]).extract 0 m).size ≤ 140737488355328) := Lib.hid (by rw [List.length_append]; omega)
  have HN : Hid (l.length ≤ 3000) := Lib.hid (by omega)
  have HB := Lib.hid hb
  have hB1 : Apm.BufM w vA A wA := ⟨hr0, hbA⟩
  have HBT : Hid (bs8.take m = B) := Lib.hid hB
  clear hb hn hA hB hAd hBd hAl hBl hBs hBA hBB hr0 hO hPB hcode hsame1 hK hC
  go_enter Try.func4, Try.ntmps4
  go_wp2_with (at_builtin; refine Apm.BufM.step rfl _ _ rfl hB1 _ l (at_of (HB.out.below hbA)) rfl rfl R1.out ?_)
  intro v2 w2 hB2
  clear hconv
  go_wp2_with (at_builtin; refine Apm.BufM.step_text rfl _ _ rfl hB2 _ rfl rfl R2.out ?_)
  intro v3 w3 hB3
  have hB3 : Apm.BufM w v3 (A ++ l ++ B) w3 := by rw [List.append_assoc, ← HBT.out]; exact hB3
  have hb3 : Below w.heap.size w w3 := hB3.below
  have hp1 := parse_any l _ w3 (HB.out.below hb3)
  rw [HO.out] at hp1
  clear hB1 hB2 hbA
  go_wp2_with fail
  refine hp1.mono ?_
  intro e' w4 hL
  obtain ⟨hb34, x1, x2, a3, l3, m3, a4, l4, m4, he, hn4⟩ := parse_one hL
  rw [HK.out, HC.out] at he
  rw [HK.out] at hn4
  subst he
  obtain ⟨w5, hw5⟩ : ∃ w5, w4.alloc (.cells #[.int .i64 K, .int .i64 x1, .string x2, .slice a3 l3 m3, .slice a4 l4 m4] 27) = w5 := ⟨_, rfl⟩
  have hb45 : Below w4.heap.size w4 w5 := by rw [← hw5]; exact (Below.refl _ w4).alloc (Nat.le_refl _) _
  have hb35 : Below w3.heap.size w3 w5 := hb34.trans (hb45.mono hb34.size)
  have hb5 : Below w.heap.size w w5 := hb3.trans (hb35.mono hb3.size)
  have hA : Bx w4.heap.size (.int .i64 K) (.int .i64 x1) (.string x2) (.slice a3 l3 m3) (.slice a4 l4 m4) w5 := by rw [← hw5]; exact Bx.made w4 _ _ _ _ _
  have hn5 := hn4.keep (kept_below hb45)
  have HW5 := Lib.hid hw5
  obtain ⟨Gn, hGn⟩ : ∃ Gn, w4.heap.size = Gn := ⟨_, rfl⟩
  rw [hGn] at hA
  have hGl := hA.lt
  have hp2 := parse_any (A ++ l ++ B) v3 w5 (of_at (hB3.next hb35).own.cells)
  rw [HPB.out] at hp2
  clear hL hp1 hw5 hn4
  go_upto_region 7 with fail
  rw [HW5.out]
  (try rw [hGn])
  go_wp2_with fail
  refine hp2.mono ?_
  intro e' w6 hL
  obtain ⟨hb56, y1, y2, a5, l5, m5, a6, l6, m6, he, hn6⟩ := parse_one hL
  rw [HK.out, HC.out] at he
  rw [HK.out] at hn6
  subst he
  obtain ⟨w7, hw7⟩ : ∃ w7, w6.alloc (.cells #[.int .i64 K, .int .i64 y1, .string y2, .slice a5 l5 m5, .slice a6 l6 m6] 27) = w7 := ⟨_, rfl⟩
  have hb67 : Below w6.heap.size w6 w7 := by rw [← hw7]; exact (Below.refl _ w6).alloc (Nat.le_refl _) _
  have hb57 : Below w5.heap.size w5 w7 := hb56.trans (hb67.mono hb56.size)
  have hb7 : Below w.heap.size w w7 := hb5.trans (hb57.mono hb5.size)
  have hA7 : Bx Gn (.int .i64 K) (.int .i64 x1) (.string x2) (.slice a3 l3 m3) (.slice a4 l4 m4) w7 := hA.same (hb57.block Gn hGl)
  have hB7 : Bx w6.heap.size (.int .i64 K) (.int .i64 y1) (.string y2) (.slice a5 l5 m5) (.slice a6 l6 m6) w7 := by rw [← hw7]; exact Bx.made w6 _ _ _ _ _
  have hsame := HSAME.out _ _ w7 _ _ _ _ _ _ _ _ _ _ (hn5.keep (kept_below hb57)) (hn6.keep (kept_below hb67))
  have HW7 := Lib.hid hw7
  obtain ⟨Gm, hGm⟩ : ∃ Gm, w6.heap.size = Gm := ⟨_, rfl⟩
  rw [hGm] at hB7
  have p0 := hA7.p0
  have p1 := hA7.p1
  have p2 := hA7.p2
  have p3 := hA7.p3
  have p4 := hA7.p4
  have q0 := hB7.p0
  have q1 := hB7.p1
  have q2 := hB7.p2
  have q3 := hB7.p3
  have q4 := hB7.p4
  have hAlt := hA7.lt
  clear hL hp2 hw7 hn6 hn5 hb34 hb45 hb35 hb56 hb67 hb57 hB3 hA
  go_upto_region 8 with fail
  rw [HW7.out]
  (try rw [hGm])
  go_wp2_with fail
  refine hsame.mono ?_
  rintro e' w8 ⟨rfl, hb78⟩
  have hb8 : Below w.heap.size w w8 := hb7.trans (hb78.mono hb7.size)
  have hA8 : Bx Gn (.int .i64 K) (.int .i64 x1) (.string x2) (.slice a3 l3 m3) (.slice a4 l4 m4) w8 := hA7.same (hb78.block Gn hAlt)
  have r0 := hA8.p0
  clear p0 p1 p2 p3 p4 q0 q1 q2 q3 q4 hsame hA7 hB7 hb7 hb78 hb5 hb3
  have hend : ∀ w9, Below w8.heap.size w8 w9 → Below w.heap.size w w9 := fun w9 h => hb8.trans (h.mono hb8.size)
  have HEND := Lib.hid hend
  obtain ⟨c8, hc8⟩ : ∃ c8 : UInt8, c = (c8.toNat : Int) := ⟨UInt8.ofNat c.toNat, by show c = ((c.toNat % 256 : Nat) : Int); omega⟩
  have HC8 := Lib.hid hc8
  cases hbk : blank c8 with
  | true =>
    have hc4 : c = 32 ∨ c = 9 ∨ c = 10 ∨ c = 13 := by rcases blank_cases hbk with rfl | rfl | rfl | rfl <;> simp [hc8]
    clear hc8 hend
    rcases hc4 with rfl | rfl | rfl | rfl
    all_goals
      go_wp2_with fail
      refine (awake_any _).mono ?_
      rintro e' w9 ⟨rfl, hb9⟩
      go_wp2_with fail
      go_ret
      exact ⟨rfl, HEND.out _ hb9⟩
  | false =>
    obtain ⟨n1, n2, n3, n4⟩ := blank_byte hbk
    rw [← hc8] at n1 n2 n3 n4
    have HBK := Lib.hid hbk
    clear hc8 hend hbk
    have g1 : (c == 32) = false := by rw [beq_eq_false_iff_ne]; exact n1
    have g2 : (c == 9) = false := by rw [beq_eq_false_iff_ne]; exact n2
    have g3 : (c == 10) = false := by rw [beq_eq_false_iff_ne]; exact n3
    have g4 : (c == 13) = false := by rw [beq_eq_false_iff_ne]; exact n4
    by_cases hC0 : C = 0
    · subst hC0
      obtain ⟨j, hj⟩ := HCODE.out.1 HC.out
      by_cases hK4 : K = 4
      · subst hK4
        clear hj
        go_wp2_with fail
        refine (L3.num_any 0 _).mono ?_
        rintro e' w9 ⟨rfl, rfl⟩
        go_wp2_with fail
        refine (awake_any _).mono ?_
        rintro e' w9 ⟨rfl, hb9⟩
        go_wp2_with fail
        go_ret
        exact ⟨rfl, HEND.out _ hb9⟩
      · have g5 : (K == 4) = false := by rw [beq_eq_false_iff_ne]; exact hK4
        have hPO : parseG numC (l ++ [c8]) = .error 3 := by
          refine parse_other (j := j) (by rw [HO.out]; exact hj) ?_ HBK.out (by have := HN.out; omega)
          have := HK.out
          rw [hj] at this
          show j.kind ≠ 4
          rw [show j.kind = K from this]
          exact hK4
        have HPO := Lib.hid hPO
        have R3 : Hid (([] : List UInt8).length + l.length ≤ 140737488355328) := Lib.hid (by have := HN.out; show 0 + l.length ≤ _; omega)
        have R4 : Hid ((([] : List UInt8) ++ l).length + [c8].length ≤ 140737488355328) := Lib.hid (by have := HN.out; show l.length + 1 ≤ _; omega)
        have hE : Apm.BufM w8 (.slice (some ⟨w8.heap.size, 0, none⟩) 0 0) [] (w8.alloc (.cells #[] 5)) := ⟨Apm.rowM_empty w8, (Below.refl _ w8).alloc (Nat.le_refl _) _⟩
        clear hj hPO
        go_wp2_with fail
        refine (L3.num_any 0 _).mono ?_
        rintro e' w9 ⟨rfl, rfl⟩
        have hlE := HB.out.below (HEND.out _ hE.below)
        go_wp2_with (at_builtin; refine Apm.BufM.step rfl _ _ rfl hE _ l (at_of hlE) rfl rfl R3.out ?_)
        intro v9 w9 hB9
        have hlit : Apm.At (w9.alloc (.cells #[.int .u8 c] 5)) (.slice (some ⟨w9.heap.size, 0, none⟩) 1 1) [c8] := by
          refine Or.inr ⟨_, 1, rfl, fun j hj => ?_⟩
          have : j = 0 := by simp at hj; omega
          subst this
          have e : (Value.int .u8 (([c8] : List UInt8)[0].toNat : Int)) = .int .u8 c := by rw [HC8.out]; rfl
          rw [e]
          simp [Addr.add]
        have hB9' := hB9.next ((Below.refl _ w9).alloc (Nat.le_refl _) (.cells #[.int .u8 c] 5))
        go_wp2_with (at_builtin; refine Apm.BufM.step rfl _ _ rfl hB9' _ [c8] hlit rfl rfl R4.out ?_)
        intro v10 w10 hB10
        have hb10 := HEND.out _ hB10.below
        have hp3 := parse_any (([] ++ l) ++ [c8]) v10 w10 (of_at hB10.own.cells)
        rw [List.nil_append, HPO.out] at hp3
        clear hE hlE hB9 hlit hB9'
        go_wp2_with fail
        refine hp3.mono ?_
        intro e' w11 hL
        obtain ⟨hb11, z0, z1, z2, a7, l7, m7, a8, l8, m8, c, rfl, rfl, -⟩ := parse_forms hL
        have hb12 := (hb10.trans (hb11.mono hb10.size)).alloc (by have := hb10.size; have := hb11.size; omega) (.cells #[.int .i64 z0, .int .i64 z1, .string z2, .slice a7 l7 m7, .slice a8 l8 m8] 27)
        clear hL hp3
        go_wp2_with fail
        refine (L3.num_any 3 _).mono ?_
        rintro e' w13 ⟨rfl, rfl⟩
        go_wp2_with fail
        refine (awake_any _).mono ?_
        rintro e' w14 ⟨rfl, hb14⟩
        go_wp2_with fail
        go_ret
        exact ⟨rfl, hb12.trans (hb14.mono hb12.size)⟩
    · have g6 : ((C : Int) == 0) = false := by rw [beq_eq_false_iff_ne]; omega
      go_wp2_with fail
      refine (L3.num_any (C : Int) _).mono ?_
      rintro e' w9 ⟨rfl, rfl⟩
      go_wp2_with fail
      refine (awake_any _).mono ?_
      rintro e' w9 ⟨rfl, hb9⟩
      go_wp2_with fail
      go_ret
      exact ⟨rfl, HEND.out _ hb9⟩
end Go.Proofs.Ytpnffmimpkimeaa.J7
