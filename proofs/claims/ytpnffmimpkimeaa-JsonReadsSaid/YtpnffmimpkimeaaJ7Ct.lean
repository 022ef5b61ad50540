/-
  The program's reader of JSON: texts and their escapes. Conditions: the text has at most 65536 bytes.
-/
import Derived.Test.YtpnffmimpkimeaaJ7Cw
import Derived.Test.YtpnffmimpkimeaaU8Get
import Derived.Test.YtpnffmimpkimeaaU8Put
import Derived.Test.YtpnffmimpkimeaaBldK
namespace Go.Proofs.Ytpnffmimpkimeaa.J7
open Go Go.RowKit Go.Joins Kit

def wordO (o : Option (List UInt8)) : Out Unit := match o with
  | some r => .ok ((), r)
  | none => .error 3
/-- The code point that an escape says. -/
def ptL (l : List UInt8) : Out Nat := match hexL l with
  | .error e => .error e
  | .ok (v, r) => if v < 55296 ∨ 57343 < v then .ok (v, r) else if 56320 ≤ v then .error 3 else match wordL [92, 117] r with
    | none => .error 3
    | some r1 => match hexL r1 with
      | .error e => .error e
      | .ok (w, r2) => if w < 56320 ∨ 57343 < w then .error 3 else .ok (65536 + (v - 55296) * 1024 + w - 56320, r2)
theorem hexF_le : ∀ {f v : Nat} {l r : List UInt8} {n : Nat}, hexF f v l = .ok (n, r) → n < (v + 1) * 16 ^ f
  | 0, v, l, r, n, h => by
    rw [hexF] at h
    obtain rfl := congrArg Prod.fst (Except.ok.inj h)
    simp
  | f + 1, v, [], r, n, h => by rw [hexF] at h; cases h
  | f + 1, v, c :: t, r, n, h => by
    rw [hexF] at h
    split at h
    · cases h
    · rename_i x hx
      have := hexF_le h
      have h15 := hx_le15 hx
      refine Nat.lt_of_lt_of_le this ?_
      rw [Nat.pow_succ, Nat.mul_comm (16 ^ f) 16, ← Nat.mul_assoc]
      exact Nat.mul_le_mul_right _ (by omega)
theorem hexL_le {l r : List UInt8} {n : Nat} (h : hexL l = .ok (n, r)) : n ≤ 65535 := by
  have := hexF_le (f := 4) h
  omega
theorem hexF_err : ∀ {f v : Nat} {l : List UInt8} {c : Nat}, hexF f v l = .error c → c = 3
  | 0, v, l, c, h => by rw [hexF] at h; cases h
  | f + 1, v, [], c, h => by rw [hexF] at h; cases h; rfl
  | f + 1, v, a :: t, c, h => by
    rw [hexF] at h
    split at h
    · cases h; rfl
    · exact hexF_err h
theorem unit_pt (l : List UInt8) : unitL l = match ptL l with
    | .error e => .error e
    | .ok (p, r) => .ok (U8.putL (p : Int), r) := by
  unfold unitL ptL
  cases hexL l with
  | error e => rfl
  | ok x =>
    obtain ⟨v, r⟩ := x
    simp only
    by_cases h1 : v < 55296 ∨ 57343 < v
    · rw [if_neg (by omega), if_neg (by omega), if_pos h1]
    · rw [if_neg h1]
      by_cases h2 : 56320 ≤ v
      · rw [if_neg (by omega), if_pos (by omega), if_pos h2]
      · rw [if_pos (by omega), if_neg h2]
        unfold lowL
        rw [wordL]
        cases eatL 92 r with
        | none => rfl
        | some r0 =>
          simp only
          rw [wordL]
          cases eatL 117 r0 with
          | none => rfl
          | some r1 =>
            simp only
            rw [wordL]
            simp only
            cases hexL r1 with
            | error e => rfl
            | ok y =>
              obtain ⟨w, r2⟩ := y
              simp only
              by_cases h3 : w < 56320 ∨ 57343 < w
              · rw [if_neg (by omega), if_pos h3]
              · rw [if_pos (by omega), if_neg h3]
                simp only
                rw [show 65536 + (v - 55296) * 1024 + (w - 56320) = 65536 + (v - 55296) * 1024 + w - 56320 by omega]

set_option maxHeartbeats 4000000 in
set_option maxRecDepth 100000 in
theorem point_any (R : Nat) (s : ByteArray) (i : Nat) (w : World) (h : Rc R s i w) (hs : s.size ≤ 65536) (hi : i ≤ s.size) :
    Calls Try.prog 58 #[.pointer (some ⟨R, 0, none⟩)] w fun e' w' => LeftC R s w (fun n : Nat => .int .i64 (n : Int)) (ptL (tail s i)) e' w' := by
  obtain ⟨O, hO⟩ : ∃ O, ptL (tail s i) = O := ⟨_, rfl⟩
  rw [hO]
  obtain ⟨o, ho⟩ : ∃ o, hexL (tail s i) = o := ⟨_, rfl⟩
  unfold ptL at hO
  rw [ho] at hO
  have hunit := unit_any R s i w h hs hi
  rw [ho] at hunit
  go_enter Try.func58, Try.ntmps58
  go_wp2_with fail
  refine hunit.mono ?_
  rintro e' w1 ⟨hs1, hL⟩
  match o, hL, hO, ho with
  | .error c, hL, hO, _ =>
    obtain rfl : e' = Errs c := hL
    have HE := Lib.hid (show O = .error c from hO.symm)
    clear hO
    go_wp2_with fail
    rw [HE.out]
    exact ⟨rfl, hs1, rfl⟩
  | .ok (v, r), hL, hO, ho =>
    obtain ⟨rfl, k, hk, rfl, hr1⟩ := hL
    have hv := hexL_le ho
    have hvb : (v : Int) ≤ 65535 := by omega
    simp only at hO
    rcases (show v < 55296 ∨ 57343 < v ∨ (55296 ≤ v ∧ v ≤ 57343) by omega) with g | g | ⟨g, g'⟩
    · have HE := Lib.hid (show O = .ok (v, tail s k) by rw [← hO, if_pos (Or.inl g)])
      have g1 : (v : Int) < 55296 := by omega
      clear hO ho g hv
      go_wp2_with fail
      go_ret
      rw [HE.out]
      exact ⟨hs1, rfl, k, hk, rfl, hr1⟩
    · have HE := Lib.hid (show O = .ok (v, tail s k) by rw [← hO, if_pos (Or.inr g)])
      have g1 : 57343 < (v : Int) := by omega
      clear hO ho g hv
      go_wp2_with fail
      go_ret
      rw [HE.out]
      exact ⟨hs1, rfl, k, hk, rfl, hr1⟩
    · rw [if_neg (by omega)] at hO
      have g0 : (55296 : Int) ≤ v := by omega
      have g1 : (v : Int) ≤ 57343 := by omega
      by_cases g2 : 56320 ≤ v
      · have HE := Lib.hid (show O = .error 3 by rw [← hO, if_pos g2])
        have g3 : (56320 : Int) ≤ v := by omega
        clear hO ho hv g g' g2
        go_wp2_with fail
        rw [HE.out]
        exact ⟨rfl, hs1, rfl⟩
      · rw [if_neg g2] at hO
        have g3 : decide ((56320 : Int) ≤ (v : Int)) = false := by rw [decide_eq_false_iff_not]; omega
        obtain ⟨o1, ho1⟩ : ∃ o1, wordL [92, 117] (tail s k) = o1 := ⟨_, rfl⟩
        rw [ho1] at hO
        have hw := fun w0 h0 => wantWord_any R s ⟨#[92, 117]⟩ k w0 h0 hs hk (by decide)
        have hwl : wantWordL (ByteArray.mk #[92, 117]).data.toList (tail s k) = wordO o1 := by rw [← ho1]; rfl
        rw [hwl] at hw
        have HO := Lib.hid hO
        clear hwl ho hv g g' g2 hO ho1
        go_wp2_with fail
        refine (hw _ hr1).mono ?_
        rintro e' w2 ⟨hs2, hL⟩
        have hO := HO.out
        have hst2 := hs1.trans hs2
        match o1, hL, hO with
        | none, hL, hO =>
          obtain rfl : e' = Errs 3 := hL
          have HE := Lib.hid (show O = .error 3 from hO.symm)
          clear hO hw
          go_wp2_with fail
          rw [HE.out]
          exact ⟨rfl, hst2, rfl⟩
        | some r, hL, hO =>
          obtain ⟨rfl, k2, hk2, rfl, hr2⟩ := hL
          simp only at hO
          obtain ⟨o2, ho2⟩ : ∃ o2, hexL (tail s k2) = o2 := ⟨_, rfl⟩
          rw [ho2] at hO
          have hunit2 := unit_any R s k2 w2 hr2 hs hk2
          rw [ho2] at hunit2
          have HO := Lib.hid hO
          clear hw hO
          go_wp2_with fail
          refine hunit2.mono ?_
          rintro e' w3 ⟨hs3, hL⟩
          have hO := HO.out
          have hst3 := hst2.trans hs3
          match o2, hL, hO, ho2 with
          | .error c, hL, hO, _ =>
            obtain rfl : e' = Errs c := hL
            have HE := Lib.hid (show O = .error c from hO.symm)
            clear hO
            go_wp2_with fail
            rw [HE.out]
            exact ⟨rfl, hst3, rfl⟩
          | .ok (x, r), hL, hO, ho2 =>
            obtain ⟨rfl, k3, hk3, rfl, hr3⟩ := hL
            have hx := hexL_le ho2
            have hxb : (x : Int) ≤ 65535 := by omega
            simp only at hO
            rcases (show x < 56320 ∨ 57343 < x ∨ (56320 ≤ x ∧ x ≤ 57343) by omega) with g | g | ⟨g, g'⟩
            · have HE := Lib.hid (show O = .error 3 by rw [← hO, if_pos (Or.inl g)])
              have g4 : (x : Int) < 56320 := by omega
              clear hO ho2 g hx
              go_wp2_with fail
              rw [HE.out]
              exact ⟨rfl, hst3, rfl⟩
            · have HE := Lib.hid (show O = .error 3 by rw [← hO, if_pos (Or.inr g)])
              have g4 : 57343 < (x : Int) := by omega
              clear hO ho2 g hx
              go_wp2_with fail
              rw [HE.out]
              exact ⟨rfl, hst3, rfl⟩
            · have HE := Lib.hid (show O = .ok (65536 + (v - 55296) * 1024 + x - 56320, tail s k3) by rw [← hO, if_neg (by omega)])
              have g4 : (56320 : Int) ≤ x := by omega
              have g5 : (x : Int) ≤ 57343 := by omega
              clear hO ho2 g g' hx
              go_wp2_with fail
              go_ret
              rw [HE.out]
              exact ⟨hst3, ret_int (by omega), k3, hk3, rfl, hr3⟩

theorem tail_take (s : ByteArray) (i n : Nat) : (s.extract i (i + n)).data.toList = (tail s i).take n := by
  unfold tail
  simp only [ByteArray.data_extract]
  rw [Array.toList_extract, List.extract_eq_take_drop, Nat.add_sub_cancel_left]
/-- A code point as it stands. -/
def plainT (l : List UInt8) : Out (List UInt8) := match U8.decL l with
  | none => .error 3
  | some (_, n) => .ok (l.take n, l.drop n)
set_option maxHeartbeats 2000000 in
set_option maxRecDepth 100000 in
theorem plain_any (R : Nat) (s : ByteArray) (i : Nat) (w : World) (h : Rc R s i w) (hs : s.size ≤ 65536) (hi : i ≤ s.size) :
    Calls Try.prog 45 #[.pointer (some ⟨R, 0, none⟩)] w fun e' w' => LeftC R s w (fun t : List UInt8 => .string ⟨t.toArray⟩) (plainT (tail s i)) e' w' := by
  have hsz : (s.size : Int) ≤ 65536 := by omega
  have h0 := h.c0
  have h1 := h.c1
  have hz := h.free 1
  obtain ⟨O, hO⟩ : ∃ O, plainT (tail s i) = O := ⟨_, rfl⟩
  rw [hO]
  unfold plainT at hO
  cases hd : U8.decL (tail s i) with
  | none =>
    simp only [hd] at hO
    have HE := Lib.hid (show O = .error 3 from hO.symm)
    have hget := fun w0 => U8.get_none (s := s) (a := i) hd (by omega) w0
    clear hO hd
    go_enter Try.func45, Try.ntmps45
    go_wp2_with fail
    go_quiet ((refine (hget _).mono ?_; rintro e w9 ⟨rfl, rfl⟩; exact ⟨rfl, _, rfl⟩))
    go_wp2_with fail
    rw [HE.out]
    exact ⟨rfl, (Step.refl R w).drewN _, rfl⟩
  | some x =>
    obtain ⟨p, n⟩ := x
    simp only [hd] at hO
    obtain ⟨-, hn0, hn1, -⟩ := U8.decL_some hd
    rw [tail_length] at hn1
    have HE := Lib.hid (show O = .ok ((tail s i).take n, tail s (i + n)) by rw [← hO, tail_drop])
    have HT := Lib.hid (tail_take s i n)
    have hget := fun w0 => U8.get_some (s := s) (a := i) hd (by omega) w0
    have g : ((i : Int) + (n : Int) == (i : Int)) = false := by rw [beq_eq_false_iff_ne]; omega
    have gn : (n : Int) ≠ 0 := by omega
    have gl : (i : Int) + n ≤ s.size := by omega
    clear hO hd
    go_enter Try.func45, Try.ntmps45
    go_wp2_with fail
    go_quiet ((refine (hget _).mono ?_; rintro e w9 ⟨rfl, rfl⟩; exact ⟨rfl, _, rfl⟩))
    go_wp2_with fail
    go_quiet (fail)
    go_wp2_with fail
    go_ret
    rw [HE.out]
    refine ⟨((Step.refl R w).drewN _).set 1 _, ?_, i + n, by omega, rfl, by simpa using (h.drewN _).set1 (i + n) ((i : Int) + n) (by omega)⟩
    exact ret_bytes (by simpa using HT.out)
theorem esc_pk {l : List UInt8} {c : UInt8} {r : List UInt8} (h : l = c :: r) : escapeL l = match signV c with
    | some x => .ok ([x], r)
    | none => if c = 117 then unitL r else .error 3 := by rw [h, escapeL]; rfl
theorem put_bytes (n : Nat) : (⟨(U8.putL (n : Int)).toArray⟩ : ByteArray) = U8.putB (n : Int) := rfl
theorem sign_cases (c : UInt8) : (c = 34 ∧ signV c = some 34) ∨ (c = 92 ∧ signV c = some 92) ∨ (c = 47 ∧ signV c = some 47) ∨ (c = 98 ∧ signV c = some 8) ∨ (c = 102 ∧ signV c = some 12) ∨ (c = 110 ∧ signV c = some 10) ∨ (c = 114 ∧ signV c = some 13) ∨ (c = 116 ∧ signV c = some 9) ∨ (c = 117 ∧ signV c = none) ∨
    ((c ≠ 34 ∧ c ≠ 92 ∧ c ≠ 47 ∧ c ≠ 98 ∧ c ≠ 102 ∧ c ≠ 110 ∧ c ≠ 114 ∧ c ≠ 116 ∧ c ≠ 117) ∧ signV c = none) := by
  unfold signV
  by_cases h1 : c = 34
  · subst h1; exact Or.inl ⟨rfl, rfl⟩
  by_cases h2 : c = 92
  · subst h2; exact Or.inr (Or.inl ⟨rfl, rfl⟩)
  by_cases h3 : c = 47
  · subst h3; exact Or.inr (Or.inr (Or.inl ⟨rfl, rfl⟩))
  by_cases h4 : c = 98
  · subst h4; exact Or.inr (Or.inr (Or.inr (Or.inl ⟨rfl, rfl⟩)))
  by_cases h5 : c = 102
  · subst h5; exact Or.inr (Or.inr (Or.inr (Or.inr (Or.inl ⟨rfl, rfl⟩))))
  by_cases h6 : c = 110
  · subst h6; exact Or.inr (Or.inr (Or.inr (Or.inr (Or.inr (Or.inl ⟨rfl, rfl⟩)))))
  by_cases h7 : c = 114
  · subst h7; exact Or.inr (Or.inr (Or.inr (Or.inr (Or.inr (Or.inr (Or.inl ⟨rfl, rfl⟩))))))
  by_cases h8 : c = 116
  · subst h8; exact Or.inr (Or.inr (Or.inr (Or.inr (Or.inr (Or.inr (Or.inr (Or.inl ⟨rfl, rfl⟩)))))))
  by_cases h9 : c = 117
  · subst h9; exact Or.inr (Or.inr (Or.inr (Or.inr (Or.inr (Or.inr (Or.inr (Or.inr (Or.inl ⟨rfl, rfl⟩))))))))
  · refine Or.inr (Or.inr (Or.inr (Or.inr (Or.inr (Or.inr (Or.inr (Or.inr (Or.inr ⟨⟨h1, h2, h3, h4, h5, h6, h7, h8, h9⟩, ?_⟩))))))))
    simp [h1, h2, h3, h4, h5, h6, h7, h8]

set_option maxHeartbeats 4000000 in
set_option maxRecDepth 100000 in
theorem escaped_any (R : Nat) (s : ByteArray) (i : Nat) (w : World) (h : Rc R s i w) (hs : s.size ≤ 65536) (hi : i ≤ s.size) :
    Calls Try.prog 44 #[.pointer (some ⟨R, 0, none⟩)] w fun e' w' => LeftC R s w (fun t : List UInt8 => .string ⟨t.toArray⟩) (escapeL (tail s i)) e' w' := by
  have hsz : (s.size : Int) ≤ 65536 := by omega
  have hpeek := peek_any R s i w h hs
  obtain ⟨O, hO⟩ : ∃ O, escapeL (tail s i) = O := ⟨_, rfl⟩
  rw [hO]
  rcases Nat.lt_or_ge i s.size with hl | hl
  · rw [esc_pk (tail_cons hl)] at hO
    rw [pk_at hl] at hpeek
    obtain ⟨c, hc⟩ : ∃ c, s[i] = c := ⟨_, rfl⟩
    rw [hc] at hO hpeek
    clear hc
    have hset := fun (w1 : World) (hr : Rc R s i w1) => show Rc R s (i + 1) (w1.setCell ⟨R, 1, none⟩ (.int .i64 ((i : Int) + 1))) from hr.set1 (i + 1) ((i : Int) + 1) (by omega)
    rcases sign_cases c with ⟨rfl, e⟩ | ⟨rfl, e⟩ | ⟨rfl, e⟩ | ⟨rfl, e⟩ | ⟨rfl, e⟩ | ⟨rfl, e⟩ | ⟨rfl, e⟩ | ⟨rfl, e⟩ | ⟨rfl, e⟩ | ⟨hn, e⟩
    case' inr.inr.inr.inr.inr.inr.inr.inr.inl =>
      rw [e, if_pos rfl, unit_pt] at hO
      obtain ⟨o, ho⟩ : ∃ o, ptL (tail s (i + 1)) = o := ⟨_, rfl⟩
      have hpt := fun w0 h0 => point_any R s (i + 1) w0 h0 hs (by omega)
      rw [ho] at hO hpt
      clear e ho
      go_enter Try.func44, Try.ntmps44
      go_wp2_with fail
      refine hpeek.mono ?_
      rintro e' w1 ⟨rfl, hr1, hs1⟩
      have h1 := hr1.c1
      have hz := hr1.free 1
      go_wp2_with fail
      refine (hpt _ (by simpa using hset _ hr1)).mono ?_
      rintro e' w2 ⟨hs2, hL⟩
      have hst2 := (hs1.set 1 _).trans hs2
      match o, hL, hO with
      | .error c, hL, hO =>
        obtain rfl : e' = Errs c := hL
        have HE := Lib.hid (show O = .error c from hO.symm)
        clear hO hpt hpeek
        go_wp2_with fail
        rw [HE.out]
        exact ⟨rfl, hst2, rfl⟩
      | .ok (n, r), hL, hO =>
        obtain ⟨rfl, k, hk, rfl, hr2⟩ := hL
        have HE := Lib.hid (show O = .ok (U8.putL (n : Int), tail s k) from hO.symm)
        clear hO hpt hpeek
        go_wp2_with fail
        refine (U8.put_any _ _).mono ?_
        rintro e' w3 ⟨rfl, hb3⟩
        have hst3 := hst2.trans (Step.of_below hb3)
        have hr3 := hr2.below hb3
        go_wp2_with fail
        go_ret
        rw [HE.out]
        exact ⟨hst3, rfl, k, hk, rfl, hr3⟩
    case' inr.inr.inr.inr.inr.inr.inr.inr.inr =>
      rw [e] at hO
      obtain ⟨n1, n2, n3, n4, n5, n6, n7, n8, n9⟩ := hn
      have HE := Lib.hid (show O = .error 3 by rw [← hO]; exact if_neg n9)
      have q1 : ((c.toNat : Int) == 34) = false := by rw [beq_eq_false_iff_ne]; exact fun e => n1 (byte_eq e)
      have q2 : ((c.toNat : Int) == 92) = false := by rw [beq_eq_false_iff_ne]; exact fun e => n2 (byte_eq e)
      have q3 : ((c.toNat : Int) == 47) = false := by rw [beq_eq_false_iff_ne]; exact fun e => n3 (byte_eq e)
      have q4 : ((c.toNat : Int) == 98) = false := by rw [beq_eq_false_iff_ne]; exact fun e => n4 (byte_eq e)
      have q5 : ((c.toNat : Int) == 102) = false := by rw [beq_eq_false_iff_ne]; exact fun e => n5 (byte_eq e)
      have q6 : ((c.toNat : Int) == 110) = false := by rw [beq_eq_false_iff_ne]; exact fun e => n6 (byte_eq e)
      have q7 : ((c.toNat : Int) == 114) = false := by rw [beq_eq_false_iff_ne]; exact fun e => n7 (byte_eq e)
      have q8 : ((c.toNat : Int) == 116) = false := by rw [beq_eq_false_iff_ne]; exact fun e => n8 (byte_eq e)
      have q9 : ((c.toNat : Int) == 117) = false := by rw [beq_eq_false_iff_ne]; exact fun e => n9 (byte_eq e)
      clear e hO n1 n2 n3 n4 n5 n6 n7 n8 n9
      go_enter Try.func44, Try.ntmps44
      go_wp2_with fail
      refine hpeek.mono ?_
      rintro e' w1 ⟨rfl, hr1, hs1⟩
      have h1 := hr1.c1
      have hz := hr1.free 1
      go_wp2_with fail
      rw [HE.out]
      exact ⟨rfl, hs1.set 1 _, rfl⟩
    all_goals
      rw [e] at hO
      have HE := Lib.hid hO
      clear e hO
      go_enter Try.func44, Try.ntmps44
      go_wp2_with fail
      refine hpeek.mono ?_
      rintro e' w1 ⟨rfl, hr1, hs1⟩
      have h1 := hr1.c1
      have hz := hr1.free 1
      have hs9 : (w1.setCell ⟨R, 1, none⟩ (.int .i64 ((i : Int) + 1))).heap.size = w1.heap.size := by simp [World.setCell]
      have k1 : (convert 22 9 (.slice (some ⟨w1.heap.size, 0, none⟩) 1 1)).run Try.prog ((w1.setCell ⟨R, 1, none⟩ (.int .i64 ((i : Int) + 1))).alloc (Obj.cells #[Value.int IntKind.u8 34] 5)) = .ok (.string ⟨#[34]⟩) ((w1.setCell ⟨R, 1, none⟩ (.int .i64 ((i : Int) + 1))).alloc (Obj.cells #[Value.int IntKind.u8 34] 5)) := by
        have h9 := U8.run_lit1 34 (by decide) (by decide) (w1.setCell ⟨R, 1, none⟩ (.int .i64 ((i : Int) + 1)))
        rw [hs9] at h9
        exact h9
      have k2 : (convert 22 9 (.slice (some ⟨w1.heap.size, 0, none⟩) 1 1)).run Try.prog ((w1.setCell ⟨R, 1, none⟩ (.int .i64 ((i : Int) + 1))).alloc (Obj.cells #[Value.int IntKind.u8 92] 5)) = .ok (.string ⟨#[92]⟩) ((w1.setCell ⟨R, 1, none⟩ (.int .i64 ((i : Int) + 1))).alloc (Obj.cells #[Value.int IntKind.u8 92] 5)) := by
        have h9 := U8.run_lit1 92 (by decide) (by decide) (w1.setCell ⟨R, 1, none⟩ (.int .i64 ((i : Int) + 1)))
        rw [hs9] at h9
        exact h9
      have k3 : (convert 22 9 (.slice (some ⟨w1.heap.size, 0, none⟩) 1 1)).run Try.prog ((w1.setCell ⟨R, 1, none⟩ (.int .i64 ((i : Int) + 1))).alloc (Obj.cells #[Value.int IntKind.u8 47] 5)) = .ok (.string ⟨#[47]⟩) ((w1.setCell ⟨R, 1, none⟩ (.int .i64 ((i : Int) + 1))).alloc (Obj.cells #[Value.int IntKind.u8 47] 5)) := by
        have h9 := U8.run_lit1 47 (by decide) (by decide) (w1.setCell ⟨R, 1, none⟩ (.int .i64 ((i : Int) + 1)))
        rw [hs9] at h9
        exact h9
      clear hs9
      go_wp2_with fail
      go_ret
      rw [← HE.out]
      first
        | exact ⟨hs1.set 1 _, rfl, i + 1, by omega, rfl, by simpa using hset _ hr1⟩
        | exact ⟨(hs1.set 1 _).alloc _, rfl, i + 1, by omega, rfl, by simpa using (hset _ hr1).alloc _⟩
  · rw [tail_end hl, escapeL] at hO
    rw [pk_end hl] at hpeek
    have HE := Lib.hid (show O = .error 3 from hO.symm)
    clear hO
    go_enter Try.func44, Try.ntmps44
    go_wp2_with fail
    refine hpeek.mono ?_
    rintro e' w1 ⟨rfl, hr1, hs1⟩
    have h1 := hr1.c1
    have hz := hr1.free 1
    go_wp2_with fail
    rw [HE.out]
    exact ⟨rfl, hs1.set 1 _, rfl⟩
end Go.Proofs.Ytpnffmimpkimeaa.J7
