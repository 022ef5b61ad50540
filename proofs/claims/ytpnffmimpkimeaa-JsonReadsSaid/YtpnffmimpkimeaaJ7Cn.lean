/-
  The program's reader of JSON: numbers. Conditions: the text has at most 65536 bytes.
-/
import Derived.Test.YtpnffmimpkimeaaJ7Cw
namespace Go.Proofs.Ytpnffmimpkimeaa.J7
open Go Go.RowKit Go.Joins Kit

theorem digC_nought {l : List UInt8} (h : pk l = 48) : ∃ r, l = 48 :: r ∧ digC l = .ok (0, r) := by
  cases l with
  | nil => cases h
  | cons c r =>
    obtain rfl : c = 48 := h
    exact ⟨r, rfl, by rw [digC, if_pos rfl]⟩
theorem digC_else {l : List UInt8} (h : pk l ≠ 48) : digC l = if (digsL l).length = 0 ∨ maxNum < numV 0 (digsL l) then .error 3 else .ok (numV 0 (digsL l), restL l) := by
  cases l with
  | nil => rw [digC]; exact (if_pos (Or.inl rfl)).symm
  | cons c r => rw [digC, if_neg (show ¬ c = 48 from h)]
theorem numV_ge (n : Nat) : ∀ l : List UInt8, n ≤ numV n l
  | [] => by rw [numV_nil]; exact Nat.le_refl _
  | c :: r => by
    rw [numV_cons]
    have := numV_ge (10 * n + (c.toNat - 48)) r
    omega
theorem digB_pk {s : ByteArray} {q : Nat} (h : digB (pk (tail s q)) = true) : q < s.size := by
  rcases Nat.lt_or_ge q s.size with h' | h'
  · exact h'
  · rw [pk_end h'] at h
    cases h
theorem digs_pk {l : List UInt8} (h : digB (pk l) = false) : digsL l = [] ∧ restL l = l := by
  cases l with
  | nil => exact ⟨rfl, rfl⟩
  | cons c r => exact ⟨digs_none h, rest_none h⟩
theorem digs_at {s : ByteArray} {q : Nat} (h : q < s.size) (hd : digB (pk (tail s q)) = true) : digsL (tail s q) = pk (tail s q) :: digsL (tail s (q + 1)) ∧ restL (tail s q) = restL (tail s (q + 1)) := by
  rw [pk_at h] at hd ⊢
  rw [tail_cons h]
  exact ⟨digs_head hd, rest_head hd⟩
theorem digB_iff' (c : UInt8) : digB c = true ↔ 48 ≤ c.toNat ∧ c.toNat ≤ 57 := by unfold digB; simp

set_option maxHeartbeats 4000000 in
set_option maxRecDepth 100000 in
theorem digits_any (R : Nat) (s : ByteArray) (i : Nat) (w : World) (h : Rc R s i w) (hs : s.size ≤ 65536) (hi : i ≤ s.size) :
    Calls Try.prog 50 #[.pointer (some ⟨R, 0, none⟩)] w fun e' w' => LeftC R s w (fun n : Nat => .int .i64 (n : Int)) (digC (tail s i)) e' w' := by
  have hsz : (s.size : Int) ≤ 65536 := by omega
  have hpeek := peek_any R s i w h hs
  obtain ⟨O, hO⟩ : ∃ O, digC (tail s i) = O := ⟨_, rfl⟩
  rw [hO]
  by_cases h48 : pk (tail s i) = 48
  · obtain ⟨r, e1, e2⟩ := digC_nought h48
    have hl : i < s.size := by
      rcases Nat.lt_or_ge i s.size with h' | h'
      · exact h'
      · rw [pk_end h'] at h48; cases h48
    have hre : r = tail s (i + 1) := by rw [tail_cons hl] at e1; exact ((List.cons.inj e1).2).symm
    have HO := Lib.hid (show O = .ok (0, tail s (i + 1)) by rw [← hO, e2, hre])
    rw [h48] at hpeek
    clear hO e1 e2 hre h48
    go_enter Try.func50, Try.ntmps50
    go_wp2_with fail
    refine hpeek.mono ?_
    rintro e' w1 ⟨rfl, hr1, hs1⟩
    have h1 := hr1.c1
    have hz := hr1.free 1
    go_wp2_with fail
    go_ret
    rw [HO.out]
    exact ⟨hs1.set 1 _, rfl, i + 1, by omega, rfl, by simpa using hr1.set1 (i + 1) ((i : Int) + 1) (by omega)⟩
  · obtain ⟨m, hm⟩ : ∃ m, tail s i = m := ⟨_, rfl⟩
    have HM := Lib.hid hm
    have HO := Lib.hid (show O = if (digsL m).length = 0 ∨ maxNum < numV 0 (digsL m) then .error 3 else .ok (numV 0 (digsL m), restL m) by rw [← hO, digC_else h48, hm])
    obtain ⟨c, hc⟩ : ∃ c, pk (tail s i) = c := ⟨_, rfl⟩
    rw [hc] at hpeek h48
    have g48 : ((c.toNat : Int) == 48) = false := by rw [beq_eq_false_iff_ne]; exact fun e => h48 (byte_eq e)
    have HC := Lib.hid hc
    clear hO hm hc h48
    go_enter Try.func50, Try.ntmps50
    go_wp2_with fail
    refine hpeek.mono ?_
    rintro e' w1 ⟨rfl, hr1, hs1⟩
    have h1 := hr1.c1
    have hp1 := peek_any R s i w1 hr1 hs
    rw [HC.out] at hp1
    go_wp2_with fail
    refine hp1.mono ?_
    rintro e' w2 ⟨rfl, hr2, hs2⟩
    have hst2 := hs1.trans hs2
    go_wp2_with fail
    go_loopg [4, 5] (s.size - i) (fun n v5 v6 wr => ∃ (V q : Nat) (x : UInt8), n = s.size - q ∧ v5 = .int .i64 (V : Int) ∧ v6 = .int .u8 (x.toNat : Int) ∧ i ≤ q ∧ q ≤ s.size ∧ (V : Int) ≤ 9007199254740991 ∧ Hid (pk (tail s q) = x ∧ numV V (digsL (tail s q)) = numV 0 (digsL m) ∧ restL (tail s q) = restL m ∧ (digsL (tail s q)).length + q = (digsL m).length + i) ∧ Rc R s q wr ∧ Step R w wr)
    case atStart => exact ⟨0, i, c, rfl, rfl, rfl, Nat.le_refl _, hi, by decide, by rw [HM.out]; exact Lib.hid ⟨by rw [← HM.out]; exact HC.out, rfl, rfl, rfl⟩, hr2, hst2⟩
    case round =>
      clear hp1 hpeek h1 hr1 hs1 hr2 hs2 hst2
      obtain ⟨V, q, x, rfl, rfl, rfl, hq1, hq2, hV, hrel, hr, hst⟩ := hrel
      have hxb := x.toNat_lt
      have h1 := hr.c1
      have hz := hr.free 1
      by_cases hd : digB x = true
      · have hdr := (digB_iff' x).1 hd
        have hq3 : q < s.size := digB_pk (by rw [hrel.out.1]; exact hd)
        obtain ⟨d1, d2⟩ := digs_at hq3 (by rw [hrel.out.1]; exact hd)
        rw [hrel.out.1] at d1
        have g1 : (48 : Int) ≤ x.toNat := by omega
        have g2 : (x.toNat : Int) ≤ 57 := by omega
        have hnx := hrel.out
        rw [d1, d2, numV_cons, List.length_cons] at hnx
        obtain ⟨-, n1, n2, n3⟩ := hnx
        by_cases hgr : (V : Int) * 10 + ((x.toNat : Int) - 48) ≤ 9007199254740991
        · obtain ⟨y, hy⟩ : ∃ y, pk (tail s (q + 1)) = y := ⟨_, rfl⟩
          have HN : Hid (pk (tail s (q + 1)) = y ∧ numV (10 * V + (x.toNat - 48)) (digsL (tail s (q + 1))) = numV 0 (digsL m) ∧ restL (tail s (q + 1)) = restL m ∧ (digsL (tail s (q + 1))).length + (q + 1) = (digsL m).length + i) := ⟨hy, n1, n2, by omega⟩
          clear n1 n2 n3 hy d1 d2 hdr hd
          go_wp2_with fail
          refine (peek_any R s (q + 1) _ (by simpa using hr.set1 (q + 1) ((q : Int) + 1) (by omega)) hs).mono ?_
          rintro e' w5 ⟨rfl, hr5, hs5⟩
          have hst5 := (hst.set 1 _).trans hs5
          rw [HN.out.1]
          go_wp2_with fail
          go_roundg (s.size - (q + 1))
          case measure => omega
          case rel => exact ⟨10 * V + (x.toNat - 48), q + 1, y, rfl, by go_num, rfl, by omega, by omega, by omega, HN, hr5, hst5⟩
        · have HE : Hid (O = .error 3) := by
            show O = _
            rw [HO.out, if_pos]
            right
            have := numV_ge (10 * V + (x.toNat - 48)) (digsL (tail s (q + 1)))
            rw [n1] at this
            unfold maxNum
            omega
          clear n1 n2 n3 d1 d2 hdr hd
          go_wp2_with fail
          rw [HE.out]
          exact ⟨rfl, hst, rfl⟩
      · have hd' : digB x = false := by simpa using hd
        obtain ⟨d1, d2⟩ := digs_pk (l := tail s q) (by rw [hrel.out.1]; exact hd')
        have hnx := hrel.out
        rw [d1, d2, numV_nil] at hnx
        obtain ⟨-, n1, n2, n3⟩ := hnx
        rw [List.length_nil] at n3
        have hdr : x.toNat < 48 ∨ 57 < x.toNat := by
          have : ¬ (48 ≤ x.toNat ∧ x.toNat ≤ 57) := fun e => hd ((digB_iff' x).2 e)
          omega
        by_cases hqi : q = i
        · have HE : Hid (O = .error 3) := by
            show O = _
            rw [HO.out, if_pos]
            left
            omega
          subst hqi
          clear n1 n2 n3 d1 d2 hd hd' hrel
          rcases hdr with g | g
          · have g1 : (x.toNat : Int) < 48 := by omega
            clear g
            go_wp2_with fail
            rw [HE.out]
            exact ⟨rfl, hst, rfl⟩
          · have g1 : 57 < (x.toNat : Int) := by omega
            clear g
            go_wp2_with fail
            rw [HE.out]
            exact ⟨rfl, hst, rfl⟩
        · have HE : Hid (O = .ok (V, tail s q)) := by
            show O = _
            rw [HO.out, if_neg]
            · rw [n1, n2]
            · rw [← n1]
              unfold maxNum
              omega
          have gq : ((q : Int) == (i : Int)) = false := by rw [beq_eq_false_iff_ne]; omega
          clear n1 n2 n3 d1 d2 hd hd' hrel
          rcases hdr with g | g
          · have g1 : (x.toNat : Int) < 48 := by omega
            clear g
            go_wp2_with fail
            go_ret
            rw [HE.out]
            exact ⟨hst, rfl, q, hq2, rfl, hr⟩
          · have g1 : 57 < (x.toNat : Int) := by omega
            clear g
            go_wp2_with fail
            go_ret
            rw [HE.out]
            exact ⟨hst, rfl, q, hq2, rfl, hr⟩

theorem numC_num {l r : List UInt8} {j : J} (h : numC l = .ok (j, r)) : j = numJ j.num := by
  unfold numC at h
  split at h
  · split at h
    · cases h
    · split at h
      · cases h
      · obtain rfl := congrArg Prod.fst (Except.ok.inj h); rfl
  · split at h
    · cases h
    · obtain rfl := congrArg Prod.fst (Except.ok.inj h); rfl
theorem digC_le {l r : List UInt8} {n : Nat} (h : digC l = .ok (n, r)) : n ≤ maxNum := by
  cases l with
  | nil => rw [digC] at h; cases h
  | cons c t =>
    rw [digC] at h
    split at h
    · obtain rfl := congrArg Prod.fst (Except.ok.inj h)
      exact Nat.zero_le _
    · split at h
      · cases h
      · rename_i hb
        obtain rfl := congrArg Prod.fst (Except.ok.inj h)
        exact Nat.not_lt.1 (fun e => hb (Or.inr e))
set_option maxHeartbeats 2000000 in
set_option maxRecDepth 100000 in
theorem cnumber_any (R : Nat) (s : ByteArray) (i : Nat) (w : World) (h : Rc R s i w) (hs : s.size ≤ 65536) (hi : i ≤ s.size) :
    Calls Try.prog 34 #[.pointer (some ⟨R, 0, none⟩)] w fun e' w' => LeftC R s w (fun j : J => .int .i64 j.num) (numC (tail s i)) e' w' := by
  have hsz : (s.size : Int) ≤ 65536 := by omega
  have hpeek := peek_any R s i w h hs
  obtain ⟨O, hO⟩ : ∃ O, numC (tail s i) = O := ⟨_, rfl⟩
  rw [hO]
  cases he : eatL 45 (tail s i) with
  | some m =>
    obtain ⟨hl, -, rfl⟩ := eat_place he
    rw [pk_eat he] at hpeek
    unfold numC at hO
    simp only [he] at hO
    clear he
    obtain ⟨o, ho⟩ : ∃ o, digC (tail s (i + 1)) = o := ⟨_, rfl⟩
    rw [ho] at hO
    go_enter Try.func34, Try.ntmps34
    go_wp2_with fail
    refine hpeek.mono ?_
    rintro e' w1 ⟨rfl, hr1, hs1⟩
    have h1 := hr1.c1
    have hz := hr1.free 1
    go_wp2_with fail
    refine (digits_any R s (i + 1) _ (by simpa using hr1.set1 (i + 1) ((i : Int) + 1) (by omega)) hs (by omega)).mono ?_
    rintro e' w2 ⟨hs2, hL⟩
    have hst2 := (hs1.set 1 _).trans hs2
    rw [ho] at hL
    match o, hL, hO, ho with
    | .error c, hL, hO, _ =>
      obtain rfl : e' = Errs c := hL
      have HE := Lib.hid (show O = .error c from hO.symm)
      clear hO
      go_wp2_with fail
      rw [HE.out]
      exact ⟨rfl, hst2, rfl⟩
    | .ok (n, r), hL, hO, ho =>
      obtain ⟨rfl, k, hk, rfl, hr2⟩ := hL
      have hn := digC_le ho
      unfold maxNum at hn
      have hnb : (n : Int) ≤ 9007199254740991 := by omega
      by_cases hn0 : n = 0
      · have HE := Lib.hid (show O = .error 3 by rw [← hO]; exact if_pos hn0)
        clear hO ho hn
        subst hn0
        go_wp2_with fail
        rw [HE.out]
        exact ⟨rfl, hst2, rfl⟩
      · have HE := Lib.hid (show O = .ok (numJ (-(n : Int)), tail s k) by rw [← hO]; exact if_neg hn0)
        have g : ((n : Int) == 0) = false := by rw [beq_eq_false_iff_ne]; omega
        clear hO ho hn
        go_wp2_with fail
        go_ret
        rw [HE.out]
        exact ⟨hst2, rfl, k, hk, rfl, hr2⟩
  | none =>
    have hp := pk_not he (by decide)
    obtain ⟨x, hx⟩ : ∃ x, pk (tail s i) = x := ⟨_, rfl⟩
    rw [hx] at hpeek hp
    have g : ((x.toNat : Int) == 45) = false := by rw [beq_eq_false_iff_ne]; exact fun e => hp (byte_eq e)
    unfold numC at hO
    simp only [he] at hO
    clear he hp hx
    obtain ⟨o, ho⟩ : ∃ o, digC (tail s i) = o := ⟨_, rfl⟩
    rw [ho] at hO
    go_enter Try.func34, Try.ntmps34
    go_wp2_with fail
    refine hpeek.mono ?_
    rintro e' w1 ⟨rfl, hr1, hs1⟩
    go_wp2_with fail
    refine (digits_any R s i _ hr1 hs hi).mono ?_
    rintro e' w2 ⟨hs2, hL⟩
    have hst2 := hs1.trans hs2
    rw [ho] at hL
    match o, hL, hO, ho with
    | .error c, hL, hO, _ =>
      obtain rfl : e' = Errs c := hL
      have HE := Lib.hid (show O = .error c from hO.symm)
      clear hO
      go_wp2_with fail
      rw [HE.out]
      exact ⟨rfl, hst2, rfl⟩
    | .ok (n, r), hL, hO, ho =>
      obtain ⟨rfl, k, hk, rfl, hr2⟩ := hL
      have HE := Lib.hid (show O = .ok (numJ (n : Int), tail s k) by rw [← hO])
      clear hO ho
      go_wp2_with fail
      go_ret
      rw [HE.out]
      exact ⟨hst2, rfl, k, hk, rfl, hr2⟩
end Go.Proofs.Ytpnffmimpkimeaa.J7
