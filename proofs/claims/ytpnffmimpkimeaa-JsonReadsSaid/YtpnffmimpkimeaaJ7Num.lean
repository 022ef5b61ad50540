/-
  The reader of the document's answer for package json: its numbers. Conditions: the text has at most 65536 bytes.
-/
import Derived.Test.YtpnffmimpkimeaaJ7Word
import Derived.Test.YtpnffmimpkimeaaQc
import Derived.Deep.CutRange
namespace Go.Proofs.Ytpnffmimpkimeaa.J7
open Go Go.RowKit Go.Joins Kit

/-- A number that grows no more beyond the limit. -/
def capV (n : Nat) (l : List UInt8) : Nat := l.foldl (fun a c => if a ≤ maxNum then 10 * a + (c.toNat - 48) else a) n
theorem capV_nil (n : Nat) : capV n [] = n := by unfold capV; rw [List.foldl_nil]
theorem capV_cons (n : Nat) (c : UInt8) (r : List UInt8) : capV n (c :: r) = capV (if n ≤ maxNum then 10 * n + (c.toNat - 48) else n) r := by unfold capV; rw [List.foldl_cons]
theorem rnumV_ge (l : List UInt8) : ∀ n : Nat, n ≤ numV n l := by
  induction l with
  | nil => intro n; rw [numV_nil]; exact Nat.le_refl _
  | cons c r ih =>
    intro n
    rw [numV_cons]
    have := ih (10 * n + (c.toNat - 48))
    omega
theorem capV_big (l : List UInt8) : ∀ n : Nat, maxNum < n → capV n l = n := by
  induction l with
  | nil => intro n _; exact capV_nil n
  | cons c r ih =>
    intro n h
    rw [capV_cons, if_neg (by omega)]
    exact ih n h
theorem capV_num (l : List UInt8) : ∀ n : Nat, (maxNum < capV n l ↔ maxNum < numV n l) ∧ (numV n l ≤ maxNum → capV n l = numV n l) := by
  induction l with
  | nil => intro n; rw [capV_nil, numV_nil]; exact ⟨Iff.rfl, fun _ => rfl⟩
  | cons c r ih =>
    intro n
    rw [capV_cons, numV_cons]
    by_cases h : n ≤ maxNum
    · rw [if_pos h]
      exact ih _
    · rw [if_neg h, capV_big r n (by omega)]
      have := rnumV_ge r (10 * n + (c.toNat - 48))
      exact ⟨⟨fun _ => by omega, fun _ => by omega⟩, fun h' => by omega⟩
theorem bad_first {neg : Bool} {m : List UInt8} (h : (digsL m).length = 0) : badN neg m = true := by unfold badN; simp [h]
theorem bad_nought {neg : Bool} {m : List UInt8} (h1 : 1 < (digsL m).length) (h2 : (digsL m).head? = some 48) : badN neg m = true := by unfold badN; simp [h1, h2]
theorem bad_great {neg : Bool} {m : List UInt8} (h : maxNum < numV 0 (digsL m)) : badN neg m = true := by unfold badN; simp [h]
theorem bad_minus {m : List UInt8} (h : numV 0 (digsL m) = 0) : badN true m = true := by unfold badN; simp [h]
theorem bad_point {neg : Bool} {m : List UInt8} (h : pointB (restL m) = true) : badN neg m = true := by unfold badN; simp [h]
theorem bad_not {neg : Bool} {m : List UInt8} (h0 : (digsL m).length ≠ 0) (h1 : ¬ 1 < (digsL m).length ∨ (digsL m).head? ≠ some 48) (h2 : numV 0 (digsL m) ≤ maxNum) (h3 : neg = false ∨ numV 0 (digsL m) ≠ 0) (h4 : pointB (restL m) = false) : badN neg m = false := by
  unfold badN
  rw [h4, decide_eq_false h0, decide_eq_false (show ¬ maxNum < numV 0 (digsL m) by omega)]
  rcases h1 with h1 | h1 <;> rcases h3 with h3 | h3 <;> simp [h1, h3]
theorem point_at {s : ByteArray} {q : Nat} (h : q < s.size) : pointB (tail s q) = (s[q] == 46 || s[q] == 101 || s[q] == 69) := by rw [tail_cons h]; rfl
theorem point_end {s : ByteArray} {q : Nat} (h : s.size ≤ q) : pointB (tail s q) = false := by rw [tail_end h]; rfl
theorem rdigs_at {s : ByteArray} {i : Nat} (h : i < s.size) (hd : digB s[i] = true) : digsL (tail s i) = s[i] :: digsL (tail s (i + 1)) ∧ restL (tail s i) = restL (tail s (i + 1)) := by
  rw [tail_cons h, digsL, restL, if_pos hd, if_pos hd]
  exact ⟨rfl, rfl⟩
theorem digs_no {s : ByteArray} {i : Nat} (h : i < s.size) (hd : digB s[i] = false) : digsL (tail s i) = [] ∧ restL (tail s i) = tail s i := by
  rw [tail_cons h, digsL, restL, if_neg (by rw [hd]; decide), if_neg (by rw [hd]; decide)]
  exact ⟨rfl, rfl⟩
theorem digs_end {s : ByteArray} {i : Nat} (h : s.size ≤ i) : digsL (tail s i) = [] ∧ restL (tail s i) = tail s i := by
  rw [tail_end h]
  exact ⟨rfl, rfl⟩
theorem head_digs {s : ByteArray} {a : Nat} (h : a < s.size) (hd : 0 < (digsL (tail s a)).length) : (digsL (tail s a)).head? = some s[a] := by
  rw [tail_cons h] at hd ⊢
  rw [digsL] at hd ⊢
  split
  · rfl
  · rename_i e
    rw [if_neg e] at hd
    simp at hd
theorem digB_iff (c : UInt8) : digB c = true ↔ 48 ≤ c.toNat ∧ c.toNat ≤ 57 := by unfold digB; simp

set_option maxHeartbeats 4000000 in
set_option maxRecDepth 100000 in
theorem number_any (R : Nat) (s : ByteArray) (i : Nat) (d : Int) (w : World) (h : Rd R s i d 0 w) (hs : s.size ≤ 65536) (hi : i ≤ s.size) :
    Calls Try.prog 38 #[.pointer (some ⟨R, 0, none⟩)] w fun e' w' => Left R s d w (numberL (tail s i)) e' w' := by
  have hsz : (s.size : Int) ≤ 65536 := by omega
  have hRl := h.lt
  obtain ⟨G, hG⟩ : ∃ G, w.heap.size = G := ⟨_, rfl⟩
  have hGR : G ≠ R := by omega
  have hgs : w.heap.size ≤ G := by omega
  go_enter Try.func38, Try.ntmps38
  go_upto_region 1 with fail
  obtain ⟨w1, hw1⟩ : ∃ w1, (w.alloc (Obj.cells #[Value.int IntKind.i64 0, Value.int IntKind.i64 0, Value.string { data := #[] }, Value.slice none 0 0, Value.slice none 0 0] 27)) = w1 := ⟨_, rfl⟩
  have hbx : Bx G (.int .i64 0) (.int .i64 0) (.string { data := #[] }) (.slice none 0 0) (.slice none 0 0) w1 := by rw [← hw1, ← hG]; exact Bx.made w _ _ _ _ _
  have hst : Step R w w1 := by rw [← hw1]; exact (Step.refl R w).alloc _
  have hr : Rd R s i d 0 w1 := by rw [← hw1]; exact h.alloc _
  rw [hw1]
  clear hw1
  go_cut [3] from 7 (fun x wx => ∃ (neg : Bool) (q : Nat), x = .bool neg ∧ q ≤ s.size ∧ Hid (numberL (tail s i) = numberN neg (tail s q)) ∧ Rd R s (q : Int) d 0 wx ∧ Step R w wx ∧ Bx G (.int .i64 0) (.int .i64 0) (.string { data := #[] }) (.slice none 0 0) (.slice none 0 0) wx)
  case first =>
    cases e : eatL 45 (tail s i) with
    | some r =>
      obtain ⟨hql, -, hre⟩ := eat_place e
      have hnx := Lib.hid (show numberL (tail s i) = numberN true (tail s (i + 1)) by rw [numberL, e, hre])
      have E := Lib.hid e
      clear e hre
      go_wp2_with fail
      refine (is_yes R s i d 45 w1 r hr hs E.out).mono ?_
      rintro e' w2 ⟨rfl, hr2, hs2⟩
      have hst2 := hst.trans hs2
      have hbx2 := hbx.keep hs2 hGR
      go_wp2
      go_meet
      exact ⟨true, i + 1, rfl, by omega, hnx, hr2, hst2, hbx2⟩
    | none =>
      have hnx := Lib.hid (show numberL (tail s i) = numberN false (tail s i) by rw [numberL, e])
      have E := Lib.hid e
      clear e
      go_wp2_with fail
      refine (is_no R s i d 45 w1 hr hs E.out).mono ?_
      rintro e' w2 ⟨rfl, hr2, hs2⟩
      have hst2 := hst.trans hs2
      have hbx2 := hbx.keep hs2 hGR
      go_wp2
      go_meet
      exact ⟨false, i, rfl, hi, hnx, hr2, hst2, hbx2⟩
  case rest =>
    clear hr hst hbx
    obtain ⟨neg, a, rfl, ha, hnum, hr, hst, hbx⟩ := hcut
    have h1 := hr.c1
    obtain ⟨m, hm⟩ : ∃ m, tail s a = m := ⟨_, rfl⟩
    rw [hm] at hnum
    have HM := Lib.hid hm
    clear hm
    go_wp2_with fail
    go_loopg [5] (s.size - a) (fun n v wr => ∃ V q : Nat, n = s.size - q ∧ v = .int .i64 (V : Int) ∧ a ≤ q ∧ q ≤ s.size ∧ (V : Int) ≤ 90071992547409919 ∧ Hid (capV V (digsL (tail s q)) = capV 0 (digsL m) ∧ restL (tail s q) = restL m ∧ (digsL (tail s q)).length + q = (digsL m).length + a) ∧ Rd R s (q : Int) d 0 wr ∧ Step R w wr ∧ Bx G (.int .i64 0) (.int .i64 0) (.string { data := #[] }) (.slice none 0 0) (.slice none 0 0) wr)
    case atStart => exact ⟨0, a, rfl, rfl, Nat.le_refl _, ha, by decide, by rw [HM.out]; exact Lib.hid ⟨rfl, rfl, rfl⟩, hr, hst, hbx⟩
    case round =>
      clear h1 hr hst hbx
      obtain ⟨V, q, rfl, rfl, hq1, hq2, hV, hrel, hr, hst, hbx⟩ := hrel
      have h0 := hr.c0
      have h1 := hr.c1
      have hz := hr.free 1
      obtain ⟨b, hb⟩ : ∃ b, decide (∃ h : q < s.size, digB s[q] = true) = b := ⟨_, rfl⟩
      have HB := Lib.hid hb
      clear hb
      go_upto_region 4 with fail
      go_cut [46] from 13 to 69 (fun x wx => x = .bool b ∧ ∃ n, wr.drewN n = wx)
      case first =>
        rcases Nat.lt_or_ge q s.size with hl | hl
        · rcases (show s[q].toNat < 48 ∨ 57 < s[q].toNat ∨ (48 ≤ s[q].toNat ∧ s[q].toNat ≤ 57) by omega) with g | g | ⟨g, g'⟩
          · have e : b = false := by rw [← HB.out, decide_eq_false_iff_not]; rintro ⟨_, h'⟩; have := (digB_iff _).1 h'; omega
            subst e
            have q1 : decide ((48 : Int) ≤ (s[q].toNat : Int)) = false := by rw [decide_eq_false_iff_not]; omega
            clear HB
            go_wp2
            go_quiet (fail)
            go_wp2
            go_meet
            exact ⟨rfl, _, by first | rfl | exact (World.drewN_drewN _ _ _).symm⟩
          · have e : b = false := by rw [← HB.out, decide_eq_false_iff_not]; rintro ⟨_, h'⟩; have := (digB_iff _).1 h'; omega
            subst e
            have q1 : (48 : Int) ≤ (s[q].toNat : Int) := by omega
            have q2 : decide ((s[q].toNat : Int) ≤ 57) = false := by rw [decide_eq_false_iff_not]; omega
            clear HB
            go_wp2
            go_quiet (fail)
            go_wp2
            go_meet
            exact ⟨rfl, _, by first | rfl | exact (World.drewN_drewN _ _ _).symm⟩
          · have e : b = true := by rw [← HB.out, decide_eq_true_iff]; exact ⟨hl, (digB_iff _).2 ⟨g, g'⟩⟩
            subst e
            have q1 : (48 : Int) ≤ (s[q].toNat : Int) := by omega
            have q2 : (s[q].toNat : Int) ≤ 57 := by omega
            clear HB g g'
            go_wp2
            go_quiet (fail)
            go_wp2
            go_meet
            exact ⟨rfl, _, by first | rfl | exact (World.drewN_drewN _ _ _).symm⟩
        · have e : b = false := by rw [← HB.out, decide_eq_false_iff_not]; rintro ⟨h', _⟩; omega
          subst e
          have gi : decide (q < s.size) = false := by rw [decide_eq_false_iff_not]; omega
          clear HB
          go_wp2
          go_quiet (fail)
          go_wp2
          go_meet
          exact ⟨rfl, _, by first | rfl | exact (World.drewN_drewN _ _ _).symm⟩
      case rest =>
        obtain ⟨rfl, nq, rfl⟩ := hcut
        cases b with
        | true =>
          obtain ⟨hl, hd⟩ := of_decide_eq_true HB.out
          have hdn := (digB_iff _).1 hd
          have q1 : (48 : Int) ≤ (s[q].toNat : Int) := by omega
          have q2 : (s[q].toNat : Int) ≤ 57 := by omega
          obtain ⟨e1, e2⟩ := rdigs_at hl hd
          by_cases hVm : (V : Int) ≤ 9007199254740991
          · have hnx : Hid (capV (10 * V + (s[q].toNat - 48)) (digsL (tail s (q + 1))) = capV 0 (digsL m) ∧ restL (tail s (q + 1)) = restL m ∧ (digsL (tail s (q + 1))).length + (q + 1) = (digsL m).length + a) := by
              have := hrel.out
              rw [e1, e2, capV_cons, if_pos (by unfold maxNum; omega), List.length_cons] at this
              exact ⟨this.1, this.2.1, by omega⟩
            clear HB hd hdn e1 e2
            go_wp2
            go_quiet (fail)
            go_wp2
            go_roundg (s.size - (q + 1))
            case measure => omega
            case rel => exact ⟨_, q + 1, rfl, congrArg (Value.int .i64) (by omega), by omega, by omega, by omega, hnx, by simpa using (hr.drewN _).set1 ((q : Int) + 1), (hst.drewN _).set 1 _, (hbx.drewN _).keep ((Step.refl R _).set 1 _) hGR⟩
          · have hnx : Hid (capV V (digsL (tail s (q + 1))) = capV 0 (digsL m) ∧ restL (tail s (q + 1)) = restL m ∧ (digsL (tail s (q + 1))).length + (q + 1) = (digsL m).length + a) := by
              have := hrel.out
              rw [e1, e2, capV_cons, if_neg (by unfold maxNum; omega), List.length_cons] at this
              exact ⟨this.1, this.2.1, by omega⟩
            clear HB hd hdn e1 e2
            go_wp2
            go_roundg (s.size - (q + 1))
            case measure => omega
            case rel => exact ⟨V, q + 1, rfl, rfl, by omega, by omega, hV, hnx, by simpa using (hr.drewN _).set1 ((q : Int) + 1), (hst.drewN _).set 1 _, (hbx.drewN _).keep ((Step.refl R _).set 1 _) hGR⟩
        | false =>
          have hends : digsL (tail s q) = [] ∧ restL (tail s q) = tail s q := by
            rcases Nat.lt_or_ge q s.size with hl | hl
            · refine digs_no hl ?_
              have := of_decide_eq_false HB.out
              cases e : digB s[q] with
              | false => rfl
              | true => exact absurd ⟨hl, e⟩ this
            · exact digs_end hl
          obtain ⟨e1, e2⟩ := hends
          have hre := hrel.out
          rw [e1, e2, capV_nil] at hre
          obtain ⟨hcap, hrest, hlen⟩ := hre
          rw [List.length_nil] at hlen
          obtain ⟨bad, hbad⟩ : ∃ b, badN neg m = b := ⟨_, rfl⟩
          have HBADN := Lib.hid hbad
          obtain ⟨b1, hb1⟩ : ∃ b, (decide ((digsL m).length = 0) || (decide (1 < (digsL m).length) && decide ((digsL m).head? = some 48))) = b := ⟨_, rfl⟩
          obtain ⟨b2, hb2⟩ : ∃ b, (b1 || decide (maxNum < numV 0 (digsL m)) || (neg && decide (numV 0 (digsL m) = 0))) = b := ⟨_, rfl⟩
          have HBAD : Hid ((b2 || pointB (restL m)) = bad) := by
            show _ = _
            rw [← hbad, ← hb2, ← hb1]
            rfl
          have HB1 := Lib.hid hb1
          have HB2 := Lib.hid hb2
          have HCAP := Lib.hid hcap
          have HREST := Lib.hid hrest
          have HLEN := Lib.hid hlen
          have hlen' : (q : Int) - a = (digsL m).length := by omega
          clear e1 e2 hrel HB hcap hrest hlen hbad hb1 hb2
          obtain ⟨L, hL⟩ : ∃ L, (digsL m).length = L := ⟨_, rfl⟩
          have HL := Lib.hid hL
          rw [hL] at hlen'
          clear hL
          go_wp2_with fail
          go_cut [149] from 76 to 149 (fun x wx => x = .bool bad ∧ ∃ n, wr.drewN n = wx)
          case first =>
            go_wp2
            try dsimp only [List.append]
            refine wp_region_quiet_lit (by kernel_rfl) (by kernel_rfl) ?_
            refine Qc.at_slot 16 91 (.bool b1) ?_ ?_
            · simp only [List.take_succ_cons, List.take_zero]
              by_cases g0 : L = 0
              · have e : b1 = true := by rw [← HB1.out, HL.out, decide_eq_true g0]; rfl
                have q0 : ((L : Int) == 0) = true := by rw [beq_iff_eq]; omega
                subst e
                clear HBAD HCAP HREST HLEN HL HB1 HB2
                repeat (go_big_quiet_step (fail))
                refine wpQuiet_nil ?_
                exact Qc.mid_of (by kernel_rfl) (by kernel_rfl) (by kernel_rfl) (Nat.le_of_ble_eq_true (by kernel_rfl)) (by kernel_rfl)
              · have q0 : ((L : Int) == 0) = false := by rw [beq_eq_false_iff_ne]; omega
                have hal : a < s.size := by omega
                have HH := Lib.hid (show (digsL m).head? = some s[a] by rw [← HM.out]; exact head_digs hal (by rw [HM.out, HL.out]; omega))
                by_cases g1 : 1 < L
                · have q1 : (1 : Int) < (L : Int) := by omega
                  by_cases g2 : s[a].toNat = 48
                  · have e : b1 = true := by rw [← HB1.out, HL.out, HH.out, decide_eq_true g1, show s[a] = 48 from byte_eq (by rw [g2]; rfl)]; simp
                    have q2 : ((s[a].toNat : Int) == 48) = true := by rw [beq_iff_eq]; omega
                    subst e
                    clear HBAD HCAP HREST HLEN HL HB1 HB2 HH
                    repeat (go_big_quiet_step (fail))
                    refine wpQuiet_nil ?_
                    exact Qc.mid_of (by kernel_rfl) (by kernel_rfl) (by kernel_rfl) (Nat.le_of_ble_eq_true (by kernel_rfl)) (by kernel_rfl)
                  · have e : b1 = false := by rw [← HB1.out, HL.out, HH.out, decide_eq_false g0, decide_eq_false (show ¬ some s[a] = some 48 from fun h' => g2 (by rw [Option.some.inj h']; rfl))]; simp
                    have q2 : ((s[a].toNat : Int) == 48) = false := by rw [beq_eq_false_iff_ne]; omega
                    subst e
                    clear HBAD HCAP HREST HLEN HL HB1 HB2 HH
                    repeat (go_big_quiet_step (fail))
                    refine wpQuiet_nil ?_
                    exact Qc.mid_of (by kernel_rfl) (by kernel_rfl) (by kernel_rfl) (Nat.le_of_ble_eq_true (by kernel_rfl)) (by kernel_rfl)
                · have q1 : decide ((1 : Int) < (L : Int)) = false := by rw [decide_eq_false_iff_not]; omega
                  have q1' : decide (1 < L) = false := decide_eq_false g1
                  have e : b1 = false := by rw [← HB1.out, HL.out, decide_eq_false g0, q1']; rfl
                  subst e
                  clear HBAD HCAP HREST HLEN HL HB1 HB2 HH
                  repeat (go_big_quiet_step (fail))
                  refine wpQuiet_nil ?_
                  exact Qc.mid_of (by kernel_rfl) (by kernel_rfl) (by kernel_rfl) (Nat.le_of_ble_eq_true (by kernel_rfl)) (by kernel_rfl)
            · intro a1 hM
              refine Qc.on (G := fun a => wpQuiet _ _ _ _ _ a) hM ?_
              intro x76 x77 x78 x79 x80 x81 x82 x83 x84 x85 x86 x87 x88 x89 x90 x91 x92 x93 x94 x95 x96 x97 x98 x99 x100 x101 x102 x103 x104 x105 x106 x107 x108 x109 x110 x111 x112 x113 x114 x115 x116 x117 x118 x119 x120 x121 x122 x123 x124 x125 x126 x127 x128 x129 x130 x131 x132 x133 x134 x135 x136 x137 x138 x139 x140 x141 x142 x143 x144 x145 x146 x147 x148 x149 hx
              obtain rfl : x91 = .bool b1 := by simpa using hx
              clear hx hM
              simp only [List.take_succ_cons, List.take_zero, List.drop_succ_cons, List.drop_zero, List.cons_append, List.nil_append]
              refine Qc.at_slot 11 102 (.bool b2) ?_ ?_
              · simp only [List.take_succ_cons, List.take_zero]
                cases b1 with
                | true =>
                  have e : b2 = true := by rw [← HB2.out]; rfl
                  subst e
                  clear HBAD HCAP HREST HLEN HL HB1 HB2
                  repeat (go_big_quiet_step (fail))
                  refine wpQuiet_nil ?_
                  exact Qc.mid_of (by kernel_rfl) (by kernel_rfl) (by kernel_rfl) (Nat.le_of_ble_eq_true (by kernel_rfl)) (by kernel_rfl)
                | false =>
                  by_cases g3 : (9007199254740991 : Int) < (V : Int)
                  · have e : b2 = true := by rw [← HB2.out, decide_eq_true ((capV_num _ 0).1.1 (by rw [← HCAP.out]; unfold maxNum; omega))]; rfl
                    subst e
                    clear HBAD HCAP HREST HLEN HL HB1 HB2
                    repeat (go_big_quiet_step (fail))
                    refine wpQuiet_nil ?_
                    exact Qc.mid_of (by kernel_rfl) (by kernel_rfl) (by kernel_rfl) (Nat.le_of_ble_eq_true (by kernel_rfl)) (by kernel_rfl)
                  · have q3 : decide ((9007199254740991 : Int) < (V : Int)) = false := by rw [decide_eq_false_iff_not]; exact g3
                    have hle : numV 0 (digsL m) ≤ maxNum := by
                      rcases Nat.lt_or_ge maxNum (numV 0 (digsL m)) with h' | h'
                      · have := (capV_num (digsL m) 0).1.2 h'
                        rw [← HCAP.out] at this
                        unfold maxNum at this
                        omega
                      · exact h'
                    have hVe : numV 0 (digsL m) = V := by rw [HCAP.out, (capV_num _ 0).2 hle]
                    cases neg with
                    | false =>
                      have e : b2 = false := by rw [← HB2.out, decide_eq_false (by omega)]; rfl
                      subst e
                      clear HBAD HCAP HREST HLEN HL HB1 HB2 hle hVe
                      repeat (go_big_quiet_step (fail))
                      refine wpQuiet_nil ?_
                      exact Qc.mid_of (by kernel_rfl) (by kernel_rfl) (by kernel_rfl) (Nat.le_of_ble_eq_true (by kernel_rfl)) (by kernel_rfl)
                    | true =>
                      by_cases g5 : V = 0
                      · have e : b2 = true := by rw [← HB2.out, hVe, decide_eq_true g5]; simp
                        have q5 : ((V : Int) == 0) = true := by rw [beq_iff_eq]; omega
                        subst e
                        clear HBAD HCAP HREST HLEN HL HB1 HB2 hle hVe
                        repeat (go_big_quiet_step (fail))
                        refine wpQuiet_nil ?_
                        exact Qc.mid_of (by kernel_rfl) (by kernel_rfl) (by kernel_rfl) (Nat.le_of_ble_eq_true (by kernel_rfl)) (by kernel_rfl)
                      · have e : b2 = false := by rw [← HB2.out, hVe, decide_eq_false g5, decide_eq_false (by omega)]; rfl
                        have q5 : ((V : Int) == 0) = false := by rw [beq_eq_false_iff_ne]; omega
                        subst e
                        clear HBAD HCAP HREST HLEN HL HB1 HB2 hle hVe
                        repeat (go_big_quiet_step (fail))
                        refine wpQuiet_nil ?_
                        exact Qc.mid_of (by kernel_rfl) (by kernel_rfl) (by kernel_rfl) (Nat.le_of_ble_eq_true (by kernel_rfl)) (by kernel_rfl)
              · intro a2 hM
                refine Qc.on (G := fun a => wpQuiet _ _ _ _ _ a) hM ?_
                intro y76 y77 y78 y79 y80 y81 y82 y83 y84 y85 y86 y87 y88 y89 y90 y91 y92 y93 y94 y95 y96 y97 y98 y99 y100 y101 y102 y103 y104 y105 y106 y107 y108 y109 y110 y111 y112 y113 y114 y115 y116 y117 y118 y119 y120 y121 y122 y123 y124 y125 y126 y127 y128 y129 y130 y131 y132 y133 y134 y135 y136 y137 y138 y139 y140 y141 y142 y143 y144 y145 y146 y147 y148 y149 hy
                obtain rfl : y102 = .bool b2 := by simpa using hy
                clear hy hM
                simp only [List.take_succ_cons, List.take_zero, List.drop_succ_cons, List.drop_zero, List.cons_append, List.nil_append]
                cases b2 with
                | true =>
                  have e : bad = true := by rw [← HBAD.out]; rfl
                  subst e
                  clear HBAD HCAP HREST HLEN HL HB1 HB2
                  repeat (go_big_quiet_step (fail))
                  refine wpQuiet_nil ?_
                  intro _ hw'
                  obtain ⟨nq, hw''⟩ := hw'
                  subst hw''
                  go_wp2
                  go_meet
                  exact ⟨rfl, _, by first | rfl | exact (World.drewN_drewN _ _ _).symm⟩
                | false =>
                  have hp : pointB (restL m) = bad := by rw [← HBAD.out]; rfl
                  rw [← HREST.out] at hp
                  rcases Nat.lt_or_ge q s.size with hl | hl
                  · rw [point_at hl] at hp
                    by_cases g6 : s[q].toNat = 46
                    · have e : bad = true := by rw [← hp, show s[q] = 46 from byte_eq (by rw [g6]; rfl)]; rfl
                      have qg6 : ((s[q].toNat : Int) == 46) = true := by rw [beq_iff_eq]; omega
                      clear hp
                      subst e
                      clear HBAD HCAP HREST HLEN HL HB1 HB2
                      repeat (go_big_quiet_step (fail))
                      refine wpQuiet_nil ?_
                      intro _ hw'
                      obtain ⟨nq, hw''⟩ := hw'
                      subst hw''
                      go_wp2
                      go_meet
                      exact ⟨rfl, _, by first | rfl | exact (World.drewN_drewN _ _ _).symm⟩
                    have qg6 : ((s[q].toNat : Int) == 46) = false := by rw [beq_eq_false_iff_ne]; omega
                    by_cases g7 : s[q].toNat = 101
                    · have e : bad = true := by rw [← hp, show s[q] = 101 from byte_eq (by rw [g7]; rfl)]; rfl
                      have qg7 : ((s[q].toNat : Int) == 101) = true := by rw [beq_iff_eq]; omega
                      clear hp
                      subst e
                      clear HBAD HCAP HREST HLEN HL HB1 HB2
                      repeat (go_big_quiet_step (fail))
                      refine wpQuiet_nil ?_
                      intro _ hw'
                      obtain ⟨nq, hw''⟩ := hw'
                      subst hw''
                      go_wp2
                      go_meet
                      exact ⟨rfl, _, by first | rfl | exact (World.drewN_drewN _ _ _).symm⟩
                    have qg7 : ((s[q].toNat : Int) == 101) = false := by rw [beq_eq_false_iff_ne]; omega
                    by_cases g8 : s[q].toNat = 69
                    · have e : bad = true := by rw [← hp, show s[q] = 69 from byte_eq (by rw [g8]; rfl)]; rfl
                      have qg8 : ((s[q].toNat : Int) == 69) = true := by rw [beq_iff_eq]; omega
                      clear hp
                      subst e
                      clear HBAD HCAP HREST HLEN HL HB1 HB2
                      repeat (go_big_quiet_step (fail))
                      refine wpQuiet_nil ?_
                      intro _ hw'
                      obtain ⟨nq, hw''⟩ := hw'
                      subst hw''
                      go_wp2
                      go_meet
                      exact ⟨rfl, _, by first | rfl | exact (World.drewN_drewN _ _ _).symm⟩
                    have qg8 : ((s[q].toNat : Int) == 69) = false := by rw [beq_eq_false_iff_ne]; omega
                    have e : bad = false := by
                      rw [← hp]
                      have n6 : s[q] ≠ 46 := fun h' => g6 (by rw [h']; rfl)
                      have n7 : s[q] ≠ 101 := fun h' => g7 (by rw [h']; rfl)
                      have n8 : s[q] ≠ 69 := fun h' => g8 (by rw [h']; rfl)
                      simp [n6, n7, n8]
                    clear hp
                    subst e
                    clear HBAD HCAP HREST HLEN HL HB1 HB2
                    repeat (go_big_quiet_step (fail))
                    refine wpQuiet_nil ?_
                    intro _ hw'
                    obtain ⟨nq, hw''⟩ := hw'
                    subst hw''
                    go_wp2
                    go_meet
                    exact ⟨rfl, _, by first | rfl | exact (World.drewN_drewN _ _ _).symm⟩
                  · have gi : decide (q < s.size) = false := by rw [decide_eq_false_iff_not]; omega
                    have e : bad = false := by rw [← hp, point_end hl]
                    clear hp
                    subst e
                    clear HBAD HCAP HREST HLEN HL HB1 HB2
                    repeat (go_big_quiet_step (fail))
                    refine wpQuiet_nil ?_
                    intro _ hw'
                    obtain ⟨nq, hw''⟩ := hw'
                    subst hw''
                    go_wp2
                    go_meet
                    exact ⟨rfl, _, by first | rfl | exact (World.drewN_drewN _ _ _).symm⟩
          case rest =>
            obtain ⟨rfl, n2, rfl⟩ := hcut
            have hr2 := hr.drewN n2
            have hst2 := hst.drewN n2
            have hbx2 := hbx.drewN n2
            have HNUM : Hid (numberL (tail s i) = numberN neg m) := hnum
            clear hr hst hbx hnum h1
            cases bad with
            | true =>
              have HE : Hid (numberL (tail s i) = .error 3) := by show _ = _; rw [HNUM.out, numberN, HBADN.out, if_pos rfl]
              clear HNUM
              go_wp2_with fail
              refine (fail_any R s q d 0 3 _ hr2).mono ?_
              rintro e' w3 ⟨rfl, hr3, hs3⟩
              have hst3 := hst2.trans hs3
              have hbx3 := hbx2.keep hs3 hGR
              clear hr2 hst2 hbx2 hs3
              have b0' := hbx3.p0
              have b1' := hbx3.p1
              have b2' := hbx3.p2
              have b3' := hbx3.p3
              have b4' := hbx3.p4
              have f0 := hbx3.free 0
              have f1 := hbx3.free 1
              have f2 := hbx3.free 2
              have f3 := hbx3.free 3
              have f4 := hbx3.free 4
              cases neg with
              | true =>
                go_wp2
                refine bodyPost_ret (node_result rfl _ rfl (hbx3.setAll _ _ _ _ _)) rfl ?_
                refine ⟨hst3.setAll hgs _ _ _ _ _, _, rfl, ?_⟩
                rw [HE.out]
                exact ⟨⟨_, node_plain _ _ _ _ _⟩, by decide, q, hq2, by simpa using hr3.setAll hGR _ _ _ _ _⟩
              | false =>
                go_wp2
                refine bodyPost_ret (node_result rfl _ rfl (hbx3.setAll _ _ _ _ _)) rfl ?_
                refine ⟨hst3.setAll hgs _ _ _ _ _, _, rfl, ?_⟩
                rw [HE.out]
                exact ⟨⟨_, node_plain _ _ _ _ _⟩, by decide, q, hq2, by simpa using hr3.setAll hGR _ _ _ _ _⟩
            | false =>
              have hle : numV 0 (digsL m) ≤ maxNum := by
                rcases Nat.lt_or_ge maxNum (numV 0 (digsL m)) with h' | h'
                · have := bad_great (neg := neg) h'
                  rw [HBADN.out] at this
                  cases this
                · exact h'
              have hVe : numV 0 (digsL m) = V := by rw [HCAP.out, (capV_num _ 0).2 hle]
              have HE : Hid (numberL (tail s i) = .ok (numJ (if neg then -(V : Int) else (V : Int)), tail s q)) := by show _ = _; rw [HNUM.out, numberN, HBADN.out, if_neg (by decide), hVe, HREST.out]
              clear HNUM hle hVe
              have b0' := hbx2.p0
              have b1' := hbx2.p1
              have b2' := hbx2.p2
              have b3' := hbx2.p3
              have b4' := hbx2.p4
              have f0 := hbx2.free 0
              have f1 := hbx2.free 1
              have f2 := hbx2.free 2
              have f3 := hbx2.free 3
              have f4 := hbx2.free 4
              cases neg with
              | true =>
                go_wp2
                refine bodyPost_ret (node_result rfl _ rfl (hbx2.setAll _ _ _ _ _)) rfl ?_
                refine ⟨hst2.setAll hgs _ _ _ _ _, _, rfl, ?_⟩
                rw [HE.out]
                exact ⟨node_plain _ _ _ _ _, q, hq2, rfl, hr2.setAll hGR _ _ _ _ _⟩
              | false =>
                go_wp2
                refine bodyPost_ret (node_result rfl _ rfl (hbx2.setAll _ _ _ _ _)) rfl ?_
                refine ⟨hst2.setAll hgs _ _ _ _ _, _, rfl, ?_⟩
                rw [HE.out]
                exact ⟨node_plain _ _ _ _ _, q, hq2, rfl, hr2.setAll hGR _ _ _ _ _⟩
end Go.Proofs.Ytpnffmimpkimeaa.J7
