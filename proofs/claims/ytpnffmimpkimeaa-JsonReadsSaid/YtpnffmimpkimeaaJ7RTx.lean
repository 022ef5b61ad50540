/-
  The reader of the document's answer for package json: a text behind its first sign. Conditions: the text has at most 65536 bytes.
-/
import Derived.Test.YtpnffmimpkimeaaJ7Esc
import Derived.Test.YtpnffmimpkimeaaU8RefGet
import Derived.Test.YtpnffmimpkimeaaJ7Kids
import Derived.StillTailTactics
import Derived.Deep.RegionHeld3
namespace Go.Proofs.Ytpnffmimpkimeaa.J7
open Go Go.RowKit Go.Joins Kit

/-- Bytes of the call's own that grow. -/
def Gr (B : Nat) (v : Value) (l : List UInt8) (w : World) : Prop := w.ownsRow B 5 1 v l.length (Lib.byteCells l)
theorem Gr.step {R B : Nat} {v : Value} {l : List UInt8} {w w' : World} (h : Gr B v l w) (hs : Step R w w') (hR : R < B) : Gr B v l w' :=
  own_keep5 h fun g hg hl => hs.block g hl (by have := (World.ownsRow.lt h g hg).1; omega)
theorem gr_text {ops : Array Oper} {rest : List Oper} {o : Oper} {a : Act} {Q : Exit → Act → World → Prop} (hgd : o.guard = none) (sl x : Operand)
    (ho : o.op = .call { callee := .builtin .append, args := #[sl, x], argTypes := #[22, 9] })
    {R : Nat} {s : ByteArray} {i d e : Int} {w0 w : World} {v : Value} {l : List UInt8} (hG : Gr w0.heap.size v l w) (hr : Rd R s i d e w) (hst : Step R w0 w) (hR : R < w0.heap.size) (t : ByteArray) (hs : a.eval sl = v) (hx : a.eval x = .string t)
    (hlen : l.length + t.size ≤ 140737488355328)
    (h : ∀ v' w', Gr w0.heap.size v' (l ++ t.data.toList) w' → Rd R s i d e w' → Step R w0 w' → wpList Try.prog ops Q rest (a.put o.dst v') w') : wpList Try.prog ops Q (o :: rest) a w := by
  obtain ⟨i0, hi, hz0, hz1, hz2⟩ := info_parts Kit.info5
  refine Lib.wpList_append_own_string _ hgd sl x 22 9 ho w0.heap.size 5 i0 Try.underlying22 Try.underlying9 hi hz0 hz1 hz2 v l.length _ hs hG t hx ?_ ?_ ?_ ?_
  · unfold maxLen; omega
  · omega
  · exact hst.size
  · intro v' w' ho' hg _
    have hne : ∀ k, k < w0.heap.size → some k ≠ v.ownBlock := fun k hk e => by have := (World.ownsRow.lt hG k e.symm).1; omega
    refine h v' w' ?_ ⟨by rw [hg.block R hr.lt (hne R hR)]; exact hr.blk⟩ ⟨hg.os.trans hst.os, hg.tape.trans hst.tape, hg.output.trans hst.output, Nat.le_trans hst.size hg.size, fun k hk hn => (hg.block k (Nat.lt_of_lt_of_le hk hst.size) (hne k hk)).trans (hst.block k hk hn)⟩
    show w'.ownsRow _ _ _ _ _ _
    rw [List.length_append, Lib.byteCells_append, ← Lib.size_eq]
    exact ho'
theorem putL_four (r : Int) : (U8.putL r).length ≤ 4 := by
  rw [U8.putL_length]
  unfold U8.sizeN
  repeat (first | omega | split)
theorem unit_four {l t r : List UInt8} (h : unitL l = .ok (t, r)) : t.length ≤ 4 := by
  unfold unitL at h
  split at h
  · cases h
  · split at h
    · unfold lowL at h
      split at h
      · cases h
      · split at h
        · cases h
        · split at h
          · cases h
          · split at h
            · injection h with h; injection h with h _; rw [← h]; exact putL_four _
            · cases h
    · split at h
      · cases h
      · injection h with h; injection h with h _; rw [← h]; exact putL_four _
theorem escape_four {l t r : List UInt8} (h : escapeL l = .ok (t, r)) : t.length ≤ 4 ∧ r.length < l.length := by
  refine ⟨?_, (escape_suffix h).2⟩
  cases l with
  | nil => rw [escapeL] at h; cases h
  | cons c u =>
    rw [escapeL] at h
    split at h
    · injection h with h; injection h with h _; rw [← h]; exact Nat.le_of_ble_eq_true rfl
    · split at h
      · exact unit_four h
      · cases h
theorem rt_end (f : Nat) (l : List UInt8) {s : ByteArray} {q : Nat} (h : s.size ≤ q) : textF f l (tail s q) = .error 3 := by
  rw [tail_end h]
  cases f <;> rfl
theorem rt_at (f : Nat) (l : List UInt8) {s : ByteArray} {q : Nat} (h : q < s.size) {c : UInt8} (hc : s[q] = c) : textF (f + 1) l (tail s q) =
    if c = 34 then .ok (l, tail s (q + 1))
    else if c = 92 then (match escapeL (tail s (q + 1)) with
      | .error e => .error e
      | .ok (t, r1) => textF f (l ++ t) r1)
    else if c.toNat < 32 then .error 3
    else match U8.decL (tail s q) with
      | none => .error 3
      | some (_, n) => textF f (l ++ (tail s q).take n) ((tail s q).drop n) := by
  rw [tail_cons h, textF, hc]
  rfl

set_option maxHeartbeats 8000000 in
set_option maxRecDepth 100000 in
theorem rtext_any (R : Nat) (s : ByteArray) (i : Nat) (d : Int) (w : World) (h : Rd R s i d 0 w) (hs : s.size ≤ 65536) (hi : i ≤ s.size) :
    Calls Try.prog 36 #[.pointer (some ⟨R, 0, none⟩)] w fun e' w' => TextLeft R s d w (textL (tail s i)) e' w' := by
  have hsz : (s.size : Int) ≤ 65536 := by omega
  have hRl := h.lt
  obtain ⟨O, hO⟩ : ∃ O, textL (tail s i) = O := ⟨_, rfl⟩
  rw [hO]
  have HO0 : Hid (textF ((tail s i).length + 1) [] (tail s i) = O ∧ s.size - i < (tail s i).length + 1) := Lib.hid ⟨hO, by rw [tail_length]; omega⟩
  have hst0 := Step.refl R w
  have hG0 : Gr w.heap.size (.slice none 0 0) [] w := World.ownsRow_nil _ _ _ _
  obtain ⟨F, hF⟩ : ∃ F, (tail s i).length + 1 = F := ⟨_, rfl⟩
  rw [hF] at HO0
  clear hO hF
  go_enter Try.func36, Try.ntmps36
  go_wp2_with fail
  go_loopg [3] (s.size - i + 1) (fun m v wr => ∃ (v0 : Value) (q f : Nat) (l : List UInt8), v0 = v ∧ Gr w.heap.size v0 l wr ∧ q ≤ s.size ∧ Step R w wr ∧ ((m = s.size - q + 1 ∧ (l.length : Int) ≤ 4 * q ∧ Hid (textF f l (tail s q) = O ∧ s.size - q < f) ∧ Rd R s (q : Int) d 0 wr) ∨ (m = 0 ∧ Hid (O = .error 3) ∧ Rd R s (q : Int) d 3 wr)))
  case atStart => exact ⟨_, i, F, [], rfl, hG0, hi, hst0, Or.inl ⟨rfl, by show (0 : Int) ≤ 4 * (i : Int); omega, HO0, h⟩⟩
  case round =>
    clear h hG0 hst0 HO0 hi
    obtain ⟨v0, q, f, l, hv0, hG, hq, hst, hor⟩ := hrel
    subst hv0
    rcases hor with ⟨hm, hlq, HF, hr⟩ | ⟨hm, HE, hr⟩
    rotate_left 1
    · have h3 := hr.c3
      go_wp2_with fail
      go_ret
      refine ⟨hst, _, rfl, ?_⟩
      rw [HE.out]
      exact ⟨rfl, by decide, q, hq, hr⟩
    · subst hm
      have h0 := hr.c0
      have h1 := hr.c1
      have h3 := hr.c3
      rcases Nat.lt_or_ge q s.size with hl | hl
      rotate_left 1
      · have HE := Lib.hid (HF.out.1.symm.trans (rt_end f l hl))
        have gi : decide (s.size ≤ q) = true := by rw [decide_eq_true_iff]; omega
        go_wp2
        go_quiet (fail)
        go_wp2_with fail
        refine (fail_any R s q d 0 3 _ (hr.drewN _)).mono ?_
        rintro e' w3 ⟨rfl, hr3, hs3⟩
        have hst3 := (hst.drewN _).trans hs3
        go_wp2_with fail
        go_ret
        refine ⟨hst3, _, rfl, ?_⟩
        rw [HE.out]
        exact ⟨rfl, by decide, q, hq, by simpa using hr3⟩
      · obtain ⟨f', rfl⟩ : ∃ g, f = g + 1 := ⟨f - 1, by have := HF.out.2; omega⟩
        have g1 : (q : Int) < s.size := by omega
        obtain ⟨c, hc⟩ : ∃ c, s[q] = c := ⟨_, rfl⟩
        have hcn : (s[q].toNat : Int) = (c.toNat : Int) := by rw [hc]
        have hcl := c.toNat_lt
        have hat := rt_at f' l hl hc
        rw [HF.out.1] at hat
        have HAT := Lib.hid hat
        clear hat hc
        go_wp2
        go_quiet (fail)
        go_upto_region 5 with fail
        go_cut [4] from 24 to 95 (fun x wx => ∃ W : World, x = .int .u8 (c.toNat : Int) ∧ Rd R s (q : Int) d 0 W ∧ Step R w W ∧ Gr w.heap.size v0 l W ∧ W = wx)
        case first =>
          go_wp2
          go_quiet (fail)
          go_wp2
          go_meet
          refine ⟨_, rfl, ?_, ?_, ?_, rfl⟩
          · first | exact (hr.drewN _) | exact (hr.drewN _).drewN _
          · first | exact (hst.drewN _) | exact (hst.drewN _).drewN _
          · first | exact (hG.step ((Step.refl R _).drewN _) hRl) | exact (hG.step (((Step.refl R _).drewN _).drewN _) hRl)
        case rest =>
          clear hr hst hG h0 h1 h3 hcn g1
          obtain ⟨W, rfl, hr, hst, hG, rfl⟩ := hcut
          have h0 := hr.c0
          have h1 := hr.c1
          have hz := hr.free 1
          have hr1 : Rd R s ((q + 1 : Nat) : Int) d 0 (W.setCell ⟨R, 1, none⟩ (.int .i64 ((q : Int) + 1))) := by rw [show ((q + 1 : Nat) : Int) = (q : Int) + 1 by omega]; exact hr.set1 ((q : Int) + 1)
          have hst1 : Step R w (W.setCell ⟨R, 1, none⟩ (.int .i64 ((q : Int) + 1))) := hst.set 1 _
          have hG1 : Gr w.heap.size v0 l (W.setCell ⟨R, 1, none⟩ (.int .i64 ((q : Int) + 1))) := hG.step ((Step.refl R W).set 1 _) hRl
          by_cases c1 : c = 34
          · have HE : Hid (O = .ok (l, tail s (q + 1))) := Lib.hid (HAT.out.trans (if_pos c1))
            have e' : (c.toNat : Int) = 34 := by rw [c1]; rfl
            have hrun := Kit.run_row l l.length v0 (W.setCell ⟨R, 1, none⟩ (.int .i64 ((q : Int) + 1))) _ hG1
            clear HAT HF c1 hcl
            (try rw [e'])
            go_wp2_with fail
            go_ret
            refine ⟨hst1, _, rfl, ?_⟩
            rw [HE.out]
            exact ⟨rfl, q + 1, by omega, rfl, hr1⟩
          have HAT1 := Lib.hid (HAT.out.trans (if_neg c1))
          have z1 : ((c.toNat : Int) == 34) = false := by rw [beq_eq_false_iff_ne]; exact fun e => c1 (byte_eq e)
          clear HAT
          by_cases c2 : c = 92
          · have HAT2 := HAT1.out.trans (if_pos c2)
            have e' : (c.toNat : Int) = 92 := by rw [c2]; rfl
            have hx := escape_any R s (q + 1) d _ hr1 hs (by omega)
            cases ho : escapeL (tail s (q + 1)) with
            | error er =>
              rw [ho] at hx HAT2
              simp only at HAT2
              have HE0 := Lib.hid HAT2
              clear HAT1 HAT2 HF c1 c2 hcl ho z1
              (try rw [e'])
              go_wp2_with fail
              refine hx.mono ?_
              rintro e' w2 ⟨hs2, T, rfl, rfl, hT, k, hk, hr2⟩
              have hst2 := hst1.trans hs2
              have hG2 := hG1.step hs2 hRl
              have hlen : l.length + T.size ≤ 140737488355328 := by omega
              have HL := Lib.hid hlen
              have HT := Lib.hid hT
              clear hx hlen hT
              go_wp2_with (at_builtin; refine gr_text rfl _ _ rfl hG2 hr2 hst2 hRl T rfl rfl HL.out ?_)
              intro v3 w3 hG3 hr3 hst3
              go_wp2_with fail
              go_roundg 0
              case measure => omega
              case rel => exact ⟨v3, k, 0, _, rfl, hG3, hk, hst3, Or.inr ⟨rfl, HE0, hr3⟩⟩
            | ok x =>
              obtain ⟨t, r1⟩ := x
              obtain ⟨t4, r4⟩ := escape_four ho
              rw [ho] at hx HAT2
              simp only at HAT2
              have HF2 := Lib.hid HAT2
              have T4 : Hid (t.length ≤ 4) := t4
              have R4 : Hid (r1.length < (tail s (q + 1)).length) := r4
              clear HAT1 HAT2 c1 c2 hcl ho z1 t4 r4
              (try rw [e'])
              go_wp2_with fail
              refine hx.mono ?_
              rintro e' w2 ⟨hs2, T, rfl, hT, k, hk, hrk, hr2⟩
              have hst2 := hst1.trans hs2
              have hG2 := hG1.step hs2 hRl
              have hT4 : T.size ≤ 4 := by rw [Lib.size_eq, hT]; exact T4.out
              have hlen : l.length + T.size ≤ 140737488355328 := by omega
              have hkq : q + 1 < k := by have := R4.out; rw [hrk, tail_length, tail_length] at this; omega
              have HB4 : Hid (((l ++ T.data.toList).length : Int) ≤ 4 * k) := by show _ ≤ _; rw [List.length_append, ← Lib.size_eq]; omega
              have HF3 : Hid (textF f' (l ++ T.data.toList) (tail s k) = O ∧ s.size - k < f') := Lib.hid ⟨by rw [hT, ← hrk]; exact HF2.out.symm, by have := HF.out.2; omega⟩
              have HL := Lib.hid hlen
              clear hx hlen hT hrk HF2 HF T4 R4 hT4
              go_wp2_with (at_builtin; refine gr_text rfl _ _ rfl hG2 hr2 hst2 hRl T rfl rfl HL.out ?_)
              intro v3 w3 hG3 hr3 hst3
              go_wp2_with fail
              go_roundg (s.size - k + 1)
              case measure => omega
              case rel => exact ⟨v3, k, f', _, rfl, hG3, hk, hst3, Or.inl ⟨rfl, HB4.out, HF3, hr3⟩⟩
          have HAT2 := Lib.hid (HAT1.out.trans (if_neg c2))
          have z2 : ((c.toNat : Int) == 92) = false := by rw [beq_eq_false_iff_ne]; exact fun e => c2 (byte_eq e)
          clear HAT1
          by_cases c3 : c.toNat < 32
          · have HE0 := Lib.hid (HAT2.out.trans (if_pos c3))
            have z3 : (c.toNat : Int) < 32 := by omega
            clear HAT2 HF c1 c2 c3 hcl
            go_wp2_with fail
            refine (fail_any R s q d 0 3 W hr).mono ?_
            rintro e' w3 ⟨rfl, hr3, hs3⟩
            have hst3 := hst.trans hs3
            have hG3 := hG.step hs3 hRl
            go_wp2_with fail
            go_roundg 0
            case measure => omega
            case rel => exact ⟨v0, q, 0, _, rfl, hG3, hq, hst3, Or.inr ⟨rfl, HE0, by simpa using hr3⟩⟩
          have HAT3 := Lib.hid (HAT2.out.trans (if_neg c3))
          have z3 : decide ((c.toNat : Int) < 32) = false := by rw [decide_eq_false_iff_not]; omega
          clear HAT2 c1 c2 c3 hcl
          have hkeep : ∀ w1 w2 : World, Rd R s (q : Int) d 0 w1 → Below w1.heap.size w1 w2 → Rd R s (q : Int) d 0 w2 := fun w1 w2 h1 h2 => ⟨by rw [h2.block R h1.lt]; exact h1.blk⟩
          have HKEEP : Hid (∀ w1 w2 : World, Rd R s (q : Int) d 0 w1 → Below W.heap.size W w1 → Below w1.heap.size w1 w2 → (Rd R s (q : Int) d 0 w2 ∧ Below W.heap.size W w2 ∧ w2.cell? ⟨R, 0, none⟩ = some (.string s) ∧ w2.cell? ⟨R, 1, none⟩ = some (.int .i64 (q : Int)))) := fun w1 w2 h1 h2 h3 => by
            have h4 := hkeep w1 w2 h1 h3
            exact ⟨h4, h2.trans (h3.mono h2.size), h4.c0, h4.c1⟩
          have hdr : Rd R s (q : Int) d 0 W.drew := hr.drew
          have hdb : Below W.heap.size W W.drew := (Below.refl _ W).drew
          cases hd : U8.decL (tail s q) with
          | none =>
            have HE0 : Hid (O = .error 3) := by have := HAT3.out; rw [hd] at this; exact this
            have hget := fun w0 => U8.rget_none (s := s) (a := q) hd (by omega) w0
            clear HAT3 HF hd hkeep
            go_wp2_with fail
            go_region_with (refine (hget _).mono ?_; rintro e w2 ⟨rfl, hb2⟩)
            all_goals
              obtain ⟨hr2, hW2, -, -⟩ := HKEEP.out W.drew w2 hdr hdb hb2
              have hst2 := hst.trans (Step.of_below hW2)
              have hG2 := hG.step (Step.of_below (R := R) hW2) hRl
              go_wp2_with fail
              refine (fail_any R s q d 0 3 w2 hr2).mono ?_
              rintro e' w3 ⟨rfl, hr3, hs3⟩
              have hst3 := hst2.trans hs3
              have hG3 := hG2.step hs3 hRl
              go_wp2_with fail
              go_roundg 0
              case measure => omega
              case rel => exact ⟨v0, q, 0, _, rfl, hG3, hq, hst3, Or.inr ⟨rfl, HE0, by simpa using hr3⟩⟩
          | some x =>
            obtain ⟨p, n⟩ := x
            obtain ⟨d0, hn0, hn1, -⟩ := U8.decL_some hd
            rw [tail_length] at hn1
            have hn4 : n ≤ 4 := by rw [← d0]; exact U8.sizeN_le _
            have hHF := HAT3.out
            rw [hd] at hHF
            simp only at hHF
            have hget := fun w0 => U8.rget_some (s := s) (a := q) hd (by omega) w0
            obtain ⟨N, hN⟩ : ∃ N : Nat, q + n = N := ⟨_, rfl⟩
            have hNi : (q : Int) + (n : Int) = (N : Int) := by omega
            rw [hNi] at hget
            have HT : Hid ((s.extract q N).data.toList = (tail s q).take n) := by show _ = _; rw [← hN]; exact tail_take s q n
            have hTs : (s.extract q N).size ≤ 4 := by rw [Lib.size_eq, HT.out, List.length_take]; omega
            have HL : Hid (l.length + (s.extract q N).size ≤ 140737488355328) := by show _ ≤ _; omega
            have hTn : (s.extract q N).size ≤ n := by rw [Lib.size_eq, HT.out, List.length_take]; omega
            have HB4 : Hid (((l ++ (s.extract q N).data.toList).length : Int) ≤ 4 * N) := by show _ ≤ _; rw [List.length_append, ← Lib.size_eq]; omega
            have HF3 : Hid (textF f' (l ++ (s.extract q N).data.toList) (tail s N) = O ∧ s.size - N < f') := Lib.hid ⟨by rw [HT.out, ← hN, ← tail_drop]; exact hHF.symm, by have := HF.out.2; omega⟩
            have gN : (N : Int) ≤ s.size := by omega
            have gq : (q : Int) ≤ (N : Int) := by omega
            have gp : decide ((p : Int) < 0) = false := by rw [decide_eq_false_iff_not]; omega
            have hmeas : s.size - N + 1 < s.size - q + 1 := by omega
            have hNs : N ≤ s.size := by omega
            clear HAT3 HF hd hkeep d0 hn0 hn1 hn4 hHF hN hNi HT hTs hTn
            go_wp2_with fail
            go_region_with (refine (hget _).mono ?_; rintro e w2 ⟨rfl, hb2⟩)
            all_goals
              obtain ⟨hr2, hW2, -, -⟩ := HKEEP.out W.drew w2 hdr hdb hb2
              have hst2 := hst.trans (Step.of_below hW2)
              have hG2 := hG.step (Step.of_below (R := R) hW2) hRl
              have k0 := hr2.c0
              have k1 := hr2.c1
              go_wp2_with fail
              go_still_tail 11, (by kernel_rfl)
              refine gr_text rfl _ _ rfl (hG2.step ((Step.refl R w2).drew) hRl) hr2.drew hst2.drew hRl (s.extract q N) rfl rfl HL.out ?_
              intro v3 w3 hG3 hr3 hst3
              have m1 := hr3.c1
              have mz := hr3.free 1
              go_wp2_with fail
              go_roundg (s.size - N + 1)
              case measure => exact hmeas
              case rel => exact ⟨v3, N, f', _, rfl, hG3.step ((Step.refl R w3).set 1 _) hRl, hNs, hst3.set 1 _, Or.inl ⟨rfl, HB4.out, HF3, hr3.set1 _⟩⟩
end Go.Proofs.Ytpnffmimpkimeaa.J7
