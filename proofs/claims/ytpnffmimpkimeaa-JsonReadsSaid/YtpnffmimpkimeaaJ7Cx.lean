/-
  The program's reader of JSON: a text in its signs. Conditions: the text has at most 65536 bytes.
-/
import Derived.Test.YtpnffmimpkimeaaJ7Ct
namespace Go.Proofs.Ytpnffmimpkimeaa.J7
open Go Go.RowKit Go.Joins Kit

theorem Step.belowB {R B : Nat} {w w1 w2 : World} (h : Step R w w1) (hb : Below B w1 w2) (hB : w.heap.size ≤ B) : Step R w w2 :=
  ⟨hb.os.trans h.os, hb.tape.trans h.tape, hb.output.trans h.output, Nat.le_trans h.size hb.size, fun k hk hn => (hb.block k (by omega)).trans (h.block k hk hn)⟩
theorem Rc.belowB {R B i : Nat} {s : ByteArray} {w w' : World} (h : Rc R s i w) (hb : Below B w w') (hR : R < B) : Rc R s i w' := ⟨by rw [hb.block R hR]; exact h.blk⟩
theorem bld_keep {T e : TypeId} {R B b : Nat} {bs : List Value} {w w' : World} (h : Lib.IsBuilder T e B b bs w) (k : Step R w w') (hR : R < B) : Lib.IsBuilder T e B b bs w' := by
  rcases h with h | h
  · obtain ⟨hB, v, h1, h2, h3⟩ := h
    exact Or.inl ⟨hB, v, by rw [k.block b (Array.getElem?_eq_some_iff.1 h1).1 (by omega)]; exact h1, Bld.own_keep h2 (fun g hg hl => k.block g hl (by have := (h2.lt g hg).1; omega)), h3⟩
  · obtain ⟨hB, v, h1, h2, h3⟩ := h
    exact Or.inr ⟨hB, v, by rw [k.block b (Array.getElem?_eq_some_iff.1 h1).1 (by omega)]; exact h1, Bld.own_keep h2 (fun g hg hl => k.block g hl (by have := (h2.lt g hg).1; omega)), h3⟩
theorem bld_new (w : World) : Lib.IsBuilder 71 5 w.heap.size w.heap.size (Lib.byteCells []) (w.alloc (.cells #[.pointer none, .slice none 0 0] 71)) :=
  Or.inl ⟨Nat.le_refl _, .slice none 0 0, fresh_block w _ _, World.ownsRow_nil _ _ _ _, by intro h; cases h⟩
/-- A text with its first sign. -/
def quoL (l : List UInt8) : Out (List UInt8) := match eatL 34 l with
  | none => .error 3
  | some r => textL r
theorem textF_err {f : Nat} {out l : List UInt8} (h : (pk l).toNat < 32) (hl : l.length < f) : textF f out l = .error 3 := by
  obtain ⟨f, rfl⟩ : ∃ g, f = g + 1 := ⟨f - 1, by omega⟩
  cases l with
  | nil => rw [textF]
  | cons c r =>
    have hc : c.toNat < 32 := h
    have h1 : c ≠ 34 := fun e => by subst e; revert hc; decide
    have h2 : c ≠ 92 := fun e => by subst e; revert hc; decide
    rw [textF, if_neg h1, if_neg h2, if_pos hc]
theorem textF_end {f : Nat} {out r : List UInt8} (hl : (34 :: r).length < f) : textF f out (34 :: r) = .ok (out, r) := by
  obtain ⟨f, rfl⟩ : ∃ g, f = g + 1 := ⟨f - 1, by omega⟩
  rw [textF, if_pos rfl]
theorem textF_esc {f : Nat} {out r : List UInt8} : textF (f + 1) out (92 :: r) = match escapeL r with
    | .error e => .error e
    | .ok (t, r1) => textF f (out ++ t) r1 := by
  rw [textF, if_neg (by decide), if_pos rfl]
  rfl
theorem textF_plain {f : Nat} {out : List UInt8} {c : UInt8} {r : List UInt8} (h1 : c ≠ 34) (h2 : c ≠ 92) (h3 : ¬ c.toNat < 32) : textF (f + 1) out (c :: r) = match plainT (c :: r) with
    | .error e => .error e
    | .ok (t, r1) => textF f (out ++ t) r1 := by
  rw [textF, if_neg h1, if_neg h2, if_neg h3]
  unfold plainT
  cases U8.decL (c :: r) with
  | none => rfl
  | some x => obtain ⟨p, n⟩ := x; rfl
theorem putL_le (r : Int) : (U8.putL r).length ≤ 4 := by
  rw [U8.putL_length]
  unfold U8.sizeN
  repeat (first | omega | split)
theorem escape_le {l r t : List UInt8} (h : escapeL l = .ok (t, r)) : t.length ≤ 4 := by
  cases l with
  | nil => rw [escapeL] at h; cases h
  | cons c u =>
    rw [escapeL] at h
    split at h
    · obtain rfl := congrArg Prod.fst (Except.ok.inj h)
      exact (show 1 ≤ 4 by decide)
    · split at h
      · rw [unit_pt] at h
        split at h
        · cases h
        · obtain rfl := congrArg Prod.fst (Except.ok.inj h)
          exact putL_le _
      · cases h
theorem plainT_ok {l r t : List UInt8} (h : plainT l = .ok (t, r)) : t.length ≤ 4 ∧ r.length < l.length ∧ t.length + r.length = l.length := by
  unfold plainT at h
  split at h
  · cases h
  · rename_i p n e
    obtain ⟨h1, h2, h3, h4⟩ := U8.decL_some e
    have e1 := congrArg Prod.fst (Except.ok.inj h)
    have e2 := congrArg Prod.snd (Except.ok.inj h)
    simp only at e1 e2
    rw [← e1, ← e2, List.length_take, List.length_drop]
    have := putL_le p
    rw [← h4, List.length_take] at this
    omega

set_option maxHeartbeats 4000000 in
set_option maxRecDepth 100000 in
theorem text_any (R : Nat) (s : ByteArray) (i : Nat) (w : World) (h : Rc R s i w) (hs : s.size ≤ 65536) (hi : i ≤ s.size) :
    Calls Try.prog 31 #[.pointer (some ⟨R, 0, none⟩)] w fun e' w' => LeftC R s w (fun t : List UInt8 => .string ⟨t.toArray⟩) (quoL (tail s i)) e' w' := by
  have hsz : (s.size : Int) ≤ 65536 := by omega
  obtain ⟨O, hO⟩ : ∃ O, quoL (tail s i) = O := ⟨_, rfl⟩
  rw [hO]
  have hw := wantWord_any R s ⟨#[34]⟩ i w h hs hi (by decide)
  have hwl : wantWordL (ByteArray.mk #[34]).data.toList (tail s i) = wordO (eatL 34 (tail s i)) := by
    show (match wordL [34] (tail s i) with
      | some r => (.ok ((), r) : Out Unit)
      | none => .error 3) = _
    rw [wordL]
    cases eatL 34 (tail s i) with
    | none => rfl
    | some r => simp only; rw [wordL]; rfl
  rw [hwl] at hw
  unfold quoL at hO
  cases he : eatL 34 (tail s i) with
  | none =>
    simp only [he] at hO
    rw [he] at hw
    have HE := Lib.hid (show O = .error 3 from hO.symm)
    clear hO he hwl
    go_enter Try.func31, Try.ntmps31
    go_wp2_with fail
    refine hw.mono ?_
    rintro e' w1 ⟨hs1, hL⟩
    obtain rfl : e' = Errs 3 := hL
    go_wp2_with fail
    rw [HE.out]
    exact ⟨rfl, hs1, rfl⟩
  | some r0 =>
    simp only [he] at hO
    rw [he] at hw
    have HO := Lib.hid hO
    clear hO he hwl
    go_enter Try.func31, Try.ntmps31
    go_wp2_with fail
    refine hw.mono ?_
    rintro e' w1 ⟨hs1, hL⟩
    obtain ⟨rfl, k, hk, rfl, hr1⟩ := hL
    have HO2 : Hid (textF ((tail s k).length + 1) [] (tail s k) = O) := HO.out
    clear hw HO
    have hRl := hr1.lt
    obtain ⟨B, hB⟩ : ∃ B, w1.heap.size = B := ⟨_, rfl⟩
    have hbn := bld_new w1
    rw [hB] at hbn hRl
    have hwB : w.heap.size ≤ B := by have := hs1.size; omega
    go_wp2_with fail
    obtain ⟨w2, hw2⟩ : ∃ w2, (w1.alloc (.cells #[.pointer none, .slice none 0 0] 71)) = w2 := ⟨_, rfl⟩
    have hst2 : Step R w w2 := by rw [← hw2]; exact hs1.alloc _
    have hr2 : Rc R s k w2 := by rw [← hw2]; exact hr1.alloc _
    have hsz2 : B + 1 = w2.heap.size := by rw [← hw2, ← hB]; simp
    rw [hw2] at hbn
    (try rw [hw2])
    (try rw [hB])
    clear hw2
    go_loopg [] (s.size - k) (fun n wr => ∃ (q f : Nat) (out : List UInt8), n = s.size - q ∧ k ≤ q ∧ q ≤ s.size ∧ out.length ≤ 4 * q ∧ (tail s q).length < f ∧ Hid (textF f out (tail s q) = O) ∧ Rc R s q wr ∧ Step R w wr ∧ B ≤ wr.heap.size ∧ Lib.IsBuilder 71 5 B B (Lib.byteCells out) wr)
    case atStart => exact ⟨k, _, [], rfl, Nat.le_refl _, hk, Nat.zero_le _, Nat.lt_succ_self _, HO2, hr2, hst2, by omega, hbn⟩
    case round =>
      clear hst2 hr2 hbn hsz2 HO2
      obtain ⟨q, f, out, rfl, hq1, hq2, hol, hf, HQ, hr, hst, hBs, hbd⟩ := hrel
      have hpeek := peek_any R s q wr hr hs
      obtain ⟨x, hx⟩ : ∃ x, pk (tail s q) = x := ⟨_, rfl⟩
      rw [hx] at hpeek
      have hxb := x.toNat_lt
      by_cases h32 : x.toNat < 32
      · have HE := Lib.hid (show O = .error 3 from HQ.out.symm.trans (textF_err (by rw [hx]; exact h32) hf))
        have q0 : (x.toNat : Int) < 32 := by omega
        have q1 : ((x.toNat : Int) == 34) = false := by rw [beq_eq_false_iff_ne]; omega
        have q2 : ((x.toNat : Int) == 92) = false := by rw [beq_eq_false_iff_ne]; omega
        clear HQ hx h32 hf
        go_wp2_with fail
        refine hpeek.mono ?_
        rintro e' w3 ⟨rfl, hr3, hs3⟩
        go_wp2_with fail
        rw [HE.out]
        exact ⟨rfl, hst.trans hs3, rfl⟩
      · have hql : q < s.size := by
          rcases Nat.lt_or_ge q s.size with h' | h'
          · exact h'
          · rw [pk_end h'] at hx; subst hx; exact absurd (by decide) h32
        have hcons := tail_cons hql
        rw [pk_at hql] at hx
        rw [hx] at hcons
        obtain ⟨f, rfl⟩ : ∃ g, f = g + 1 := ⟨f - 1, by omega⟩
        by_cases h34 : x = 34
        · subst h34
          have HE := Lib.hid (show O = .ok (out, tail s (q + 1)) by rw [← HQ.out, hcons]; exact textF_end (by rw [← hcons]; exact hf))
          clear HQ hx h32 hf hcons
          go_wp2_with fail
          refine hpeek.mono ?_
          rintro e' w3 ⟨rfl, hr3, hs3⟩
          have h1 := hr3.c1
          have hz := hr3.free 1
          have hst3 : Step R w (w3.setCell ⟨R, 1, none⟩ (.int .i64 ((q : Int) + 1))) := (hst.trans hs3).set 1 _
          have hr4 : Rc R s (q + 1) (w3.setCell ⟨R, 1, none⟩ (.int .i64 ((q : Int) + 1))) := hr3.set1 (q + 1) ((q : Int) + 1) (by omega)
          have hbd3 := bld_keep hbd (hs3.set 1 (.int .i64 ((q : Int) + 1))) hRl
          have hB3 : B ≤ (w3.setCell ⟨R, 1, none⟩ (.int .i64 ((q : Int) + 1))).heap.size := by have := hs3.size; simp [World.setCell]; omega
          go_wp2_with fail
          refine (Try.Builder_String_any B B out _ hbd3 hB3).mono ?_
          rintro e' w4 ⟨rfl, hb4⟩
          go_wp2_with fail
          go_ret
          rw [HE.out]
          exact ⟨hst3.belowB hb4 hwB, rfl, q + 1, by omega, rfl, hr4.belowB hb4 hRl⟩
        · have q1 : ((x.toNat : Int) == 34) = false := by rw [beq_eq_false_iff_ne]; exact fun e => h34 (byte_eq e)
          by_cases h92 : x = 92
          · subst h92
            have HQ2 := HQ.out
            rw [hcons, textF_esc] at HQ2
            obtain ⟨o, ho⟩ : ∃ o, escapeL (tail s (q + 1)) = o := ⟨_, rfl⟩
            have hesc := fun w0 h0 => escaped_any R s (q + 1) w0 h0 hs (by omega)
            rw [ho] at HQ2 hesc
            have HQ3 := Lib.hid HQ2
            have hlen := tail_length s q
            clear HQ hx h32 hcons HQ2
            go_wp2_with fail
            refine hpeek.mono ?_
            rintro e' w3 ⟨rfl, hr3, hs3⟩
            have h1 := hr3.c1
            have hz := hr3.free 1
            have hst3 : Step R wr (w3.setCell ⟨R, 1, none⟩ (.int .i64 ((q : Int) + 1))) := hs3.set 1 _
            have hr4 : Rc R s (q + 1) (w3.setCell ⟨R, 1, none⟩ (.int .i64 ((q : Int) + 1))) := hr3.set1 (q + 1) ((q : Int) + 1) (by omega)
            go_wp2_with fail
            refine (hesc _ hr4).mono ?_
            rintro e' w4 ⟨hs4, hL⟩
            have hst4 := hst3.trans hs4
            have hst5 := hst.trans hst4
            have hbd4 := bld_keep hbd hst4 hRl
            have hB4 : B ≤ w4.heap.size := by have := hst4.size; omega
            have HQ4 := HQ3.out
            clear hpeek hesc HQ3
            match o, hL, HQ4, ho with
            | .error c, hL, HQ4, _ =>
              obtain rfl : e' = Errs c := hL
              have HE := Lib.hid (show O = .error c from HQ4.symm)
              clear HQ4
              go_wp2_with fail
              rw [HE.out]
              exact ⟨rfl, hst5, rfl⟩
            | .ok (t, r1), hL, HQ4, ho =>
              obtain ⟨rfl, k2, hk2, rfl, hr5⟩ := hL
              have htl := escape_le ho
              have hsf := (escape_suffix ho).1.length_le
              rw [tail_length, tail_length] at hsf
              have hlen2 := tail_length s k2
              have HN : Hid (textF f (out ++ t) (tail s k2) = O) := HQ4
              have hts : (ByteArray.mk t.toArray).size = t.length := by rw [Lib.size_eq]
              have hq5 : q + 1 ≤ k2 ∨ k2 = s.size := by omega
              clear HQ4 ho
              go_wp2_with fail
              refine (Try.Builder_WriteString B B _ ⟨t.toArray⟩ w4 hbd4 (by rw [Lib.byteCells_length, hts]; omega) hB4).mono ?_
              rintro e' w5 ⟨rfl, hb5, hb6⟩
              rw [Bld.str_cells] at hb5
              have hst6 := hst5.belowB hb6 hwB
              have hr6 := hr5.belowB hb6 hRl
              have hB6 : B ≤ w5.heap.size := by have := hb6.size; omega
              go_wp2_with fail
              go_roundg (s.size - k2)
              case measure => omega
              case rel => exact ⟨k2, f, out ++ t, rfl, by omega, hk2, by rw [List.length_append]; omega, by omega, HN, hr6, hst6, hB6, Or.inr hb5⟩
          · have q2 : ((x.toNat : Int) == 92) = false := by rw [beq_eq_false_iff_ne]; exact fun e => h92 (byte_eq e)
            have q3 : decide ((x.toNat : Int) < 32) = false := by rw [decide_eq_false_iff_not]; omega
            have HQ2 := HQ.out
            rw [hcons, textF_plain h34 h92 h32, ← hcons] at HQ2
            obtain ⟨o, ho⟩ : ∃ o, plainT (tail s q) = o := ⟨_, rfl⟩
            have hpl := fun w0 h0 => plain_any R s q w0 h0 hs hq2
            rw [ho] at HQ2 hpl
            have HQ3 := Lib.hid HQ2
            have hlen := tail_length s q
            clear HQ hx hcons HQ2 h34 h92 h32
            go_wp2_with fail
            refine hpeek.mono ?_
            rintro e' w3 ⟨rfl, hr3, hs3⟩
            go_wp2_with fail
            refine (hpl _ hr3).mono ?_
            rintro e' w4 ⟨hs4, hL⟩
            have hst4 := hs3.trans hs4
            have hst5 := hst.trans hst4
            have hbd4 := bld_keep hbd hst4 hRl
            have hB4 : B ≤ w4.heap.size := by have := hst4.size; omega
            have HQ4 := HQ3.out
            clear hpeek hpl HQ3
            match o, hL, HQ4, ho with
            | .error c, hL, HQ4, _ =>
              obtain rfl : e' = Errs c := hL
              have HE := Lib.hid (show O = .error c from HQ4.symm)
              clear HQ4
              go_wp2_with fail
              rw [HE.out]
              exact ⟨rfl, hst5, rfl⟩
            | .ok (t, r1), hL, HQ4, ho =>
              obtain ⟨rfl, k2, hk2, rfl, hr5⟩ := hL
              obtain ⟨htl, hsf, -⟩ := plainT_ok ho
              rw [tail_length, tail_length] at hsf
              have hlen2 := tail_length s k2
              have HN : Hid (textF f (out ++ t) (tail s k2) = O) := HQ4
              have hts : (ByteArray.mk t.toArray).size = t.length := by rw [Lib.size_eq]
              clear HQ4 ho
              go_wp2_with fail
              refine (Try.Builder_WriteString B B _ ⟨t.toArray⟩ w4 hbd4 (by rw [Lib.byteCells_length, hts]; omega) hB4).mono ?_
              rintro e' w5 ⟨rfl, hb5, hb6⟩
              rw [Bld.str_cells] at hb5
              have hst6 := hst5.belowB hb6 hwB
              have hr6 := hr5.belowB hb6 hRl
              have hB6 : B ≤ w5.heap.size := by have := hb6.size; omega
              go_wp2_with fail
              go_roundg (s.size - k2)
              case measure => omega
              case rel => exact ⟨k2, f, out ++ t, rfl, by omega, hk2, by rw [List.length_append]; omega, by omega, HN, hr6, hst6, hB6, Or.inr hb5⟩
end Go.Proofs.Ytpnffmimpkimeaa.J7
