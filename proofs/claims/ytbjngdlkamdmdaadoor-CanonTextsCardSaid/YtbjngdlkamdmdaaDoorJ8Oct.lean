/-
  The program's printer: what a byte of a text, and a text, leave in it, as far as it is not too long already. No law in this text. Conditions: what it holds has at most 10^13 bytes.
-/
import Derived.Test.YtbjngdlkamdmdaaDoorJ8Bld
namespace Go.Proofs.YtbjngdlkamdmdaaDoor.J8
open Go Go.RowKit Go.Joins Kit J7

/-- Behind l, x is written: all of it, or more than may be. -/
structure Wr (l x m : List UInt8) : Prop where
  all : l.length + x.length ≤ 65536 → m = l ++ x
  over : 65536 < l.length + x.length → 65536 < m.length
  le : m.length ≤ l.length + x.length
theorem Wr.one (l x : List UInt8) : Wr l x (l ++ x) := ⟨fun _ => rfl, fun h => by rw [List.length_append]; exact h, by rw [List.length_append]; exact Nat.le_refl _⟩
theorem Wr.trans {l x m y n : List UInt8} (h : Wr l x m) (k : Wr m y n) : Wr l (x ++ y) n := by
  refine ⟨fun hl => ?_, fun hl => ?_, ?_⟩
  · rw [List.length_append] at hl
    have h1 := h.all (by omega)
    have h2 := k.all (by rw [h1, List.length_append]; omega)
    rw [h2, h1, List.append_assoc]
  · rw [List.length_append] at hl
    by_cases h1 : l.length + x.length ≤ 65536
    · have h2 := h.all h1
      exact k.over (by rw [h2, List.length_append]; omega)
    · have h2 := h.over (by omega)
      exact k.over (by omega)
  · have h1 := h.le
    have h2 := k.le
    rw [List.length_append]
    omega
theorem Wr.full {l : List UInt8} (h : 65536 < l.length) (x : List UInt8) : Wr l x l := ⟨fun h1 => by omega, fun _ => h, by omega⟩
theorem Wr.cut {l x m : List UInt8} (h : Wr l x m) (hf : 65536 < m.length) (y : List UInt8) : Wr l (x ++ y) m := h.trans (Wr.full hf y)
theorem full_yes {l : List UInt8} (h : full l = true) : 65536 < l.length := by unfold full at h; have := of_decide_eq_true h; omega
theorem full_no {l : List UInt8} (h : full l = false) : l.length ≤ 65536 := by unfold full at h; have := of_decide_eq_false h; omega

set_option maxHeartbeats 4000000 in
set_option maxRecDepth 100000 in
theorem other_any {S : Nat → Prop} {b : Nat} {l : List UInt8} {w : World} (h : PB S b l w) (c : UInt8) (hl : l.length ≤ 90000000000000) :
    Calls Tryd.prog 73 #[.pointer (some ⟨b, 0, none⟩), .int .u8 (c.toNat : Int)] w fun e w' => e = .returned (.tuple #[]) ∧ PB S b (l ++ (if c.toNat < 32 then [92, 117, 48, 48] ++ [dgS (c.toNat / 16), dgS (c.toNat % 16)] else [c])) w' ∧ Ks S w w' := by
  have hc8 := c.toNat_lt
  by_cases hlt : c.toNat < 32
  · rw [if_pos hlt]
    have g8 : (c.toNat : Int) < 32 := by omega
    have b1 : 0 ≤ (c.toNat : Int) / 16 := by omega
    have d1 : (c.toNat : Int) / 16 < 16 := by omega
    have b2 : 0 ≤ (c.toNat : Int) % 16 := by omega
    have d2 : (c.toNat : Int) % 16 < 16 := by omega
    have em : bits .and .u8 (c.toNat : Int) 15 = (c.toNat : Int) % 16 := bits_mask .u8 8 (by decide) wraps_u8 4 (by decide) _ (by omega) (by omega)
    have q1 : IntKind.u8.wrap ((c.toNat : Int) / 16) = (c.toNat : Int) / 16 := IntWalk.u8_in _ (by omega)
    have q2 : IntKind.u8.wrap ((c.toNat : Int) % 16) = (c.toNat : Int) % 16 := IntWalk.u8_in _ (by omega)
    have e1 : (lowT[((c.toNat : Int) / 16).toNat]'(lowlt _ b1 d1)) = dgS (c.toNat / 16) := (lowget _ b1 d1).trans (congrArg dgS (show ((c.toNat : Int) / 16).toNat = c.toNat / 16 by omega))
    have e2 : (lowT[((c.toNat : Int) % 16).toNat]'(lowlt _ b2 d2)) = dgS (c.toNat % 16) := (lowget _ b2 d2).trans (congrArg dgS (show ((c.toNat : Int) % 16).toNat = c.toNat % 16 by omega))
    have HE1 := Lib.hid e1
    have HE2 := Lib.hid e2
    have HLL := Lib.hid hl
    have hws := wstr_any h ⟨#[92, 117, 48, 48]⟩ (by omega) (by decide)
    clear h e1 e2 hl
    go_enter Tryd.func73, Tryd.ntmps73
    go_wp2_with fail
    refine hws.mono ?_
    rintro e w1 ⟨rfl, h1, k1⟩
    clear hws
    have hw2 := wbyte_any (h1.below ((Below.refl _ w1).drew)) (dgS (c.toNat / 16)) (by have := HLL.out; rw [List.length_append]; show _ + 4 ≤ _; omega)
    rw [← HE1.out] at hw2
    go_wp2_with fail
    refine wp_region_any (by kernel_rfl) ?_
    try (change wpAny _ _ _ _ _ _ _ (World.drew _))
    refine wpAny_take (i := 0) (v := ?_) rfl (by kernel_rfl) (by kernel_rfl) (by kernel_rfl) (fun _ _ _ h => h) (Or.inl ⟨by rfl, ?_⟩) ?_
    rotate_left 1
    · (intro w; go_simp) <;> with_reducible rfl
    refine wpAny_take (i := 1) (v := ?_) rfl (by kernel_rfl) (by kernel_rfl) (by kernel_rfl) (fun _ _ _ h => h) (Or.inl ⟨by rfl, ?_⟩) ?_
    rotate_left 1
    · (intro w; go_simp) <;> with_reducible rfl
    refine wpAny_take (i := 2) (v := ?_) rfl (by kernel_rfl) (by kernel_rfl) (by kernel_rfl) (fun _ _ _ h => h) (Or.inl ⟨by rfl, ?_⟩) ?_
    rotate_left 1
    · (intro w; go_simp) <;> with_reducible rfl
    refine wpAny_take (i := 3) (v := ?_) rfl (by kernel_rfl) (by kernel_rfl) (by kernel_rfl) (fun _ _ _ h => h) (Or.inl ⟨by rfl, ?_⟩) ?_
    rotate_left 1
    · (intro w; go_simp) <;> with_reducible rfl
    refine wpAny_take (i := 4) (v := ?_) rfl (by kernel_rfl) (by kernel_rfl) (by kernel_rfl) (fun _ _ _ h => h) (Or.inl ⟨by rfl, ?_⟩) ?_
    rotate_left 1
    · (intro w; go_simp) <;> with_reducible rfl
    refine wpAny_take (i := 5) (v := ?_) rfl (by kernel_rfl) (by kernel_rfl) (by kernel_rfl) (fun _ _ _ h => h) (Or.inl ⟨by rfl, ?_⟩) ?_
    rotate_left 1
    · (intro w; go_simp) <;> with_reducible rfl
    refine wpAny_ready (rs := [6]) (by kernel_rfl) (by simp) ?_
    refine AllReady.cons rfl (fun K hK => ?_) AllReady.nil
    go_simp
    refine hw2.mono ?_
    rintro e w2 ⟨rfl, h2, k2⟩
    rw [HE1.out] at h2
    clear hw2
    go_wp2_with fail
    refine wpAny_done (by kernel_rfl) ?_ _
    have hw3 := wbyte_any (h2.below ((Below.refl _ w2).drew)) (dgS (c.toNat % 16)) (by have := HLL.out; simp only [List.length_append, List.length_cons, List.length_nil]; show _ + 4 + 1 ≤ _; omega)
    rw [← HE2.out] at hw3
    go_wp2_with fail
    refine wp_region_any (by kernel_rfl) ?_
    try (change wpAny _ _ _ _ _ _ _ (World.drew _))
    refine wpAny_take (i := 0) (v := ?_) rfl (by kernel_rfl) (by kernel_rfl) (by kernel_rfl) (fun _ _ _ h => h) (Or.inl ⟨by rfl, ?_⟩) ?_
    rotate_left 1
    · (intro w; go_simp) <;> with_reducible rfl
    refine wpAny_take (i := 1) (v := ?_) rfl (by kernel_rfl) (by kernel_rfl) (by kernel_rfl) (fun _ _ _ h => h) (Or.inl ⟨by rfl, ?_⟩) ?_
    rotate_left 1
    · (intro w; go_simp) <;> with_reducible rfl
    refine wpAny_take (i := 2) (v := ?_) rfl (by kernel_rfl) (by kernel_rfl) (by kernel_rfl) (fun _ _ _ h => h) (Or.inl ⟨by rfl, ?_⟩) ?_
    rotate_left 1
    · (intro w; go_simp) <;> with_reducible rfl
    refine wpAny_take (i := 3) (v := ?_) rfl (by kernel_rfl) (by kernel_rfl) (by kernel_rfl) (fun _ _ _ h => h) (Or.inl ⟨by rfl, ?_⟩) ?_
    rotate_left 1
    · (intro w; go_simp) <;> with_reducible rfl
    refine wpAny_take (i := 4) (v := ?_) rfl (by kernel_rfl) (by kernel_rfl) (by kernel_rfl) (fun _ _ _ h => h) (Or.inl ⟨by rfl, ?_⟩) ?_
    rotate_left 1
    · (intro w; go_simp) <;> with_reducible rfl
    refine wpAny_take (i := 5) (v := ?_) rfl (by kernel_rfl) (by kernel_rfl) (by kernel_rfl) (fun _ _ _ h => h) (Or.inl ⟨by rfl, ?_⟩) ?_
    rotate_left 1
    · (intro w; go_simp) <;> with_reducible rfl
    refine wpAny_ready (rs := [6]) (by kernel_rfl) (by simp) ?_
    refine AllReady.cons rfl (fun K hK => ?_) AllReady.nil
    go_simp
    refine hw3.mono ?_
    rintro e w3 ⟨rfl, h3, k3⟩
    rw [HE2.out] at h3
    clear hw3
    go_wp2_with fail
    refine wpAny_done (by kernel_rfl) ?_ _
    go_wp2_with fail
    go_end0
    refine ⟨rfl, ?_, ((k1.trans (Ks.trans (Ks.drew S w1) k2)).trans (Ks.trans (Ks.drew S w2) k3))⟩
    have e9 : l ++ [92, 117, 48, 48, dgS (c.toNat / 16), dgS (c.toNat % 16)] = l ++ [92, 117, 48, 48] ++ [dgS (c.toNat / 16)] ++ [dgS (c.toNat % 16)] := by simp
    rw [e9]
    exact h3
  · rw [if_neg hlt]
    have g8 : ¬ (c.toNat : Int) < 32 := by omega
    have hw := wbyte_any h c (by omega)
    go_enter Tryd.func73, Tryd.ntmps73
    go_wp2_with fail
    refine hw.mono ?_
    rintro e w1 ⟨rfl, h1, k1⟩
    go_wp2_with fail
    refine bodyPost_ret (results_none rfl _ _ _) rfl ?_
    exact ⟨rfl, h1, k1⟩

set_option maxHeartbeats 4000000 in
set_option maxRecDepth 100000 in
theorem octet_any {S : Nat → Prop} {b : Nat} {l : List UInt8} {w : World} (h : PB S b l w) (c : UInt8) (hl : l.length ≤ 80000000000000) :
    Calls Tryd.prog 59 #[.pointer (some ⟨b, 0, none⟩), .int .u8 (c.toNat : Int)] w fun e w' => e = .returned (.tuple #[]) ∧ PB S b (l ++ qB c) w' ∧ Ks S w w' := by
  rcases qB_cases c with ⟨rfl, e⟩ | ⟨rfl, e⟩ | ⟨rfl, e⟩ | ⟨rfl, e⟩ | ⟨rfl, e⟩ | ⟨rfl, e⟩ | ⟨rfl, e⟩ | ⟨⟨n1, n2, n3, n4, n5, n6, n7⟩, n8, e⟩ | ⟨⟨n1, n2, n3, n4, n5, n6, n7⟩, n8, e⟩
  · rw [e]
    have hw := wbyte_any h 92 (by omega)
    clear h e
    go_enter Tryd.func59, Tryd.ntmps59
    go_wp2_with fail
    refine hw.mono ?_
    rintro e w1 ⟨rfl, h1, k1⟩
    have hw2 := wbyte_any h1 34 (by rw [List.length_append]; show _ + 1 ≤ _; omega)
    clear hw
    go_wp2_with fail
    refine hw2.mono ?_
    rintro e w2 ⟨rfl, h2, k2⟩
    clear hw2
    go_wp2_with fail
    go_end0
    rw [List.append_assoc] at h2
    exact ⟨rfl, h2, k1.trans k2⟩
  · rw [e]
    have hw := wbyte_any h 92 (by omega)
    clear h e
    go_enter Tryd.func59, Tryd.ntmps59
    go_wp2_with fail
    refine hw.mono ?_
    rintro e w1 ⟨rfl, h1, k1⟩
    have hw2 := wbyte_any h1 92 (by rw [List.length_append]; show _ + 1 ≤ _; omega)
    clear hw
    go_wp2_with fail
    refine hw2.mono ?_
    rintro e w2 ⟨rfl, h2, k2⟩
    clear hw2
    go_wp2_with fail
    go_end0
    rw [List.append_assoc] at h2
    exact ⟨rfl, h2, k1.trans k2⟩
  · rw [e]
    have hw := wstr_any h ⟨#[92, 98]⟩ (by omega) (by decide)
    clear h e
    go_enter Tryd.func59, Tryd.ntmps59
    go_wp2_with fail
    refine hw.mono ?_
    rintro e w1 ⟨rfl, h1, k1⟩
    clear hw
    go_wp2_with fail
    go_end0
    exact ⟨rfl, h1, k1⟩
  · rw [e]
    have hw := wstr_any h ⟨#[92, 116]⟩ (by omega) (by decide)
    clear h e
    go_enter Tryd.func59, Tryd.ntmps59
    go_wp2_with fail
    refine hw.mono ?_
    rintro e w1 ⟨rfl, h1, k1⟩
    clear hw
    go_wp2_with fail
    go_end0
    exact ⟨rfl, h1, k1⟩
  · rw [e]
    have hw := wstr_any h ⟨#[92, 110]⟩ (by omega) (by decide)
    clear h e
    go_enter Tryd.func59, Tryd.ntmps59
    go_wp2_with fail
    refine hw.mono ?_
    rintro e w1 ⟨rfl, h1, k1⟩
    clear hw
    go_wp2_with fail
    go_end0
    exact ⟨rfl, h1, k1⟩
  · rw [e]
    have hw := wstr_any h ⟨#[92, 102]⟩ (by omega) (by decide)
    clear h e
    go_enter Tryd.func59, Tryd.ntmps59
    go_wp2_with fail
    refine hw.mono ?_
    rintro e w1 ⟨rfl, h1, k1⟩
    clear hw
    go_wp2_with fail
    go_end0
    exact ⟨rfl, h1, k1⟩
  · rw [e]
    have hw := wstr_any h ⟨#[92, 114]⟩ (by omega) (by decide)
    clear h e
    go_enter Tryd.func59, Tryd.ntmps59
    go_wp2_with fail
    refine hw.mono ?_
    rintro e w1 ⟨rfl, h1, k1⟩
    clear hw
    go_wp2_with fail
    go_end0
    exact ⟨rfl, h1, k1⟩
  · rw [e]
    have hw := other_any h c (by omega)
    rw [if_pos n8] at hw
    have q1 : ((c.toNat : Int) == 34) = false := by rw [beq_eq_false_iff_ne]; exact fun e => n1 (byte_eq e)
    have q2 : ((c.toNat : Int) == 92) = false := by rw [beq_eq_false_iff_ne]; exact fun e => n2 (byte_eq e)
    have q3 : ((c.toNat : Int) == 8) = false := by rw [beq_eq_false_iff_ne]; exact fun e => n3 (byte_eq e)
    have q4 : ((c.toNat : Int) == 9) = false := by rw [beq_eq_false_iff_ne]; exact fun e => n4 (byte_eq e)
    have q5 : ((c.toNat : Int) == 10) = false := by rw [beq_eq_false_iff_ne]; exact fun e => n5 (byte_eq e)
    have q6 : ((c.toNat : Int) == 12) = false := by rw [beq_eq_false_iff_ne]; exact fun e => n6 (byte_eq e)
    have q7 : ((c.toNat : Int) == 13) = false := by rw [beq_eq_false_iff_ne]; exact fun e => n7 (byte_eq e)
    clear n1 n2 n3 n4 n5 n6 n7 n8 h e
    go_enter Tryd.func59, Tryd.ntmps59
    go_wp2_with fail
    refine hw.mono ?_
    rintro e w1 ⟨rfl, h1, k1⟩
    clear hw
    go_wp2_with fail
    go_end0
    exact ⟨rfl, h1, k1⟩
  · rw [e]
    have hw := other_any h c (by omega)
    rw [if_neg n8] at hw
    have q1 : ((c.toNat : Int) == 34) = false := by rw [beq_eq_false_iff_ne]; exact fun e => n1 (byte_eq e)
    have q2 : ((c.toNat : Int) == 92) = false := by rw [beq_eq_false_iff_ne]; exact fun e => n2 (byte_eq e)
    have q3 : ((c.toNat : Int) == 8) = false := by rw [beq_eq_false_iff_ne]; exact fun e => n3 (byte_eq e)
    have q4 : ((c.toNat : Int) == 9) = false := by rw [beq_eq_false_iff_ne]; exact fun e => n4 (byte_eq e)
    have q5 : ((c.toNat : Int) == 10) = false := by rw [beq_eq_false_iff_ne]; exact fun e => n5 (byte_eq e)
    have q6 : ((c.toNat : Int) == 12) = false := by rw [beq_eq_false_iff_ne]; exact fun e => n6 (byte_eq e)
    have q7 : ((c.toNat : Int) == 13) = false := by rw [beq_eq_false_iff_ne]; exact fun e => n7 (byte_eq e)
    clear n1 n2 n3 n4 n5 n6 n7 n8 h e
    go_enter Tryd.func59, Tryd.ntmps59
    go_wp2_with fail
    refine hw.mono ?_
    rintro e w1 ⟨rfl, h1, k1⟩
    clear hw
    go_wp2_with fail
    go_end0
    exact ⟨rfl, h1, k1⟩

set_option maxHeartbeats 4000000 in
set_option maxRecDepth 100000 in
theorem ptext_any {S : Nat → Prop} {b : Nat} {l : List UInt8} {w : World} (h : PB S b l w) (s : ByteArray) (hs : s.size ≤ 300000) (hl : l.length + (quoteL s.data.toList).length ≤ 70000000000000) :
    Calls Tryd.prog 37 #[.pointer (some ⟨b, 0, none⟩), .string s] w fun e w' => e = .returned (.tuple #[]) ∧ ∃ m, Wr l (quoteL s.data.toList) m ∧ PB S b m w' ∧ Ks S w w' := by
  have hsz : (s.size : Int) ≤ 300000 := by omega
  have HQ : Hid (∀ k, k ≤ s.size → l.length + (34 :: qL (s.data.toList.take k)).length ≤ 60000000000000 + 20000000000000) := Lib.hid (fun k hk => by
    have h1 := qL_len (s.data.toList.take k)
    have h2 : (s.data.toList.take k).length ≤ s.size := by rw [List.length_take, ← Lib.size_eq]; omega
    rw [List.length_cons]
    omega)
  have hw := wbyte_any h 34 (by omega)
  have HLL := Lib.hid hl
  clear h hl
  go_enter Tryd.func37, Tryd.ntmps37
  go_wp2_with fail
  refine hw.mono ?_
  rintro e w1 ⟨rfl, h1, k1⟩
  clear hw
  go_wp2_with fail
  go_loopg [11] s.size (fun m v wr => ∃ (i : Nat) (cur : List UInt8), m = s.size - i ∧ v = .int .i64 i ∧ i ≤ s.size ∧ PB S b cur wr ∧ Ks S w wr ∧ Hid (Wr l (34 :: qL (s.data.toList.take i)) cur))
  case atStart => exact ⟨0, _, rfl, rfl, Nat.zero_le _, h1, k1, Lib.hid (Wr.one l [34])⟩
  case round =>
    clear h1 k1
    obtain ⟨i, cur, rfl, rfl, hi, hb, hk, HW⟩ := hrel
    have hcl : cur.length ≤ 80000000000000 := by have h1 := HW.out.le; have h2 := HQ.out i hi; omega
    by_cases hlt : i < s.size
    · have gi : (i : Int) < s.size := by omega
      have HSP : Hid (∃ y, quoteL s.data.toList = (34 :: qL (s.data.toList.take i)) ++ y) := Lib.hid ⟨qL (s.data.toList.drop i) ++ [34], by
        unfold quoteL
        rw [List.cons_append]
        congr 1
        rw [← List.append_assoc]
        congr 1
        unfold qL
        rw [← List.flatMap_append, List.take_append_drop]⟩
      have hf := isFull_any hb
      by_cases hfu : full cur = true
      · rw [hfu] at hf
        go_wp2_with fail
        refine hf.mono ?_
        rintro e w2 ⟨rfl, rfl⟩
        go_wp2_with fail
        refine bodyPost_ret (results_none rfl _ _ _) rfl ?_
        obtain ⟨y, hy⟩ := HSP.out
        rw [hy]
        exact ⟨rfl, cur, HW.out.cut (full_yes hfu) y, hb, hk⟩
      · rw [show full cur = false by simpa using hfu] at hf
        have HN := Lib.hid (qL_next s i hlt)
        obtain ⟨c, hc⟩ : ∃ c, s[i] = c := ⟨_, rfl⟩
        have ho := octet_any hb c hcl
        have HC := Lib.hid hc
        rw [← hc] at ho
        clear hc hfu
        go_wp2_with fail
        refine hf.mono ?_
        rintro e w2 ⟨rfl, rfl⟩
        go_wp2_with fail
        refine ho.mono ?_
        rintro e w3 ⟨rfl, h3, k3⟩
        go_wp2_with fail
        go_roundg (s.size - (i + 1))
        case measure => omega
        case rel =>
          refine ⟨i + 1, _, rfl, by go_num, by omega, h3, hk.trans k3, Lib.hid ?_⟩
          rw [← HN.out, ← List.cons_append]
          exact HW.out.trans (Wr.one _ _)
    · obtain rfl : i = s.size := by omega
      have gi : decide ((s.size : Int) < (s.size : Int)) = false := by simp
      have hw2 := wbyte_any hb 34 (by omega)
      go_wp2_with fail
      refine hw2.mono ?_
      rintro e w2 ⟨rfl, h2, k2⟩
      go_wp2_with fail
      go_end0
      refine ⟨rfl, _, ?_, h2, hk.trans k2⟩
      have e9 : quoteL s.data.toList = (34 :: qL (s.data.toList.take s.size)) ++ [34] := by
        rw [Lib.size_eq, List.take_length]
        rfl
      rw [e9]
      exact HW.out.trans (Wr.one _ _)
end Go.Proofs.YtbjngdlkamdmdaaDoor.J8
