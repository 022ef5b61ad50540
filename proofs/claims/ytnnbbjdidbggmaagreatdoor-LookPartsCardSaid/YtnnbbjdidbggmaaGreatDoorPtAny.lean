/-
  strings.IndexAny, of two bytes below 128, tells the first place of one of them in whatever bytes (a short text is gone through by code points: none of 128 and above is one of the two). Conditions: the text has at most 2^31 bytes.
-/
import Derived.Test.YtnnbbjdidbggmaaGreatDoorPtPlain
import Derived.Test.YtnnbbjdidbggmaaGreatDoorKit
import Derived.Test.YtnnbbjdidbggmaaGreatDoorShelf
import Derived.Shelf.Strings.IndexAnyAll
import Derived.Laws.RangeAny
import Derived.Laws.Runes
import Derived.Shelf.Strings.SlTrimAscii
import Derived.Deep.LoopGhost
import Derived.LoopN
import Derived.Scope
import Derived.WalkSmall
import Derived.IntWalk
import Derived.Deep.QuietTactic
import Derived.Deep.CutRange
import Derived.Deep.RegionWith
import Derived.BigQuiet
namespace Go.Proofs.YtnnbbjdidbggmaaGreatDoor.Pt
open Go Go.RowKit Go.Joins Kit

theorem get_plus (s : ByteArray) (i k : Nat) (h : i + k < s.size) : s.get! (i + k) = s[i + k] := by
  simp [ByteArray.get!, getElem!_pos, h]
  rfl
theorem data_get {s : ByteArray} {j : Nat} (h : j < s.size) : s.data.toList[j]? = some s[j] := Lib.data_getElem? s j h
/-- A code point of a byte from 128 on is of such bytes alone. -/
theorem decode_span (s : ByteArray) (i : Nat) (h : i < s.size) (ha : 128 ≤ s[i].toNat) : i + (Utf8.decode s i).2 ≤ s.size ∧ ∀ (j : Nat) (b : UInt8), i ≤ j → j < i + (Utf8.decode s i).2 → s.data.toList[j]? = some b → 128 ≤ b.toNat := by
  have h0 : ∀ (j : Nat) (b : UInt8), i ≤ j → j < i + 1 → s.data.toList[j]? = some b → 128 ≤ b.toNat := by
    intro j b h1 h2 hb
    obtain rfl : j = i := by omega
    rw [data_get h] at hb
    cases hb
    exact ha
  have one : i + (Utf8.runeError, 1).2 ≤ s.size ∧ ∀ (j : Nat) (b : UInt8), i ≤ j → j < i + (Utf8.runeError, 1).2 → s.data.toList[j]? = some b → 128 ≤ b.toNat := ⟨h, h0⟩
  have cont : ∀ k, (decide (i + k < s.size) && (s.get! (i + k)).toNat / 64 == 2) = true → i + k < s.size ∧ ∀ b, s.data.toList[i + k]? = some b → 128 ≤ b.toNat := by
    intro k hk
    rw [Bool.and_eq_true, decide_eq_true_iff, beq_iff_eq] at hk
    obtain ⟨h1, h2⟩ := hk
    refine ⟨h1, fun b hb => ?_⟩
    rw [data_get h1] at hb
    cases hb
    rw [get_plus s i k h1] at h2
    omega
  have hn : ¬ (s.get! (i + 0)).toNat < 128 := by rw [get_at s i h]; omega
  unfold Utf8.decode
  simp only []
  rw [if_neg hn]
  split
  · rename_i hc
    rw [Bool.and_eq_true] at hc
    obtain ⟨c1, d1⟩ := cont 1 hc.2
    split
    · refine ⟨c1, fun j b h1 h2 hb => ?_⟩
      simp only at h2
      rcases Nat.lt_or_ge j (i + 1) with hj | hj
      · exact h0 j b h1 hj hb
      · obtain rfl : j = i + 1 := by omega
        exact d1 b hb
    · exact one
  · split
    · rename_i hc
      rw [Bool.and_eq_true, Bool.and_eq_true] at hc
      obtain ⟨_, d1⟩ := cont 1 hc.1.2
      obtain ⟨c2, d2⟩ := cont 2 hc.2
      split
      · refine ⟨c2, fun j b h1 h2 hb => ?_⟩
        simp only at h2
        rcases Nat.lt_or_ge j (i + 1) with hj | hj
        · exact h0 j b h1 hj hb
        · rcases Nat.lt_or_ge j (i + 2) with hj2 | hj2
          · obtain rfl : j = i + 1 := by omega
            exact d1 b hb
          · obtain rfl : j = i + 2 := by omega
            exact d2 b hb
      · exact one
    · split
      · rename_i hc
        rw [Bool.and_eq_true, Bool.and_eq_true, Bool.and_eq_true] at hc
        obtain ⟨_, d1⟩ := cont 1 hc.1.1.2
        obtain ⟨_, d2⟩ := cont 2 hc.1.2
        obtain ⟨c3, d3⟩ := cont 3 hc.2
        split
        · refine ⟨c3, fun j b h1 h2 hb => ?_⟩
          simp only at h2
          rcases Nat.lt_or_ge j (i + 1) with hj | hj
          · exact h0 j b h1 hj hb
          · rcases Nat.lt_or_ge j (i + 2) with hj2 | hj2
            · obtain rfl : j = i + 1 := by omega
              exact d1 b hb
            · rcases Nat.lt_or_ge j (i + 3) with hj3 | hj3
              · obtain rfl : j = i + 2 := by omega
                exact d2 b hb
              · obtain rfl : j = i + 3 := by omega
                exact d3 b hb
        · exact one
      · exact one

/-- Two bytes below 128. -/
def two : ByteArray := ⟨#[61, 59]⟩

set_option maxHeartbeats 1000000 in
theorem valid_any (r : Int) (w : World) :
    Calls Tryz.prog 168 #[.int .i32 r] w fun e w' => e = .returned (.bool (validRune r)) ∧ w' = w := by
  have hv : validRune r = decide ((0 ≤ r ∧ r < 55296) ∨ (57343 < r ∧ r ≤ 1114111)) := rfl
  by_cases h1 : 0 ≤ r
  · by_cases h2 : r < 55296
    · rw [hv, decide_eq_true (Or.inl ⟨h1, h2⟩)]
      go_enter Tryz.func168, Tryz.ntmps168
      go_wp2_with fail
      go_ret
      exact ⟨rfl, rfl⟩
    · by_cases h3 : 57343 < r
      · by_cases h4 : r ≤ 1114111
        · rw [hv, decide_eq_true (Or.inr ⟨h3, h4⟩)]
          go_enter Tryz.func168, Tryz.ntmps168
          go_wp2_with fail
          go_ret
          exact ⟨rfl, rfl⟩
        · rw [hv, decide_eq_false (by omega)]
          go_enter Tryz.func168, Tryz.ntmps168
          go_wp2_with fail
          go_ret
          exact ⟨rfl, rfl⟩
      · rw [hv, decide_eq_false (by omega)]
        go_enter Tryz.func168, Tryz.ntmps168
        go_wp2_with fail
        go_ret
        exact ⟨rfl, rfl⟩
  · rw [hv, decide_eq_false (by omega)]
    go_enter Tryz.func168, Tryz.ntmps168
    go_wp2_with fail
    go_ret
    exact ⟨rfl, rfl⟩

set_option maxHeartbeats 8000000 in
set_option maxRecDepth 1000000 in
/-- A code point from 128 on is none of the two. -/
theorem rune_none (r : Int) (w : World) (h0 : 128 ≤ r) :
    Calls Tryz.prog 159 #[.string ⟨#[61, 59]⟩, .int .i32 r] w fun e w' => e = .returned (.int .i64 (-1)) ∧ Below w.heap.size w w' := by
  have g1 : (0 : Int) ≤ r := by omega
  have g2 : ¬ r < 128 := by omega
  by_cases he : r = 65533
  · subst he
    go_enter Tryz.func159, Tryz.ntmps159
    go_wp2_with fail
    go_loopg [] 2 (fun g wx => ∃ i : Nat, i + g = 2 ∧ wx = w.iter ⟨#[61, 59]⟩ i)
    case atStart => exact ⟨0, by omega, rfl⟩
    case round =>
      obtain ⟨i, hi, rfl⟩ := hrel
      match gk, hi with
      | 0, hi =>
        obtain rfl : i = 2 := by omega
        have hnx := run_next_end (P := Tryz.prog) w ⟨#[61, 59]⟩ 2
        have hsz : (ByteArray.mk #[61, 59]).size = 2 := rfl
        go_wp2_with fail
        go_ret
        exact ⟨rfl, ((Below.refl _ w).alloc (Nat.le_refl _) _)⟩
      | 1, hi =>
        obtain rfl : i = 1 := by omega
        have hnx := fun ty => run_next_ascii (P := Tryz.prog) w ⟨#[61, 59]⟩ 1 ty (by decide) (by decide)
        have e1 : ((ByteArray.mk #[61, 59])[1]'(by decide)) = 59 := rfl
        rw [e1] at hnx
        go_wp2_with fail
        go_roundg 0
        case rel => exact ⟨2, by omega, rfl⟩
        case measure => omega
      | 2, hi =>
        obtain rfl : i = 0 := by omega
        have hnx := fun ty => run_next_ascii (P := Tryz.prog) w ⟨#[61, 59]⟩ 0 ty (by decide) (by decide)
        have e1 : ((ByteArray.mk #[61, 59])[0]'(by decide)) = 61 := rfl
        rw [e1] at hnx
        go_wp2_with fail
        go_roundg 1
        case rel => exact ⟨1, by omega, rfl⟩
        case measure => omega
  · have g3 : (r == 65533) = false := by simpa using he
    cases hv : validRune r
    · go_enter Tryz.func159, Tryz.ntmps159
      go_wp2_with fail
      refine (valid_any r w).mono ?_
      rintro e w1 ⟨rfl, rfl⟩
      rw [hv]
      go_wp2_with fail
      go_ret
      exact ⟨rfl, Below.refl _ _⟩
    · obtain ⟨s2, s4, hl⟩ := encode_facts r (by rw [validRune_eq]; exact hv) h0
      obtain ⟨E, hE⟩ : ∃ E, Utf8.encode r = E := ⟨_, rfl⟩
      have HE := Lib.hid hE
      rw [hE] at s2 s4 hl
      have hs21 : (Tryz.prog.underlying 21).isSome = true := by kernel_rfl
      have hconv := fun W => run_convert_int_string (P := Tryz.prog) W 21 9 .i32 r hs21 Tryz.underlying9
      have hl2 := hl (by omega)
      clear hl
      by_cases h2 : E.size = 2
      · go_enter Tryz.func159, Tryz.ntmps159
        go_wp2_with fail
        refine (valid_any r w).mono ?_
        rintro e w1 ⟨rfl, rfl⟩
        rw [hv]
        go_wp2_with fail
        refine wp_scope_straight ?_
        go_wp2_with fail
        refine wp_loop_rounds 1 ?_
        rw [rounds_succ]
        go_wp2_with fail
        refine wp_scope_straight ?_
        obtain ⟨c1, hc1⟩ : ∃ c1, E[1]'(by omega) = c1 := ⟨_, rfl⟩
        have hc2 : (59 : Int) ≠ (c1.toNat : Int) := by
          have e : E[E.size - 1]'(by omega) = c1 := by rw [← hc1]; congr 1; omega
          rw [e] at hl2
          omega
        have hc3 : ((59 : Int) != (c1.toNat : Int)) = true := by simpa using hc2
        have hq : (ByteArray.mk #[61, 59])[1]'(by decide) = 59 := rfl
        have hx : (ByteArray.mk #[61, 59]).extract 2 2 = ByteArray.empty := rfl
        go_upto_region 6 with fail
        go_quiet (fail)
        go_wp2_with fail
        go_region_with ((go_at_call 98; refine (Tryz.strings_IndexByte _ _ _).mono ?_; rintro e w' ⟨rfl, rfl⟩))
        all_goals (go_wp2_with fail)
        all_goals (rw [Exit.noGoto_ret])
        all_goals (go_wp2_with fail)
        all_goals (rw [Exit.noGoto_ret])
        all_goals go_ret
        all_goals exact ⟨rfl, below_drewN (Below.refl _ _) _⟩
      · have hE3 : E.size = 3 ∨ E.size = 4 := by omega
        rcases hE3 with h2 | h2
        all_goals (go_enter Tryz.func159, Tryz.ntmps159)
        all_goals (go_wp2_with fail)
        all_goals (refine (valid_any r w).mono ?_)
        all_goals (rintro e w1 ⟨rfl, rfl⟩)
        all_goals (rw [hv])
        all_goals (go_wp2_with fail)
        all_goals (refine wp_scope_straight ?_)
        all_goals (go_wp2_with fail)
        all_goals (refine wp_loop_rounds 1 ?_)
        all_goals (rw [rounds_succ])
        all_goals (go_wp2_with fail)
        all_goals (rw [Exit.noGoto_ret])
        all_goals go_ret
        all_goals exact ⟨rfl, Below.refl _ _⟩

/-! ### The first place of one of the two -/
theorem no_span {s : ByteArray} {i : Nat} (h : i < s.size) (ha : 128 ≤ s[i].toNat) (hn : Lib.NoAny s.data.toList [61, 59] i) : Lib.NoAny s.data.toList [61, 59] (i + (Utf8.decode s i).2) := by
  intro j b hj hb
  rcases Nat.lt_or_ge j i with hlt | hge
  · exact hn j b hlt hb
  · have h1 := (decode_span s i h ha).2 j b hge hj hb
    have e1 : b ≠ 61 := by rintro rfl; revert h1; decide
    have e2 : b ≠ 59 := by rintro rfl; revert h1; decide
    simp [e1, e2]
theorem below_iter {w wr : World} {n : Nat} (h : Below n w wr) (k : Nat) (s : ByteArray) (p : Nat) (hk : n ≤ k) : Below n w (wr.iterAt k s p) :=
  ⟨h.os, h.tape, h.output, Nat.le_trans h.size (by rw [Lib.iterAt_size]; exact Nat.le_refl _), fun i hi => (Lib.iterAt_other wr k i s p (by omega)).trans (h.block i hi)⟩
set_option maxHeartbeats 8000000 in
set_option maxRecDepth 1000000 in
theorem any_short (s : ByteArray) (w : World) (h8 : s.size ≤ 8) :
    Calls Tryz.prog 153 #[.string s, .string ⟨#[61, 59]⟩] w fun e w' => e = .returned (.int .i64 (Lib.indexAny s.data.toList [61, 59])) ∧ Below w.heap.size w w' := by
  have h8z : decide ((8 : Int) < (s.size : Int)) = false := decide_eq_false (by omega)
  go_enter Tryz.func153, Tryz.ntmps153
  go_wp2_with fail
  refine (Tryz.strings_shouldUseASCIISet _ _).mono ?_
  rintro e w1 ⟨rfl, rfl⟩
  rw [h8z]
  go_wp2_with fail
  have hit0 : (w1.iter s 0).heap[w1.heap.size]? = some (.stringIter s 0) := World.iter_heap w1 s 0
  have hb0 : Below w1.heap.size w1 (w1.iter s 0) := (Below.refl _ w1).alloc (Nat.le_refl _) _
  go_loopg [] s.size (fun g wx => ∃ i : Nat, i ≤ s.size ∧ g = s.size - i ∧ wx.heap[w1.heap.size]? = some (.stringIter s i) ∧ Hid (Lib.NoAny s.data.toList [61, 59] i) ∧ Below w1.heap.size w1 wx)
  case atStart => exact ⟨0, Nat.zero_le _, rfl, hit0, Lib.hid (Lib.NoAny.zero _ _), hb0⟩
  case round =>
    clear hit0 hb0
    obtain ⟨i, hi, rfl, hit, HN, hb⟩ := hrel
    by_cases hlt : i < s.size
    · have hnx := fun ty => Lib.run_next_any_at (P := Tryz.prog) wr w1.heap.size s i ty hit hlt
      have hhi := decode_high s i hlt
      have hasc := decode_ascii s i hlt
      have hle := decode_le s i
      have hsp := decode_span s i hlt
      have hns := no_span hlt
      have hxl := data_get hlt
      obtain ⟨c, hc⟩ : ∃ c, s[i] = c := ⟨_, rfl⟩
      rw [hc] at hhi hasc hsp hns hxl
      obtain ⟨R, hR⟩ : ∃ R, Utf8.decode s i = R := ⟨_, rfl⟩
      obtain ⟨r, z⟩ := R
      rw [hR] at hnx hhi hasc hle hsp hns
      simp only at hnx hhi hle hsp hns
      have HXL := Lib.hid hxl
      have HIT := Lib.hid hit
      have hit1 := Lib.iterAt_heap wr w1.heap.size s i (i + z) hit
      have hb1 : Below w1.heap.size w1 (wr.iterAt w1.heap.size s (i + z)) := below_iter hb _ _ _ (Nat.le_refl _)
      have HH := Lib.hid (And.intro hit1 hb1)
      by_cases h128 : c.toNat < 128
      · have hrz := hasc h128
        injection hrz with e1 e2
        subst e1 e2
        have g1 : (0 : Int) ≤ (c.toNat : Int) := by omega
        have g2 : (c.toNat : Int) < 128 := by omega
        have hcon := Lib.contains_iff_indexByte [61, 59] c
        have hback : ((c.toNat : Int)).toNat.toUInt8 = c := by simp
        clear hhi hasc hle hsp hns hxl hit hb hit1 hb1 h128 hc hR
        cases hin : [61, 59].contains c
        · rw [hin] at hcon
          have hlt2 : ¬ ((0 : Int) ≤ Lib.indexByte [61, 59] c) := of_decide_eq_false hcon.symm
          have HNX : Hid (Lib.NoAny s.data.toList [61, 59] (i + 1)) := Lib.hid (HN.out.succ HXL.out hin)
          clear hcon
          go_wp2_with fail
          refine (Tryz.strings_IndexRune_ascii ⟨#[61, 59]⟩ (c.toNat : Int) _ g1 g2).mono ?_
          rintro e w2 ⟨rfl, rfl⟩
          rw [hback, show (ByteArray.mk #[61, 59]).data.toList = [61, 59] from rfl]
          go_wp2_with fail
          go_roundg (s.size - (i + 1))
          case measure => omega
          case rel => exact ⟨i + 1, by omega, rfl, HH.out.1, HNX, HH.out.2⟩
        · rw [hin] at hcon
          have hge : (0 : Int) ≤ Lib.indexByte [61, 59] c := of_decide_eq_true hcon.symm
          have hfin : Hid (Lib.indexAny s.data.toList [61, 59] = (i : Int)) := Lib.hid (Lib.indexAny_hit HN.out HXL.out hin)
          clear hcon
          go_wp2_with fail
          refine (Tryz.strings_IndexRune_ascii ⟨#[61, 59]⟩ (c.toNat : Int) _ g1 g2).mono ?_
          rintro e w2 ⟨rfl, rfl⟩
          rw [hback, show (ByteArray.mk #[61, 59]).data.toList = [61, 59] from rfl]
          go_wp2_with fail
          go_ret
          exact ⟨by rw [hfin.out]; rfl, HH.out.2⟩
      · have hh := hhi (by omega)
        have HS : Hid (i + z ≤ s.size ∧ Lib.NoAny s.data.toList [61, 59] (i + z)) := Lib.hid ⟨(hsp (by omega)).1, hns (by omega) HN.out⟩
        have g1 : (128 : Int) ≤ (r : Int) := by omega
        have g3 : ¬ (0 : Int) ≤ -1 := by omega
        have hz := hh.2
        clear hhi hasc hle hsp hns hxl hit hb hit1 hb1 h128 hc hR hh
        go_wp2_with fail
        refine (rune_none (r : Int) _ g1).mono ?_
        rintro e w2 ⟨rfl, hb2⟩
        have hit2 : w2.heap[w1.heap.size]? = some (.stringIter s (i + z)) := by
          rw [hb2.block _ (Array.getElem?_eq_some_iff.1 HH.out.1).1]; exact HH.out.1
        have hb3 := HH.out.2.trans (hb2.mono HH.out.2.size)
        have HF := Lib.hid (And.intro hit2 hb3)
        clear hit2 hb3 hb2
        go_wp2_with fail
        go_roundg (s.size - (i + z))
        case measure => omega
        case rel => exact ⟨i + z, HS.out.1, rfl, HF.out.1, Lib.hid HS.out.2, HF.out.2⟩
    · have hi2 : i = s.size := by omega
      have hnx := fun ty => Lib.run_next_end_at (P := Tryz.prog) wr w1.heap.size s i ty hit hlt
      have hfin : Hid (Lib.indexAny s.data.toList [61, 59] = -1) := Lib.hid (Lib.indexAny_none (by rw [← Lib.size_eq, ← hi2]; exact HN.out))
      have HB := Lib.hid hb
      clear hit hb
      go_wp2_with fail
      go_ret
      exact ⟨by rw [hfin.out]; rfl, HB.out⟩
set_option maxHeartbeats 1000000 in
set_option maxRecDepth 1000000 in
theorem any_any (s : ByteArray) (w : World) (hs : s.size ≤ 2147483648) :
    Calls Tryz.prog 153 #[.string s, .string ⟨#[61, 59]⟩] w fun e w' => e = .returned (.int .i64 (Lib.indexAny s.data.toList [61, 59])) ∧ Below w.heap.size w w' := by
  by_cases h8 : s.size ≤ 8
  · exact any_short s w h8
  · have h116 : (Tryz.prog.info? (Tryz.lays153_ren.t 116)).map (fun i => (i.zero, i.size)) = some (some (.agg (Array.replicate 256 (.bool false))), 256) := by kernel_rfl
    refine (Any.strings_IndexAny_long Tryz.lays153 (zero_of_info h116).1 (zero_of_info h116).2 s ⟨#[61, 59]⟩ w (by decide) (by omega) (by omega) (by decide) (ascii_of_all (by decide))).mono ?_
    rintro e w' ⟨rfl, rfl⟩
    exact ⟨rfl, ((Below.refl _ w).alloc (Nat.le_refl _) _).alloc (by simp) _⟩
end Go.Proofs.YtnnbbjdidbggmaaGreatDoor.Pt
