/-
  Package date's texts: a number with noughts ahead, a month's letters, the clock, a second's two texts. Conditions: the tables as the program's text lays them (Env); the numbers are ints.
-/
import Derived.Test.YtlhoellimldimaaDoorD6Yr
import Derived.Test.YtlhoellimldimaaDoorD6Tell2
import Derived.Test.YtlhoellimldimaaDoorBldK
import Derived.Test.YtlhoellimldimaaDoorDigs
namespace Go.Proofs.YtlhoellimldimaaDoor.D6
open Go Go.RowKit Go.Joins Kit Dg
open Bld (BSet)

/-- No block. -/
def S0 : Nat → Prop := fun _ => False
theorem rep_list (c : Nat) : Lib.repeatL [48] c = List.replicate c 48 := by
  induction c with
  | zero => rfl
  | succ c ih => rw [Lib.repeatL, ih, List.replicate_succ]; rfl
theorem rep_any (v : Int) (c : Nat) (hv : v = (c : Int)) (hc : c ≤ 10) (w : World) :
    Calls Tryd.prog 58 #[.string ⟨#[48]⟩, .int .i64 v] w fun e w' => ∃ T : ByteArray, e = .returned (.string T) ∧ T.size = c ∧ Hid (T.data.toList = List.replicate c 48) ∧ Below w.heap.size w w' := by
  subst hv
  refine (Tryd.strings_Repeat ⟨#[48]⟩ c w (by omega) (by rw [show (⟨#[48]⟩ : ByteArray).size = 1 from rfl]; omega)).mono ?_
  rintro e w' ⟨rfl, hb⟩
  refine ⟨_, rfl, ?_, Lib.hid ?_, hb⟩
  · rw [Lib.size_eq]
    show (Lib.repeatL [48] c).length = c
    rw [rep_list, List.length_replicate]
  · show Lib.repeatL [48] c = _
    exact rep_list c
set_option maxHeartbeats 400000 in
set_option maxRecDepth 100000 in
theorem cpad_any (n long : Nat) (hn : (n : Int) ≤ 1000000) (hl : (long : Int) ≤ 10) (w : World) (hE : Env w) :
    Calls Tryd.prog 35 #[.int .i64 n, .int .i64 long] w fun e w' => ∃ T : ByteArray, e = .returned (.string T) ∧ Hid (T.data.toList = padL n long) ∧ Below w.heap.size w w' := by
  obtain ⟨d, hd⟩ : ∃ d, digs (n : Int) = d := ⟨_, rfl⟩
  have hs := digs_short (n := (n : Int)) (by omega)
  have hdd : d.data.toList = Lib.decDigits n := by rw [← hd, digs_data]
  rw [hd] at hs
  have HDD := Lib.hid hdd
  have HD := Lib.hid (show (⟨(Lib.decDigits (n : Int).toNat).toArray⟩ : ByteArray) = d from hd)
  clear hdd hd
  obtain ⟨c, hc⟩ : ∃ c : Nat, long - d.size = c := ⟨_, rfl⟩
  have hc' : max ((long : Int) - d.size) 0 = (c : Int) := by omega
  have hc10 : c ≤ 10 := by omega
  have HC := Lib.hid hc
  clear hc
  go_enter Tryd.func35, Tryd.ntmps35
  go_wp2_with fail
  refine (Tx.digits_any n (by omega) (by omega) w hE.tx).mono ?_
  rintro e w1 ⟨rfl, hb1⟩
  rw [HD.out]
  go_wp2_with fail
  refine (rep_any _ c (by omega) hc10 w1).mono ?_
  rintro e w2 ⟨T, rfl, hT, HT, hb2⟩
  go_wp2
  go_ret
  refine ⟨_, rfl, Lib.hid ?_, chain hb1 hb2⟩
  rw [Joins.data_append, HT.out, HDD.out, padL, ← HDD.out, ← Lib.size_eq, HC.out]
theorem cpad_two {n : Nat} (hn : n < 100) (w : World) (hE : Env w) :
    Calls Tryd.prog 35 #[.int .i64 n, .int .i64 2] w fun e w' => ∃ T : ByteArray, e = .returned (.string T) ∧ T.size = 2 ∧ Hid (T.data.toList = two n) ∧ Below w.heap.size w w' := by
  refine (cpad_any n 2 (by omega) (by omega) w hE).mono ?_
  rintro e w' ⟨T, rfl, HT, hb⟩
  have h := HT.out
  rw [pad_two hn] at h
  exact ⟨T, rfl, by rw [Lib.size_eq, h]; rfl, Lib.hid h, hb⟩
theorem cpad_four {n : Nat} (h : 1000 ≤ n) (hn : n < 10000) (w : World) (hE : Env w) :
    Calls Tryd.prog 35 #[.int .i64 n, .int .i64 4] w fun e w' => ∃ T : ByteArray, e = .returned (.string T) ∧ T.size = 4 ∧ Hid (T.data.toList = four n) ∧ Below w.heap.size w w' := by
  refine (cpad_any n 4 (by omega) (by omega) w hE).mono ?_
  rintro e w' ⟨T, rfl, HT, hb⟩
  have h' := HT.out
  rw [pad_four h hn] at h'
  exact ⟨T, rfl, by rw [Lib.size_eq, h']; rfl, Lib.hid h', hb⟩
theorem cdig_any {d : Nat} (h2 : d ≤ 31) (w : World) (hE : Env w) :
    Calls Tryd.prog 33 #[.int .i64 d] w fun e w' => ∃ T : ByteArray, e = .returned (.string T) ∧ T.size ≤ 19 ∧ Hid (T.data.toList = if d < 10 then [dg (d % 10)] else two d) ∧ Below w.heap.size w w' := by
  refine (Tx.digits_any d (by omega) (by omega) w hE.tx).mono ?_
  rintro e w' ⟨rfl, hb⟩
  refine ⟨digs (d : Int), rfl, digs_short (by omega), Lib.hid ?_, hb⟩
  rw [digs_data]
  split
  · rw [Lib.decDigits_one (by omega), show d % 10 = d by omega]; rfl
  · exact digits_two (by omega) (by omega)
set_option maxHeartbeats 1000000 in
theorem cmon_any {m : Nat} (h1 : 1 ≤ m) (h2 : m ≤ 12) (w : World) :
    Calls Tryd.prog 34 #[.int .i64 m] w fun e w' => ∃ T : ByteArray, e = .returned (.string T) ∧ T.size = 3 ∧ Hid (T.data.toList = mon3 m) ∧ w = w' := by
  go_enter Tryd.func34, Tryd.ntmps34
  rcases (show m = 1 ∨ m = 2 ∨ m = 3 ∨ m = 4 ∨ m = 5 ∨ m = 6 ∨ m = 7 ∨ m = 8 ∨ m = 9 ∨ m = 10 ∨ m = 11 ∨ m = 12 by omega) with rfl | rfl | rfl | rfl | rfl | rfl | rfl | rfl | rfl | rfl | rfl | rfl
  all_goals
    go_wp2
    go_ret
    exact ⟨_, rfl, rfl, Lib.hid rfl, rfl⟩
/-- WriteByte and WriteString onto a Builder of the call's own, seen from where it began. -/
theorem put_byte {W0 : World} {b : Nat} {l : List UInt8} {c : UInt8} {z : Int} (hz : z = (c.toNat : Int)) {w : World} (hW : Below W0.heap.size W0 w) (h : BSet S0 W0.heap.size b l w) (hlen : l.length ≤ 100) :
    Calls Tryd.prog 31 #[.pointer (some ⟨b, 0, none⟩), .int .u8 z] w fun e w' => e = .returned .nilIface ∧ BSet S0 W0.heap.size b (l ++ [c]) w' ∧ Below W0.heap.size W0 w' := by
  subst hz
  refine (Bld.byte_any S0 W0.heap.size b l c w h (by omega)).mono ?_
  rintro e w' ⟨rfl, h1, _, h2⟩
  exact ⟨rfl, h1, hW.trans h2⟩
theorem put_text {W0 : World} {b : Nat} {l t : List UInt8} {s : ByteArray} (hs : s.data.toList = t) {w : World} (hW : Below W0.heap.size W0 w) (h : BSet S0 W0.heap.size b l w) (hlen : l.length ≤ 100) (ht : s.size ≤ 100) :
    Calls Tryd.prog 32 #[.pointer (some ⟨b, 0, none⟩), .string s] w fun e w' => e = .returned (.tuple #[.int .i64 s.size, .nilIface]) ∧ BSet S0 W0.heap.size b (l ++ t) w' ∧ Below W0.heap.size W0 w' := by
  subst hs
  refine (Bld.text_any S0 W0.heap.size b l s w h (by omega)).mono ?_
  rintro e w' ⟨rfl, h1, _, h2⟩
  exact ⟨rfl, h1, hW.trans h2⟩
theorem own_grow (w : World) (n : Nat) (hn : n ≤ 281474976710656) :
    Calls Tryd.prog 30 #[.pointer (some ⟨w.heap.size, 0, none⟩), .int .i64 n] (w.alloc (.cells #[.pointer none, .slice none 0 0] 49)) fun e w' => e = .returned (.tuple #[]) ∧ BSet S0 w.heap.size w.heap.size [] w' ∧ Below w.heap.size w w' := by
  refine (Tryd.Builder_Grow_fresh w.heap.size w.heap.size n _ (Nat.le_refl _) (fresh_block w _ _) (by simp) hn).mono ?_
  rintro e w2 ⟨rfl, hI, hb2⟩
  exact ⟨rfl, Bld.BSet.of_at (l := []) hI, ((Below.refl _ w).alloc (Nat.le_refl _) _).trans hb2⟩
theorem len_two (n : Nat) : (two n).length = 2 := rfl
theorem len_four (n : Nat) : (four n).length = 4 := rfl
theorem len_mon (n : Nat) : (mon3 n).length = 3 := rfl

set_option maxHeartbeats 1000000 in
set_option maxRecDepth 100000 in
theorem cclock_any (W0 : World) (hE : Env W0) (b : Nat) (l : List UInt8) (hl : l.length ≤ 30) (h i s : Nat) (h1 : h ≤ 23) (h2 : i ≤ 59) (h3 : s ≤ 59) (w : World) (hW : Below W0.heap.size W0 w) (hB : BSet S0 W0.heap.size b l w) :
    Calls Tryd.prog 36 #[.pointer (some ⟨b, 0, none⟩), .int .i64 h, .int .i64 i, .int .i64 s] w fun e w' =>
      e = .returned (.tuple #[]) ∧ BSet S0 W0.heap.size b (l ++ two h ++ [58] ++ two i ++ [58] ++ two s) w' ∧ Below W0.heap.size W0 w' := by
  go_enter Tryd.func36, Tryd.ntmps36
  go_wp2_with fail
  refine (cpad_two (by omega) w (hE.next hW)).mono ?_
  rintro e w1 ⟨T, rfl, sT, HT, hb⟩
  have hW1 := hW.trans (hb.mono hW.size)
  have hB1 := hB.below hb
  go_wp2_with fail
  refine (put_text HT.out hW1 hB1 (by omega) (by omega)).mono ?_
  rintro e w2 ⟨rfl, hB2, hW2⟩
  clear hW1 hB1 hb HT
  go_wp2_with fail
  refine (put_byte (c := 58) rfl hW2 hB2 (by rw [List.length_append, len_two]; omega)).mono ?_
  rintro e w3 ⟨rfl, hB3, hW3⟩
  clear hW2 hB2
  go_wp2_with fail
  refine (cpad_two (by omega) w3 (hE.next hW3)).mono ?_
  rintro e w4 ⟨T2, rfl, sT2, HT2, hb⟩
  have hW4 := hW3.trans (hb.mono hW3.size)
  have hB4 := hB3.below hb
  go_wp2_with fail
  refine (put_text HT2.out hW4 hB4 (by simp only [List.length_append, len_two, List.length_cons, List.length_nil]; omega) (by omega)).mono ?_
  rintro e w5 ⟨rfl, hB5, hW5⟩
  clear hW4 hB4 hb HT2 hW3 hB3
  go_wp2_with fail
  refine (put_byte (c := 58) rfl hW5 hB5 (by simp only [List.length_append, len_two, List.length_cons, List.length_nil]; omega)).mono ?_
  rintro e w6 ⟨rfl, hB6, hW6⟩
  clear hW5 hB5
  go_wp2_with fail
  refine (cpad_two (by omega) w6 (hE.next hW6)).mono ?_
  rintro e w7 ⟨T3, rfl, sT3, HT3, hb⟩
  have hW7 := hW6.trans (hb.mono hW6.size)
  have hB7 := hB6.below hb
  go_wp2_with fail
  refine (put_text HT3.out hW7 hB7 (by simp only [List.length_append, len_two, List.length_cons, List.length_nil]; omega) (by omega)).mono ?_
  rintro e w8 ⟨rfl, hB8, hW8⟩
  go_wp2
  go_end0
  exact ⟨rfl, hB8, hW8⟩
end Go.Proofs.YtlhoellimldimaaDoor.D6
