/-
  The laws DateTells, DateReads, DateOrders, DateEnds return true. Conditions: what the functions of package date want (Env); the numbers are of their kinds.
-/
import Derived.Test.YtlhoellimldimaaDoorD6Code
import Derived.Test.YtlhoellimldimaaDoorD6Imap
import Derived.Test.YtlhoellimldimaaDoorD6Ex
import Derived.Test.YtlhoellimldimaaDoorL3Num
import Derived.Sort.Walk0
namespace Go.Proofs.YtlhoellimldimaaDoor.D6
open Go Go.RowKit Go.Joins Kit

theorem mk_of {l : List UInt8} {t : ByteArray} (h : l = t.data.toList) : (⟨l.toArray⟩ : ByteArray) = t := Kit.bytes_ext (by simpa using h)
theorem imap_to {x : Int} {t : ByteArray} (h : imapL (clamp x) = t.data.toList) (h0 : -9223372036854775808 ≤ x) (h1 : x ≤ 9223372036854775807) (w : World) (hE : Env w) :
    Calls Tryd.prog 13 #[.int .i64 x] w fun e w' => e = .returned (.string t) ∧ Below w.heap.size w w' := by
  have := imap_any x h0 h1 w hE
  rwa [mk_of h] at this
theorem rfc_to {x : Int} {t : ByteArray} (h : rfcL (clamp x) = t.data.toList) (h0 : -9223372036854775808 ≤ x) (h1 : x ≤ 9223372036854775807) (w : World) (hE : Env w) :
    Calls Tryd.prog 15 #[.int .i64 x] w fun e w' => e = .returned (.string t) ∧ Below w.heap.size w w' := by
  have := rfc_any x h0 h1 w hE
  rwa [mk_of h] at this
theorem readImap_to {s : ByteArray} {n : Nat} (h : rimapL s.data.toList = some n) (w : World) (hs : s.size ≤ 1048576) (hE : Env w) :
    Calls Tryd.prog 18 #[.string s] w fun e w' => e = .returned (.tuple #[.int .i64 (n : Int), .int .i64 0]) ∧ Below w.heap.size w w' := by
  have := readImap_any s w hs hE
  rwa [h] at this
theorem readRfc_to {s : ByteArray} {n : Nat} (h : rrfcL s.data.toList = some n) (w : World) (hs : s.size ≤ 1048576) (hE : Env w) :
    Calls Tryd.prog 20 #[.string s] w fun e w' => e = .returned (.tuple #[.int .i64 (n : Int), .int .i64 0]) ∧ Below w.heap.size w w' := by
  have := readRfc_any s w hs hE
  rwa [h] at this
theorem readDay_to {s : ByteArray} {n : Nat} (h : rdayL s.data.toList = some n) (w : World) (hs : s.size ≤ 1048576) (hE : Env w) :
    Calls Tryd.prog 22 #[.string s] w fun e w' => e = .returned (.tuple #[.int .i64 (n : Int), .int .i64 0]) ∧ Below w.heap.size w w' := by
  have := readDay_any s w hs hE
  rwa [h] at this

set_option maxHeartbeats 400000 in
theorem awake_any (w : World) (hE : Env w) :
    Calls Tryd.prog 17 #[] w fun e w' => e = .returned (.bool true) ∧ Below w.heap.size w w' := by
  have k1 : Hid (rimapL (ByteArray.mk #[48, 49, 45, 74, 97, 110, 45, 49, 57, 55, 48, 32, 48, 49, 58, 48, 48, 58, 48, 48, 32, 43, 48, 49, 48, 48]).data.toList = some 0) := by show _ = _; exact example_read
  have k2 : Hid (imapL (clamp 0) = (ByteArray.mk #[32, 49, 45, 74, 97, 110, 45, 49, 57, 55, 48, 32, 48, 48, 58, 48, 48, 58, 48, 48, 32, 43, 48, 48, 48, 48]).data.toList) := by show _ = _; exact imap_first
  have hb := Below.refl w.heap.size w
  go_enter Tryd.func17, Tryd.ntmps17
  go_wp2_with fail
  refine (readImap_to (s := ByteArray.mk #[48, 49, 45, 74, 97, 110, 45, 49, 57, 55, 48, 32, 48, 49, 58, 48, 48, 58, 48, 48, 32, 43, 48, 49, 48, 48]) k1.out w (by decide) hE).mono ?_
  rintro e w1 ⟨rfl, hb'⟩
  replace hb := hb.trans (hb'.mono hb.size)
  clear hb'
  go_wp2_with fail
  refine (imap_to (t := ByteArray.mk #[32, 49, 45, 74, 97, 110, 45, 49, 57, 55, 48, 32, 48, 48, 58, 48, 48, 58, 48, 48, 32, 43, 48, 48, 48, 48]) k2.out (by decide) (by decide) w1 (hE.next hb)).mono ?_
  rintro e w2 ⟨rfl, hb'⟩
  replace hb := hb.trans (hb'.mono hb.size)
  clear hb'
  go_wp2_with fail
  refine (L3.num_any 0 w2).mono ?_
  rintro e w' ⟨rfl, rfl⟩
  go_wp2
  go_ret
  exact ⟨rfl, hb⟩

set_option maxHeartbeats 1000000 in
set_option maxRecDepth 100000 in
theorem dateTells_walk (x : Int) (h0 : -9223372036854775808 ≤ x) (h1 : x ≤ 9223372036854775807) (w : World) (hE : Env w) :
    Calls Tryd.prog 3 #[.int .i64 x] w fun e w' => e = .returned (.bool true) ∧ Below w.heap.size w w' := by
  obtain ⟨Y, M, D, H, I, S, hc, _⟩ := civ_parts (clamp_le x)
  obtain ⟨T, hT⟩ : ∃ T : ByteArray, (⟨(imapL (clamp x)).toArray⟩ : ByteArray) = T := ⟨_, rfl⟩
  obtain ⟨R, hR⟩ : ∃ R : ByteArray, (⟨(rfcL (clamp x)).toArray⟩ : ByteArray) = R := ⟨_, rfl⟩
  have HC := Lib.hid hc
  have HT := Lib.hid hT
  have HR := Lib.hid hR
  clear hc hT hR
  have hb := Below.refl w.heap.size w
  go_enter Tryd.func3, Tryd.ntmps3
  go_wp2_with fail
  refine (civ_any x h0 h1 w hE).mono ?_
  rintro e w1 ⟨rfl, hb'⟩
  rw [HC.out]
  replace hb := hb.trans (hb'.mono hb.size)
  clear hb'
  go_wp2_with fail
  refine (rcivil_any x h0 h1 w1).mono ?_
  rintro e w' ⟨rfl, rfl⟩
  rw [HC.out]
  go_wp2_with fail
  refine (imap_any x h0 h1 w1 (hE.next hb)).mono ?_
  rintro e w2 ⟨rfl, hb'⟩
  rw [HT.out]
  replace hb := hb.trans (hb'.mono hb.size)
  clear hb'
  go_wp2_with fail
  refine (rimap_tells x h0 h1 w2).mono ?_
  rintro e w3 ⟨rfl, hb'⟩
  rw [HT.out]
  replace hb := hb.trans (hb'.mono hb.size)
  clear hb'
  go_wp2_with fail
  refine (rfc_any x h0 h1 w3 (hE.next hb)).mono ?_
  rintro e w4 ⟨rfl, hb'⟩
  rw [HR.out]
  replace hb := hb.trans (hb'.mono hb.size)
  clear hb'
  go_wp2_with fail
  refine (rrfc_tells x h0 h1 w4).mono ?_
  rintro e w5 ⟨rfl, hb'⟩
  rw [HR.out]
  replace hb := hb.trans (hb'.mono hb.size)
  clear hb'
  go_wp2_with fail
  refine (awake_any w5 (hE.next hb)).mono ?_
  rintro e w6 ⟨rfl, hb'⟩
  replace hb := hb.trans (hb'.mono hb.size)
  clear hb'
  go_wp2
  go_ret
  exact ⟨rfl, hb⟩

set_option maxHeartbeats 1000000 in
set_option maxRecDepth 100000 in
theorem dateReads_walk (s : ByteArray) (w : World) (hE : Env w) :
    Calls Tryd.prog 4 #[.string s] w fun e w' => e = .returned (.bool true) ∧ Below w.heap.size w w' := by
  have hb := Below.refl w.heap.size w
  go_enter Tryd.func4, Tryd.ntmps4
  by_cases hl : 100 < (s.size : Int)
  · go_wp2_with fail
    refine (awake_any w hE).mono ?_
    rintro e w1 ⟨rfl, hb'⟩
    go_wp2
    go_ret
    exact ⟨rfl, hb'⟩
  · obtain ⟨a, f, hI⟩ : ∃ a f, rV (rimapL s.data.toList) = .tuple #[.int .i64 a, .int .i64 f] := ⟨_, _, rV_eq _⟩
    obtain ⟨b, g, hR⟩ : ∃ a f, rV (rrfcL s.data.toList) = .tuple #[.int .i64 a, .int .i64 f] := ⟨_, _, rV_eq _⟩
    obtain ⟨c, h, hD⟩ : ∃ a f, rV (rdayL s.data.toList) = .tuple #[.int .i64 a, .int .i64 f] := ⟨_, _, rV_eq _⟩
    have HI := Lib.hid hI
    have HR := Lib.hid hR
    have HD := Lib.hid hD
    clear hI hR hD
    go_wp2_with fail
    refine (readImap_any s w (by omega) hE).mono ?_
    rintro e w1 ⟨rfl, hb'⟩
    rw [HI.out]
    replace hb := hb.trans (hb'.mono hb.size)
    clear hb'
    go_wp2_with fail
    refine (rimap_reads s w1).mono ?_
    rintro e w2 ⟨rfl, hb'⟩
    rw [HI.out]
    replace hb := hb.trans (hb'.mono hb.size)
    clear hb'
    go_wp2_with fail
    refine (readRfc_any s w2 (by omega) (hE.next hb)).mono ?_
    rintro e w3 ⟨rfl, hb'⟩
    rw [HR.out]
    replace hb := hb.trans (hb'.mono hb.size)
    clear hb'
    go_wp2_with fail
    refine (rrfc_reads s w3).mono ?_
    rintro e w4 ⟨rfl, hb'⟩
    rw [HR.out]
    replace hb := hb.trans (hb'.mono hb.size)
    clear hb'
    go_wp2_with fail
    refine (readDay_any s w4 (by omega) (hE.next hb)).mono ?_
    rintro e w5 ⟨rfl, hb'⟩
    rw [HD.out]
    replace hb := hb.trans (hb'.mono hb.size)
    clear hb'
    go_wp2_with fail
    refine (rday_reads s (by omega) w5).mono ?_
    rintro e w6 ⟨rfl, hb'⟩
    rw [HD.out]
    replace hb := hb.trans (hb'.mono hb.size)
    clear hb'
    go_wp2_with fail
    refine (L3.num_any f w6).mono ?_
    rintro e w' ⟨rfl, rfl⟩
    go_wp2_with fail
    refine (L3.num_any g w6).mono ?_
    rintro e w' ⟨rfl, rfl⟩
    go_wp2_with fail
    refine (L3.num_any h w6).mono ?_
    rintro e w' ⟨rfl, rfl⟩
    go_wp2_with fail
    refine (awake_any w6 (hE.next hb)).mono ?_
    rintro e w7 ⟨rfl, hb'⟩
    replace hb := hb.trans (hb'.mono hb.size)
    clear hb'
    go_wp2
    go_ret
    exact ⟨rfl, hb⟩
end Go.Proofs.YtlhoellimldimaaDoor.D6
