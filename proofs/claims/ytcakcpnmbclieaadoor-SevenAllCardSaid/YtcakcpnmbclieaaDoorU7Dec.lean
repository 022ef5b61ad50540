/-
  utf7.loose returns what a name tells that may be none; utf7.Decode the text of which Encode tells just this name, or that there is none. Condition: the name has at most 131072 bytes.
-/
import Derived.Test.YtcakcpnmbclieaaDoorU7Enc
import Derived.Test.YtcakcpnmbclieaaDoorU7Pts
namespace Go.Proofs.YtcakcpnmbclieaaDoor.U7C
open Go Go.RowKit Go.Joins Kit
open U7 (looL rowS rowT decV encU decU)
open Bld (BSet Kept)

theorem dash_any (r : ByteArray) (w : World) (hs : r.size < 4294967281) (hE : Srch.Env w) :
    Calls Tryd.prog 38 #[.string r, .string ⟨#[45]⟩] w fun e w' => (∃ (x y : ByteArray) (f : Bool), e = .returned (.tuple #[.string x, .string y, .bool f]) ∧ rowS r.data.toList = (x.data.toList, y.data.toList)) ∧ Below w.heap.size w w' := by
  refine (Srch.cut_any 45 r w hs hE).mono ?_
  rintro e w' ⟨h, hb, _⟩
  refine ⟨?_, hb⟩
  rcases h with ⟨rfl, hno⟩ | ⟨a, b, h1, h2, rfl⟩
  · exact ⟨r, ⟨#[]⟩, false, rfl, by rw [U7.rowS_none (U7.dash_none hno)]⟩
  · exact ⟨a, b, true, rfl, by rw [h1]; exact U7.rowS_some (U7.dash_at h2 _)⟩
theorem rowT_none : rowT [] = [38] := rfl
theorem rowT_some {a : List UInt8} (h : a ≠ []) : rowT a = U7.ptU 0 (B6.looseL (a.map U7.uncom)) := by rw [rowT, if_neg h]
theorem loo_cut {t a r : List UInt8} (h : t = a ++ 38 :: r) (ha : ∀ c ∈ a, c ≠ 38) {x y : List UInt8} (hxy : rowS r = (x, y)) : looL t = a ++ (rowT x ++ looL y) := by rw [h, U7.loo_plain ha, U7.loo_row, hxy]
theorem out_len {out x : List UInt8} {s : ByteArray} (h : out ++ x = looL s.data.toList) : out.length ≤ 4 * s.size := by
  have h1 := congrArg List.length h
  have h2 := U7.loo_len s.data.toList
  rw [List.length_append] at h1
  rw [Lib.size_eq]
  omega
theorem grow_any (w : World) (n : Nat) (hn : n ≤ 281474976710656) :
    Calls Tryd.prog 18 #[.pointer (some ⟨w.heap.size, 0, none⟩), .int .i64 n] (w.alloc (.cells #[.pointer none, .slice none 0 0] 40)) fun e w' => e = .returned (.tuple #[]) ∧ BSet S0 w.heap.size w.heap.size [] w' ∧ Below w.heap.size w w' := by
  refine (Tryd.Builder_Grow_fresh w.heap.size w.heap.size n _ (Nat.le_refl _) (fresh_block w _ _) (by simp) hn).mono ?_
  rintro e w2 ⟨rfl, hI, hb2⟩
  exact ⟨rfl, Bld.BSet.of_at (l := []) hI, ((Below.refl _ w).alloc (Nat.le_refl _) _).trans hb2⟩

set_option maxHeartbeats 2000000 in
set_option maxRecDepth 100000 in
theorem loose_walk (s : ByteArray) (w : World) (hs : s.size ≤ 131072) (hE : Srch.Env w) :
    Calls Tryd.prog 26 #[.string s] w fun e w' => e = .returned (.string ⟨(looL s.data.toList).toArray⟩) ∧ Below w.heap.size w w' := by
  have hM := MaxB.of hE
  obtain ⟨full, hfull⟩ : ∃ full, looL s.data.toList = full := ⟨_, rfl⟩
  rw [hfull]
  have HF := Lib.hid hfull
  clear hfull
  go_enter Tryd.func26, Tryd.ntmps26
  go_wp2_with fail
  refine (grow_any w s.size (by omega)).mono ?_
  rintro e w1 ⟨rfl, hI, hb1⟩
  go_wp2_with fail
  go_loopw [0] (fun v wr => ∃ (t : ByteArray) (out : List UInt8), v = .string t ∧ t.size ≤ s.size ∧ Hid (out ++ looL t.data.toList = full) ∧ BSet S0 w.heap.size w.heap.size out wr ∧ Below w.heap.size w wr) (fun v _ => Lib.strSize v)
  case atStart => exact ⟨s, [], rfl, Nat.le_refl _, Lib.hid (by rw [List.nil_append]; exact HF.out), hI, hb1⟩
  case round =>
    clear hI hb1
    obtain ⟨t, out, rfl, hts, HQ, hS, hB⟩ := hrel
    have hol := out_len (HQ.out.trans HF.out.symm)
    have hBw := hB.size
    have hM1 := (hM.next hB).env hBw
    go_wp2_with fail
    refine (Srch.cut_any 38 t wr (by omega) hM1).mono ?_
    rintro e w2 ⟨hcase, hb2, _⟩
    have hS2 := hS.below hb2
    have hB2 := hB.trans (hb2.mono hBw)
    clear hS
    rcases hcase with ⟨rfl, hno⟩ | ⟨a, r, hdec, hna, rfl⟩
    · have HE := Lib.hid (show out ++ t.data.toList = full by have := HQ.out; rwa [U7.loo_flat hno] at this)
      clear hno
      go_wp2_with fail
      refine (Bld.text_any S0 w.heap.size w.heap.size out t w2 hS2 (by omega)).mono ?_
      rintro e w3 ⟨rfl, hS3, _, hB3⟩
      rw [HE.out] at hS3
      have hB03 := hB2.trans hB3
      go_wp2_with fail
      refine (Tryd.Builder_String_any w.heap.size w.heap.size full _ hS3.isB hB03.size).mono ?_
      rintro e w4 ⟨rfl, hb4⟩
      go_wp2
      go_ret
      exact ⟨rfl, hB03.trans hb4⟩
    · have hsz : a.size + r.size + 1 = t.size := by
        have := congrArg List.length hdec
        rw [List.length_append, List.length_cons] at this
        rw [Lib.size_eq a, Lib.size_eq r, Lib.size_eq t]
        omega
      have HD := Lib.hid hdec
      have HNA := Lib.hid hna
      clear hdec hna
      go_wp2_with fail
      refine (Bld.text_any S0 w.heap.size w.heap.size out a w2 hS2 (by omega)).mono ?_
      rintro e w3 ⟨rfl, hS3, _, hB3⟩
      have hB03 := hB2.trans hB3
      have hM3 := (hM.next hB03).env hB03.size
      go_wp2_with fail
      refine (dash_any r w3 (by omega) hM3).mono ?_
      rintro e w4 ⟨⟨x, y, f, rfl, hxy⟩, hb4⟩
      have hS4 := hS3.below hb4
      have hB4 := hB03.trans (hb4.mono hB03.size)
      have hlen := U7.rowS_len r.data.toList
      rw [hxy, ← Lib.size_eq] at hlen
      simp only at hlen
      rw [← Lib.size_eq, ← Lib.size_eq] at hlen
      obtain ⟨L1, hL1⟩ : ∃ L, out ++ a.data.toList = L := ⟨_, rfl⟩
      have hl1 : L1.length = out.length + a.size := by rw [← hL1, List.length_append, Lib.size_eq]
      have HQ1 := Lib.hid (show L1 ++ (rowT x.data.toList ++ looL y.data.toList) = full by rw [← HQ.out, loo_cut HD.out HNA.out hxy, ← hL1, List.append_assoc])
      rw [hL1] at hS4
      clear hL1 hxy hS3 HD HNA HQ
      by_cases hx : x = ⟨#[]⟩
      · subst hx
        have HQ2 := Lib.hid (show (L1 ++ [38]) ++ looL y.data.toList = full by rw [← HQ1.out, List.append_assoc]; rfl)
        go_wp2_with fail
        refine (byte_at S0 w.heap.size w.heap.size L1 38 _ rfl w4 hS4 (by omega)).mono ?_
        rintro e w5 ⟨rfl, hS5, _, hB5⟩
        go_wp2
        go_roundw
        case rel => exact ⟨y, L1 ++ [38], rfl, by omega, HQ2, hS5, hB4.trans hB5⟩
        case measure => simp only [Lib.strSize]; omega
      · have hM4 := (hM.next hB4).env hB4.size
        have hxe : x.toList.isEmpty = false := toList_isEmpty (fun e => hx (Kit.bytes_ext (List.length_eq_zero_iff.1 (by rw [← Lib.size_eq]; exact e))))
        have HT := Lib.hid (rowT_some (a := x.data.toList) (by intro e; exact hx (Kit.bytes_ext e)))
        go_wp2_with fail
        refine (uncom_any x w4 (by omega) hM4).mono ?_
        rintro e w5 ⟨rfl, hb5⟩
        have hS5 := hS4.below hb5
        have hB5 := hB4.trans (hb5.mono hB4.size)
        have hM5 := (hM.next hB5).b6 hB5.size
        have hul : (ByteArray.mk (x.data.toList.map U7.uncom).toArray).size = x.size := by rw [Lib.size_mk, List.length_map, ← Lib.size_eq]
        go_wp2_with fail
        refine (B6.loose_any ⟨(x.data.toList.map U7.uncom).toArray⟩ w5 (by omega) hM5).mono ?_
        rintro e w6 ⟨rfl, hb6⟩
        have hS6 := hS5.below hb6
        have hB6 := hB5.trans (hb6.mono hB5.size)
        have hpl : (ByteArray.mk (B6.looseL (x.data.toList.map U7.uncom)).toArray).size ≤ x.size := by
          have h := B6.loose_length (x.data.toList.map U7.uncom)
          rw [List.length_map, ← Lib.size_eq] at h
          rw [Lib.size_mk]
          exact h
        go_wp2_with fail
        refine (points_any w.heap.size w.heap.size L1 ⟨(B6.looseL (x.data.toList.map U7.uncom)).toArray⟩ w6 hS6 (by omega) (by omega)).mono ?_
        rintro e w7 ⟨rfl, hS7, hB7⟩
        rw [show (ByteArray.mk (B6.looseL (x.data.toList.map U7.uncom)).toArray).data.toList = B6.looseL (x.data.toList.map U7.uncom) from rfl, ← HT.out] at hS7
        obtain ⟨L2, hL2⟩ : ∃ L, L1 ++ rowT x.data.toList = L := ⟨_, rfl⟩
        have HQ2 := Lib.hid (show L2 ++ looL y.data.toList = full by rw [← HQ1.out, ← hL2, List.append_assoc])
        rw [hL2] at hS7
        clear hL2
        go_wp2
        go_roundw
        case rel => exact ⟨y, L2, rfl, by omega, HQ2, hS7, hB6.trans hB7⟩
        case measure => simp only [Lib.strSize]; omega

set_option maxHeartbeats 2000000 in
set_option maxRecDepth 100000 in
theorem dec_walk (s : ByteArray) (w : World) (hs : s.size ≤ 131072) (hE : Srch.Env w) :
    Calls Tryd.prog 12 #[.string s] w fun e w' => e = .returned (decV s.data.toList) ∧ Below w.heap.size w w' := by
  obtain ⟨x, hx⟩ : ∃ x : ByteArray, (⟨(looL s.data.toList).toArray⟩ : ByteArray) = x := ⟨_, rfl⟩
  have hxl : looL s.data.toList = x.data.toList := by rw [← hx]
  have hxs : x.size ≤ 4 * s.size := by rw [Lib.size_eq, Lib.size_eq, ← hxl]; exact U7.loo_len _
  have hd : decU s.data.toList = if encU x.data.toList = some s.data.toList then some x.data.toList else none := by rw [U7.dec_by, hxl]
  have HX := Lib.hid hx
  clear hxl hx
  have hc : ∀ (w1 : World), Below w.heap.size w w1 → Calls Tryd.prog 10 #[.string x] w1 fun e w' => e = .returned (U7.encV x.data.toList) ∧ Below w.heap.size w w' := fun w1 hb1 => by
    refine (enc_walk x w1 (by omega) (hE.next hb1)).mono ?_
    rintro e w2 ⟨rfl, hb2⟩
    exact ⟨rfl, hb1.trans (hb2.mono hb1.size)⟩
  cases he : encU x.data.toList with
  | none =>
    rw [he, if_neg (by simp)] at hd
    rw [U7.decV_none hd]
    rw [U7.encV_none he] at hc
    clear hd he
    go_enter Tryd.func12, Tryd.ntmps12
    go_wp2_with fail
    refine (loose_walk s w hs hE).mono ?_
    rintro e w1 ⟨rfl, hb1⟩
    rw [HX.out]
    go_wp2_with fail
    refine (hc w1 hb1).mono ?_
    rintro e w2 ⟨rfl, hb2⟩
    go_wp2
    go_ret2
    exact ⟨rfl, hb2⟩
  | some z =>
    obtain ⟨t, ht⟩ : ∃ t : ByteArray, (⟨z.toArray⟩ : ByteArray) = t := ⟨_, rfl⟩
    have hz : z = t.data.toList := by rw [← ht]
    rw [U7.encV_some he, ht] at hc
    by_cases hts : t = s
    · rw [he, hz, hts, if_pos rfl] at hd
      rw [U7.decV_some hd, U7.mk_data x rfl]
      clear hd he hz ht
      subst hts
      go_enter Tryd.func12, Tryd.ntmps12
      go_wp2_with fail
      refine (loose_walk t w hs hE).mono ?_
      rintro e w1 ⟨rfl, hb1⟩
      rw [HX.out]
      go_wp2_with fail
      refine (hc w1 hb1).mono ?_
      rintro e w2 ⟨rfl, hb2⟩
      go_wp2
      go_ret2
      exact ⟨rfl, hb2⟩
    · rw [he, if_neg (by intro e; exact hts (Kit.bytes_ext (by rw [← hz]; exact Option.some.inj e)))] at hd
      rw [U7.decV_none hd]
      have hne : (!t.toList == s.toList) = true := by
        have hd' : t.data.toList ≠ s.data.toList := fun e => hts (Kit.bytes_ext e)
        rw [Lib.toList_data, Lib.toList_data]
        simpa using hd'
      clear hd he hz ht hts
      go_enter Tryd.func12, Tryd.ntmps12
      go_wp2_with fail
      refine (loose_walk s w hs hE).mono ?_
      rintro e w1 ⟨rfl, hb1⟩
      rw [HX.out]
      go_wp2_with fail
      refine (hc w1 hb1).mono ?_
      rintro e w2 ⟨rfl, hb2⟩
      go_wp2
      go_ret2
      exact ⟨rfl, hb2⟩
end Go.Proofs.YtcakcpnmbclieaaDoor.U7C
