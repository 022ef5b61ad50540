/-
  utf7.Encode returns a text's name, or that it has none. Condition: the text has at most 600000 bytes.
-/
import Derived.Test.YtcakcpnmbclieaaDoorU7Put
import Derived.Test.YtcakcpnmbclieaaDoorU7App
import Derived.Test.YtcakcpnmbclieaaDoorU7Val
import Derived.Test.YtcakcpnmbclieaaDoorU8Valid
import Derived.Lib.OthersKept
namespace Go.Proofs.YtcakcpnmbclieaaDoor.U7C
open Go Go.RowKit Go.Joins Kit
open U7 (rowL nameP ptsL plainP litL u16 Scalar scalar_iff encV)
open U8 (validL decL)
open Bld (BSet Kept)

/-- The blocks beside the Builder: the range's, and the row's. -/
def Sv (it : Nat) (v : Value) : Nat → Prop := fun k => k = it ∨ v.ownBlock = some k
/-- What Encode has in hand: the Builder with what was told, the row, where the range stands. -/
structure St (w : World) (s : ByteArray) (it : Nat) (v : Value) (out row : List UInt8) (pos : Nat) (W : World) : Prop where
  bld : BSet (Sv it v) w.heap.size w.heap.size out W
  iter : W.heap[it]? = some (.stringIter s pos)
  buf : Buf w v row W
  ne : v.ownBlock ≠ some it
  base : w.heap.size ≤ it
namespace St
variable {w W W' : World} {s : ByteArray} {it pos : Nat} {v v' : Value} {out out' row row' : List UInt8}
theorem itlt (h : St w s it v out row pos W) : it < W.heap.size := (Array.getElem?_eq_some_iff.1 h.iter).1
theorem wrote (h : St w s it v out row pos W) (hb : BSet (Sv it v) w.heap.size w.heap.size out' W') (hk : Kept (Sv it v) W W') (hB : Below w.heap.size W W') : St w s it v out' row pos W' where
  bld := hb
  iter := (hk it (Or.inl rfl)).trans h.iter
  buf := ⟨Bld.own_keep h.buf.own (fun g hg _ => hk g (Or.inr hg)), h.buf.below.trans hB⟩
  ne := h.ne
  base := h.base
theorem next (h : St w s it v out row pos W) (pos' : Nat) : St w s it v out row pos' (W.iterAt it s pos') where
  bld := h.bld.turn (fun k _ hs => Lib.iterAt_other W it k s pos' (fun e => hs (Or.inl e))) (fun k hs => ⟨Or.inl hs, by rw [Lib.iterAt_size]; exact h.bld.lt k hs⟩)
  iter := Lib.iterAt_heap W it s pos pos' h.iter
  buf := ⟨Bld.own_keep h.buf.own (fun g hg _ => Lib.iterAt_other W it g s pos' (fun e => h.ne (by rw [hg, e]))), Lib.below_iterAt h.buf.below h.base s pos'⟩
  ne := h.ne
  base := h.base
theorem grown (h : St w s it v out row pos W) (hB : Buf w v' row' W') (hg : Grown W W' v v') : St w s it v' out row' pos W' where
  bld := h.bld.turn (fun k hk hs => hg.keep k hk (fun e => hs (Or.inr e))) (fun k hs => by
    rcases hs with rfl | hs
    · exact ⟨Or.inl (Or.inl rfl), by have := h.itlt; have := hg.size; omega⟩
    · refine ⟨?_, hB.lt_of hs⟩
      rcases hg.own k hs with h' | h'
      · exact Or.inl (Or.inr h')
      · exact Or.inr h')
  iter := (hg.keep it h.itlt h.ne).trans h.iter
  buf := hB
  ne := fun e => by
    rcases hg.own it e with h' | h'
    · exact h.ne h'
    · have := h.itlt; omega
  base := h.base
theorem clear {ao : Option Addr} {n cap : Nat} (h : St w s it (.slice ao n cap) out row pos W) : St w s it (.slice ao 0 cap) out [] pos W := by
  have e : Sv it (.slice ao 0 cap) = Sv it (.slice ao n cap) := by
    unfold Sv
    cases ao <;> rfl
  refine ⟨by rw [e]; exact h.bld, h.iter, ⟨?_, h.buf.below⟩, ?_, h.base⟩
  · refine ⟨rfl, ?_⟩
    rcases h.buf.own.2 with ⟨hv, _⟩ | ⟨g, cap', cur, hv, hg, hh, h1, h2, h3, h4⟩
    · simp only [Value.slice.injEq] at hv
      obtain ⟨rfl, rfl, rfl⟩ := hv
      exact Or.inl ⟨rfl, rfl⟩
    · simp only [Value.slice.injEq] at hv
      obtain ⟨rfl, hn, rfl⟩ := hv
      exact Or.inr ⟨g, cap, cur, rfl, hg, hh, Nat.zero_le _, h2, h3, rfl⟩
  · have := h.ne
    cases ao with
    | none => intro e; cases e
    | some a => exact this
theorem start {w w1 : World} (hb : BSet (fun _ => False) w.heap.size w.heap.size [] w1) (hB : Below w.heap.size w w1) (s : ByteArray) : St w s w1.heap.size (.slice none 0 0) [] [] 0 (w1.alloc (.stringIter s 0)) where
  bld := hb.turn (fun k hk _ => Lib.alloc_old w1 _ k hk) (fun k hs => by
    rcases hs with rfl | hs
    · exact ⟨Or.inr (Nat.le_refl _), by simp⟩
    · cases hs)
  iter := by show (w1.heap.push _)[w1.heap.size]? = _; simp
  buf := Buf.empty (hB.alloc hB.size _)
  ne := fun e => by cases e
  base := hB.size
end St
theorem lit_one {r : Nat} (h : r ≠ 38) : litL r = [UInt8.ofNat r] := by rw [litL, if_neg h]
theorem full_len {a b : List UInt8} {s : ByteArray} (h : a ++ b = nameP [] (ptsL s.data.toList)) : a.length ≤ 12 * s.size + 3 := by
  have h1 := congrArg List.length h
  have h2 := U7.name_size s.data.toList
  rw [List.length_append] at h1
  rw [Lib.size_eq]
  omega
theorem i32_in (r : Nat) (h : r ≤ 1114111) : IntKind.i64.wrap (r : Int) = r := by rw [IntKind.wrap_i64]; omega

set_option maxHeartbeats 2000000 in
set_option maxRecDepth 100000 in
theorem enc_walk (s : ByteArray) (w : World) (hs : s.size ≤ 600000) (hE : Srch.Env w) :
    Calls Tryd.prog 10 #[.string s] w fun e w' => e = .returned (encV s.data.toList) ∧ Below w.heap.size w w' := by
  have hM := MaxB.of hE
  go_enter Tryd.func10, Tryd.ntmps10
  cases hv : validL s.data.toList with
  | false =>
    rw [U7.encV_none (U7.enc_not hv)]
    go_wp2_with fail
    refine (U8.valid_any s (by omega) w).mono ?_
    rintro e w1 ⟨rfl, rfl⟩
    rw [hv]
    go_wp2
    go_ret2
    exact ⟨rfl, Below.refl _ _⟩
  | true =>
    obtain ⟨full, hfull⟩ : ∃ full, nameP [] (ptsL s.data.toList) = full := ⟨_, rfl⟩
    rw [U7.encV_some (U7.enc_valid hv), hfull]
    go_wp2_with fail
    refine (U8.valid_any s (by omega) w).mono ?_
    rintro e w1 ⟨rfl, rfl⟩
    rw [hv]
    have HV := Lib.hid hv
    clear hv
    go_wp2_with fail
    refine (Tryd.Builder_Grow_fresh w.heap.size w.heap.size s.size _ (Nat.le_refl _) (fresh_block w _ _) (by simp) (by omega)).mono ?_
    rintro e w2 ⟨rfl, hI, hb2⟩
    have hb : Below w.heap.size w w2 := ((Below.refl _ w).alloc (Nat.le_refl _) _).trans hb2
    clear hb2
    have hst := St.start (Bld.BSet.of_at (l := []) hI) hb s
    clear hI hb
    obtain ⟨it, hit⟩ : ∃ it, w2.heap.size = it := ⟨_, rfl⟩
    rw [hit] at hst
    have HF := Lib.hid hfull
    clear hfull
    go_wp2_with fail
    go_loopw [5] (fun v wr => ∃ (pos : Nat) (out row : List UInt8), St w s it v out row pos wr ∧ pos ≤ s.size ∧ row.length ≤ 4 * pos ∧ Hid (out ++ nameP row (ptsL (s.data.toList.drop pos)) = full) ∧ Hid (validL (s.data.toList.drop pos) = true)) (fun _ wr => s.size - wr.iterPos it)
    case atStart => exact ⟨0, [], [], hst, Nat.zero_le _, Nat.zero_le _, Lib.hid (by rw [List.drop_zero, List.nil_append]; exact HF.out), Lib.hid (by rw [List.drop_zero]; exact HV.out)⟩
    case round =>
      obtain ⟨pos, out, row, hS, hpos, hrow, HQ, HVP⟩ := hrel
      clear hst
      have hsp : wr.iterPos it = pos := by simp only [World.iterPos, hS.iter]
      have HSP := Lib.hid hsp
      clear hsp
      have hout : out.length ≤ 12 * s.size + 3 := full_len (HQ.out.trans HF.out.symm)
      by_cases hp : pos < s.size
      · obtain ⟨r, n, hd, n1, nl, hsc, hv', hpts⟩ := U7.valid_dec HVP.out (by intro e; have := congrArg List.length e; rw [List.length_drop, ← Lib.size_eq] at this; simp at this; omega)
        rw [List.length_drop, ← Lib.size_eq] at nl
        have hr : r ≤ 1114111 := ((scalar_iff r).1 hsc).2
        have hri : (r : Int) ≤ 1114111 := by omega
        have hnx : ∀ ty, (Instr.next (.pointer (some ⟨it, 0, none⟩)) true ty).run Tryd.prog wr = .ok (.tuple #[.bool true, .int .i64 pos, .int .i32 r]) (wr.iterAt it s (pos + n)) := fun ty => by
          rw [Lib.run_next_any_at wr it s pos ty hS.iter hp, U7.decode_of hd]
        have hS1 := hS.next (pos + n)
        obtain ⟨W, hW⟩ : ∃ W, wr.iterAt it s (pos + n) = W := ⟨_, rfl⟩
        rw [hW] at hnx hS1
        clear hW hS
        rw [List.drop_drop] at hv' hpts
        have HPT := Lib.hid hpts
        have HV' := Lib.hid hv'
        clear hpts hv' hd hsc HVP
        cases hpl : plainP r with
        | false =>
          have HPL := Lib.hid hpl
          clear hpl
          go_wp2_with fail
          refine (plain_any r hr W).mono ?_
          rintro e w3 ⟨rfl, rfl⟩
          rw [HPL.out]
          go_wp2_with fail
          refine (point_any w w3 u5 row hS1.buf (by omega) r hri).mono ?_
          rintro e w4 ⟨v', rfl, hB', hg⟩
          have hS2 := hS1.grown hB' hg
          obtain ⟨R2, hR2⟩ : ∃ R, row ++ U7.u16 r = R := ⟨_, rfl⟩
          have hr2 : R2.length ≤ row.length + 4 := by rw [← hR2, List.length_append]; have := (U7.u16_len r).1; omega
          have HQ2 := Lib.hid (show out ++ nameP R2 (ptsL (s.data.toList.drop (pos + n))) = full by have := HQ.out; rwa [HPT.out, U7.name_other _ HPL.out, hR2] at this)
          rw [hR2] at hS2
          clear hR2 hB' hg hS1
          go_wp2
          go_roundw
          case rel => exact ⟨pos + n, out, R2, hS2, by omega, by omega, HQ2, HV'⟩
          case measure => simp only [World.iterPos, hS2.iter]; have := HSP.out; simp only [World.iterPos] at this; rw [this]; omega
        | true =>
          have HPL := Lib.hid hpl
          have hb := hpl
          unfold plainP at hb
          simp only [Bool.and_eq_true, decide_eq_true_eq] at hb
          have r0 : 32 ≤ (r : Int) := by omega
          have r1 : (r : Int) ≤ 126 := by omega
          clear hpl hb
          obtain ⟨ao, m, cap, rfl⟩ := form hS1.buf
          have hM1 := hM.next hS1.buf.below
          go_wp2_with fail
          refine (plain_any r hr W).mono ?_
          rintro e w3 ⟨rfl, rfl⟩
          rw [HPL.out]
          go_wp2_with fail
          refine (row_any (Sv it (.slice ao m cap)) w w3 w.heap.size out row _ hS1.bld hS1.buf hM1 (by omega) (by omega)).mono ?_
          rintro e w4 ⟨rfl, h4, k4, b4⟩
          have hS2 := (hS1.wrote h4 k4 b4).clear
          obtain ⟨L1, hL1⟩ : ∃ L, out ++ rowL row = L := ⟨_, rfl⟩
          have hl1 : L1.length ≤ 12 * s.size + 3 := full_len (b := litL r ++ nameP [] (ptsL (s.data.toList.drop (pos + n)))) (by
            rw [← hL1, HF.out, ← HQ.out, HPT.out, U7.name_plain _ HPL.out, List.append_assoc])
          have HQ1 := Lib.hid (show L1 ++ (litL r ++ nameP [] (ptsL (s.data.toList.drop (pos + n)))) = full by rw [← hL1, ← HQ.out, HPT.out, U7.name_plain _ HPL.out, List.append_assoc])
          rw [hL1] at hS2
          clear hL1 h4 k4 b4 hS1
          have hx : (r : Int) = ((UInt8.ofNat r).toNat : Int) := by rw [U7.ofNat_u8 (by omega)]
          have HX := Lib.hid hx
          clear hx
          go_wp2_with fail
          by_cases h38 : r = 38
          · subst h38
            refine (byte_at (Sv it (.slice ao 0 cap)) w.heap.size w.heap.size L1 38 _ HX.out w4 hS2.bld (by omega)).mono ?_
            rintro e w5 ⟨rfl, h5, k5, b5⟩
            have hS3 := hS2.wrote h5 k5 b5
            obtain ⟨L2, hL2⟩ : ∃ L, L1 ++ [38] = L := ⟨_, rfl⟩
            have hl2 : L2.length = L1.length + 1 := by rw [← hL2, List.length_append]; rfl
            rw [hL2] at hS3
            clear h5 k5 b5 hS2
            go_wp2_with fail
            refine (byte_at (Sv it (.slice ao 0 cap)) w.heap.size w.heap.size L2 45 _ rfl w5 hS3.bld (by omega)).mono ?_
            rintro e w6 ⟨rfl, h6, k6, b6⟩
            have hS4 := hS3.wrote h6 k6 b6
            obtain ⟨L3, hL3⟩ : ∃ L, L2 ++ [45] = L := ⟨_, rfl⟩
            have HQ3 := Lib.hid (show L3 ++ nameP [] (ptsL (s.data.toList.drop (pos + n))) = full by rw [← HQ1.out, ← hL3, ← hL2, litL, if_pos rfl]; simp)
            rw [hL3] at hS4
            clear hL2 hL3 h6 k6 b6 hS3
            go_wp2
            go_roundw
            case rel => exact ⟨pos + n, L3, [], hS4, by omega, by simp, HQ3, HV'⟩
            case measure => simp only [World.iterPos, hS4.iter]; have := HSP.out; simp only [World.iterPos] at this; rw [this]; omega
          · have h38' : (r : Int) ≠ 38 := by omega
            refine (byte_at (Sv it (.slice ao 0 cap)) w.heap.size w.heap.size L1 (UInt8.ofNat r) _ HX.out w4 hS2.bld (by omega)).mono ?_
            rintro e w5 ⟨rfl, h5, k5, b5⟩
            have hS3 := hS2.wrote h5 k5 b5
            obtain ⟨L2, hL2⟩ : ∃ L, L1 ++ [UInt8.ofNat r] = L := ⟨_, rfl⟩
            have HQ3 := Lib.hid (show L2 ++ nameP [] (ptsL (s.data.toList.drop (pos + n))) = full by rw [← HQ1.out, ← hL2, litL, if_neg h38, List.append_assoc])
            rw [hL2] at hS3
            clear hL2 h5 k5 b5 hS2 h38
            go_wp2
            go_roundw
            case rel => exact ⟨pos + n, L2, [], hS3, by omega, by simp, HQ3, HV'⟩
            case measure => simp only [World.iterPos, hS3.iter]; have := HSP.out; simp only [World.iterPos] at this; rw [this]; omega
      · have hnx : ∀ ty, (Instr.next (.pointer (some ⟨it, 0, none⟩)) true ty).run Tryd.prog wr = .ok (.tuple #[.bool false]) wr := fun ty => Lib.run_next_end_at wr it s pos ty hS.iter hp
        have hM1 := hM.next hS.buf.below
        have HE := Lib.hid (show out ++ rowL row = full by
          have := HQ.out
          rwa [List.drop_of_length_le (by rw [← Lib.size_eq]; omega), U7.pts_nil, U7.name_nil] at this)
        clear HVP HQ
        go_wp2_with fail
        refine (row_any (Sv it u5) w wr w.heap.size out row _ hS.bld hS.buf hM1 (by omega) (by omega)).mono ?_
        rintro e w4 ⟨rfl, h4, k4, b4⟩
        rw [HE.out] at h4
        have hsz := (hS.buf.below.trans b4).size
        go_wp2_with fail
        refine (Tryd.Builder_String_any w.heap.size w.heap.size full _ h4.isB hsz).mono ?_
        rintro e w5 ⟨rfl, b5⟩
        go_wp2
        go_ret2
        exact ⟨rfl, (hS.buf.below.trans b4).trans b5⟩
end Go.Proofs.YtcakcpnmbclieaaDoor.U7C
