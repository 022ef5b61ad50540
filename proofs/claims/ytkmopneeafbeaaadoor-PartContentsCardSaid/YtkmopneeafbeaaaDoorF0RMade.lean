/-
  The document's made tells what a joined text tells as a field, or that it tells none. Condition: the text has at most 2^40 bytes.
-/
import Derived.Test.YtkmopneeafbeaaaDoorF0RTrim
import Derived.Test.YtkmopneeafbeaaaDoorF0Field
import Derived.Test.YtkmopneeafbeaaaDoorRxIdx
import Derived.Deep.RegionWith
import Derived.Deep.CutRange
namespace Go.Proofs.YtkmopneeafbeaaaDoor.F0
open Go Go.RowKit Go.Joins Kit

theorem nameL_all {l : List UInt8} (h0 : l ≠ []) (h : l.all inName = true) : nameL l = true := by
  unfold nameL
  rw [h]
  cases l with
  | nil => exact absurd rfl h0
  | cons c r => rfl
theorem rtrim_call (s : ByteArray) (w : World) (hs : s.size ≤ 1099511627776) :
    Calls Tryd.prog 24 #[.string s] w fun e w' => e = .returned (.string ⟨(trimL s.data.toList).toArray⟩) ∧ w = w' := rtrim_any s w hs
theorem ext_pre (s : ByteArray) (k t : Nat) : (s.extract k t).data.toList = (s.data.toList.take t).drop k := by
  rw [← Lib.toList_data, Lib.extract_toList, List.drop_take]
theorem at_left {s : ByteArray} {a r : List UInt8} {c : UInt8} (h : s.data.toList = a ++ c :: r) (q : Nat) (hq : q < a.length) : ∃ hs : q < s.size, s[q] = a[q] := by
  have hl : q < s.data.toList.length := by rw [h, List.length_append]; omega
  have hs : q < s.size := by rw [Lib.size_eq]; exact hl
  refine ⟨hs, ?_⟩
  rw [← byte_get s q hs]
  simp [h, List.getElem_append_left hq]

set_option maxHeartbeats 2000000 in
set_option maxRecDepth 100000 in
theorem made_any (s : ByteArray) (w : World) (hs : s.size ≤ 1099511627776) :
    Calls Tryd.prog 82 #[.string s] w fun e w' => e = .returned (.tuple #[fV (fieldL s.data.toList), .bool (fieldL s.data.toList).isSome]) ∧ Below w.heap.size w w' := by
  have hblk := Kit.fresh_block w #[.string ⟨#[]⟩, .string ⟨#[]⟩] 44
  have hb0 : Below w.heap.size w (w.alloc (.cells #[.string ⟨#[]⟩, .string ⟨#[]⟩] 44)) := (Below.refl _ w).alloc (Nat.le_refl _) _
  have HBLK := Lib.hid hblk
  have HB0 := Lib.hid hb0
  clear hblk hb0
  go_enter Tryd.func82, Tryd.ntmps82
  go_wp2_with fail
  refine (Rx.index_one s 58 _ hs).mono ?_
  rintro e w1 ⟨rfl, hidx⟩
  have HNO : Hid (∀ tmps : Array Value, tmps.getD 2 undef = .pointer (some ⟨w.heap.size, 0, none⟩) → tmps.getD 3 undef = .bool false → fieldL s.data.toList = none → bodyPost Tryd.prog Tryd.f82 (fun e w' => e = .returned (.tuple #[fV (fieldL s.data.toList), .bool (fieldL s.data.toList).isSome]) ∧ Below w.heap.size w w') .ret { tmps := tmps, defers := [] }
      (w.alloc (.cells #[.string ⟨#[]⟩, .string ⟨#[]⟩] 44))) := Lib.hid (fun tmps h2 h3 hf => by
    refine bodyPost_ret (field_result rfl tmps h2 HBLK.out) rfl ?_
    rw [hf, h3]
    exact ⟨rfl, HB0.out⟩)
  rcases hidx with ⟨rfl, hno⟩ | ⟨a, r, hl, ha, rfl⟩
  · have HF := Lib.hid (fieldL_none hno)
    clear hno
    go_wp2_with fail
    exact HNO.out _ rfl rfl HF.out
  · by_cases ha0 : a = []
    · have HF := Lib.hid (fieldL_no r ha (by rw [ha0]; rfl))
      rw [← hl] at HF
      subst ha0
      clear ha hl
      go_wp2_with fail
      exact HNO.out _ rfl rfl HF.out
    · have hap : 0 < a.length := List.length_pos_iff.2 ha0
      have g0 : ¬ (a.length : Int) ≤ 0 := by omega
      have hsz : a.length + r.length + 1 = s.size := by rw [Lib.size_eq, hl, List.length_append, List.length_cons]; omega
      have HA := Lib.hid ha
      have HL := Lib.hid hl
      have HA0 := Lib.hid ha0
      clear ha hl ha0
      go_wp2_with fail
      go_loop [5] (fun i => ∃ q : Nat, q ≤ a.length ∧ i = .int .i64 (q : Int) ∧ Hid ((a.take q).all inName = true)) (fun i => a.length - (intOf i).toNat)
      case atStart => exact ⟨0, Nat.zero_le _, rfl, Lib.hid rfl⟩
      case round =>
        obtain ⟨q, hq, rfl, hall⟩ := hrel
        by_cases hlt : q < a.length
        · have g1 : (q : Int) < (a.length : Int) := by omega
          obtain ⟨hqs, hget⟩ := at_left HL.out q hlt
          have hst := Lib.hid (all_take_succ inName a q hlt)
          obtain ⟨c, hc⟩ : ∃ c, a[q] = c := ⟨_, rfl⟩
          rw [hc] at hget hst
          have HC := Lib.hid hc
          clear hc
          have hcb := c.toNat_lt
          by_cases h1 : c.toNat < 33
          · have HF := Lib.hid (fieldL_no r HA.out (nameL_false hlt (by rw [HC.out]; exact inName_low h1)))
            rw [← HL.out] at HF
            have g2 : (c.toNat : Int) < 33 := by omega
            clear h1
            go_wp2_with fail
            exact HNO.out _ rfl rfl HF.out
          · by_cases h2 : 126 < c.toNat
            · have HF := Lib.hid (fieldL_no r HA.out (nameL_false hlt (by rw [HC.out]; exact inName_high h2)))
              rw [← HL.out] at HF
              have g2 : ¬ (c.toNat : Int) < 33 := by omega
              have g3 : (126 : Int) < (c.toNat : Int) := by omega
              clear h1 h2
              go_wp2_with fail
              exact HNO.out _ rfl rfl HF.out
            · have hyes : Hid ((a.take (q + 1)).all inName = true) := Lib.hid (by rw [hst.out, hall.out, inName_in (by omega) (by omega)]; rfl)
              have g2 : ¬ (c.toNat : Int) < 33 := by omega
              have g3 : ¬ (126 : Int) < (c.toNat : Int) := by omega
              clear h1 h2
              go_wp2_with fail
              go_round
              case rel => exact ⟨q + 1, by omega, by go_num, hyes⟩
              case measure => simp [intOf]; omega
        · have g1 : ¬ (q : Int) < (a.length : Int) := by omega
          have HF : Hid (fieldL s.data.toList = some (a, trimL r)) := Lib.hid (by
            rw [HL.out]
            refine fieldL_yes r HA.out (nameL_all HA0.out ?_)
            have := hall.out
            rwa [List.take_of_length_le (by omega)] at this)
          have e1 : (s.extract 0 a.length).data.toList = a := by rw [ext_pre s 0 a.length, HL.out]; simp
          have e2 : (s.extract (a.length + 1) s.size).data.toList = r := by
            rw [ext_pre s, List.take_of_length_le (by rw [← Lib.size_eq]; exact Nat.le_refl _), HL.out]
            simp
          have HE := Lib.hid (And.intro e1 e2)
          have hxs : (s.extract (a.length + 1) s.size).size ≤ 1099511627776 := by rw [ByteArray.size_extract]; omega
          have HXS := Lib.hid hxs
          have g4 : (a.length : Int) ≤ (s.size : Int) := by omega
          have g5 : (a.length : Int) + 1 ≤ (s.size : Int) := by omega
          have hw : IntKind.i64.wrap ((a.length : Int) + 1) = (a.length : Int) + 1 := IntWalk.i64_in _ (by omega)
          have g6 : (0 : Int) ≤ (a.length : Int) + 1 := by omega
          have g7 : ((a.length : Int) + 1).toNat = a.length + 1 := by omega
          clear e1 e2 hxs
          go_wp2_with fail
          go_region_with (refine (rtrim_call (s.extract (a.length + 1) s.size) _ HXS.out).mono ?_; rintro e w4 ⟨rfl, rfl⟩)
          all_goals go_wp2_with fail
          have hlist : List.take (s.size - (a.length + 1)) (List.drop (a.length + 1) s.data.toList) = r := by
            rw [HL.out, show s.size - (a.length + 1) = r.length by omega]
            simp
          have hpre : s.extract 0 a.length = ⟨a.toArray⟩ := Kit.bytes_ext HE.out.1
          rw [hlist, hpre]
          refine bodyPost_ret (field_result rfl _ rfl (w := (w.alloc (.cells #[.string ⟨a.toArray⟩, .string ⟨(trimL r).toArray⟩] 44)).drew) (Kit.fresh_block w #[.string ⟨a.toArray⟩, .string ⟨(trimL r).toArray⟩] _)) rfl ?_
          rw [HF.out]
          exact ⟨rfl, ((Below.refl _ w).alloc (Nat.le_refl _) _).drew⟩
end Go.Proofs.YtkmopneeafbeaaaDoor.F0
