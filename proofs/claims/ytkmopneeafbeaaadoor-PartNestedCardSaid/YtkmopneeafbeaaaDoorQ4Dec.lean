/-
  quoted.value returns a hexadecimal digit's value, or -1; quoted.decodeNext writes what a sign of equality and what follows it tell, and returns what is left; quoted.Decode returns what a text tells in quoted-printable. Conditions: the text has at most 2^30 bytes; the bound of the library's search is some number.
-/
import Derived.Test.YtkmopneeafbeaaaDoorQ4Plain
import Derived.Test.YtkmopneeafbeaaaDoorBld
import Derived.Test.YtkmopneeafbeaaaDoorEnv
import Derived.IntWalk
import Derived.LoopN
import Derived.Deep.RegionWith
import Derived.Deep.CutRange
namespace Go.Proofs.YtkmopneeafbeaaaDoor.Q4
open Go Go.RowKit Go.Joins Kit

theorem value_any (c : UInt8) (w : World) :
    Calls Tryd.prog 88 #[.int .u8 (c.toNat : Int)] w fun e w' => e = .returned (.int .i64 (hv c)) ∧ w = w' := by
  have hc := c.toNat_lt
  by_cases h : 97 ≤ c.toNat ∧ c.toNat ≤ 102
  · have g1 : (97 : Int) ≤ c.toNat := by omega
    have g2 : (c.toNat : Int) ≤ 102 := by omega
    have hI : Hid (Lib.indexByte digL ((c.toNat : Int) - 32).toNat.toUInt8 = hv c) := by
      show _ = _
      rw [← idx_hv c, upN, if_pos h, show ((c.toNat : Int) - 32).toNat = c.toNat - 32 by omega]
    clear h
    go_enter Tryd.func88, Tryd.ntmps88
    go_wp2_with fail
    refine (Tryd.strings_IndexByte _ _ w).mono ?_
    rintro e w' ⟨rfl, rfl⟩
    go_wp2
    go_ret
    exact ⟨ret_int hI.out, rfl⟩
  · have hI : Hid (Lib.indexByte digL c = hv c) := by
      show _ = _
      rw [← idx_hv c, upN, if_neg h, u8_nat]
    rcases (show c.toNat < 97 ∨ 102 < c.toNat by omega) with g | g
    · have g1 : (c.toNat : Int) < 97 := by omega
      clear h
      go_enter Tryd.func88, Tryd.ntmps88
      go_wp2_with fail
      refine (Tryd.strings_IndexByte _ _ w).mono ?_
      rintro e w' ⟨rfl, rfl⟩
      go_wp2
      go_ret
      exact ⟨ret_int hI.out, rfl⟩
    · have g1 : 102 < (c.toNat : Int) := by omega
      clear h
      go_enter Tryd.func88, Tryd.ntmps88
      go_wp2_with fail
      refine (Tryd.strings_IndexByte _ _ w).mono ?_
      rintro e w' ⟨rfl, rfl⟩
      go_wp2
      go_ret
      exact ⟨ret_int hI.out, rfl⟩
theorem value_some {c : UInt8} {v : Nat} (h : hx c = some v) (w : World) :
    Calls Tryd.prog 88 #[.int .u8 (c.toNat : Int)] w fun e w' => e = .returned (.int .i64 (v : Int)) ∧ w = w' := by
  have := value_any c w
  rwa [hv_some h] at this
theorem value_none {c : UInt8} (h : hx c = none) (w : World) :
    Calls Tryd.prog 88 #[.int .u8 (c.toNat : Int)] w fun e w' => e = .returned (.int .i64 (-1)) ∧ w = w' := by
  have := value_any c w
  rwa [hv_none h] at this

theorem ext_drop (s : ByteArray) (k : Nat) : (s.extract k s.size).data.toList = s.data.toList.drop k := by
  rw [← Lib.toList_data, Lib.extract_toList, List.take_of_length_le (by rw [List.length_drop, ← Lib.size_eq]; exact Nat.le_refl _)]
theorem hv_in (c : UInt8) : -1 ≤ hv c ∧ hv c ≤ 15 := by
  cases h : hx c with
  | none => rw [hv_none h]; omega
  | some v => have := hx_lt h; rw [hv_some h]; omega

/-! ### What follows a sign of equality -/
def softB (s : ByteArray) : ByteArray := ⟨(soft s.data.toList).2.toArray⟩
theorem u8_or_low (a b : Nat) (ha : a < 16) (hb : b < 16) : bits .or .i64 ((a : Int) * 16) (b : Int) = (a : Int) * 16 + b :=
  bits_join .i64 62 (by decide) (fun n h0 h1 => by rw [IntKind.wrap_i64]; omega) 4 ((a : Int) * 16) (b : Int) (by omega) (by omega) (by omega) (by omega) (by omega) (by omega)
theorem byte_of {a b : Nat} (ha : a < 16) (hb : b < 16) : ((UInt8.ofNat (a * 16 + b)).toNat : Int) = (a : Int) * 16 + b := by simp; omega
theorem no_hasp {s : ByteArray} {p : List UInt8} (h : Lib.hasPrefix s.data.toList p = false) : Lib.trimPrefix s.data.toList p = s.data.toList := by rw [Lib.trimPrefix, h]; rfl
theorem lf_head (l : List UInt8) : Lib.hasPrefix l [10] = decide (l.head? = some 10) := by
  cases l with
  | nil => rfl
  | cons a r => simp [Lib.hasPrefix, List.isPrefixOf, eq_comm, Bool.beq_eq_decide_eq]
theorem crlf_head (l : List UInt8) : Lib.hasPrefix l [13, 10] = decide (l.take 2 = [13, 10]) := by
  rcases l with _ | ⟨a, _ | ⟨b, r⟩⟩
  · rfl
  · simp [Lib.hasPrefix, List.isPrefixOf]
  · by_cases h1 : a = 13
    · by_cases h2 : b = 10
      · simp [Lib.hasPrefix, List.isPrefixOf, h1, h2]
      · simp [Lib.hasPrefix, List.isPrefixOf, h1, h2, Ne.symm h2]
    · simp [Lib.hasPrefix, List.isPrefixOf, h1, Ne.symm h1]
/-- What strings.CutPrefix tells of the two ends of a line. -/
theorem cutLf {s : ByteArray} (w : World) : Calls Tryd.prog 35 #[.string s, .string ⟨#[10]⟩] w fun e w' => e = .returned (.tuple #[.string ⟨(Lib.trimPrefix s.data.toList [10]).toArray⟩, .bool (Lib.hasPrefix s.data.toList [10])]) ∧ w' = w := Tryd.strings_CutPrefix s ⟨#[10]⟩ w
theorem cutCrlf {s : ByteArray} (w : World) : Calls Tryd.prog 35 #[.string s, .string ⟨#[13, 10]⟩] w fun e w' => e = .returned (.tuple #[.string ⟨(Lib.trimPrefix s.data.toList [13, 10]).toArray⟩, .bool (Lib.hasPrefix s.data.toList [13, 10])]) ∧ w' = w := Tryd.strings_CutPrefix s ⟨#[13, 10]⟩ w

theorem soft_one {l : List UInt8} (h : l.head? = some 10) : Lib.hasPrefix l [10] = true ∧ Lib.trimPrefix l [10] = (soft l).2 ∧ (soft l).1 = [] := by
  have hp : Lib.hasPrefix l [10] = true := by rw [lf_head]; simpa using h
  refine ⟨hp, ?_, ?_⟩
  · rw [Lib.trimPrefix, hp, soft, if_pos h]; rfl
  · rw [soft, if_pos h]
theorem soft_two {l : List UInt8} (h : l.head? ≠ some 10) (h2 : l.take 2 = [13, 10]) : Lib.hasPrefix l [10] = false ∧ Lib.hasPrefix l [13, 10] = true ∧ Lib.trimPrefix l [13, 10] = (soft l).2 ∧ (soft l).1 = [] := by
  have hp : Lib.hasPrefix l [13, 10] = true := by rw [crlf_head]; simpa using h2
  refine ⟨by rw [lf_head]; simpa using h, hp, ?_, ?_⟩
  · rw [Lib.trimPrefix, hp, soft, if_neg h, if_pos h2]; rfl
  · rw [soft, if_neg h, if_pos h2]
theorem soft_none {l : List UInt8} (h : l.head? ≠ some 10) (h2 : l.take 2 ≠ [13, 10]) : Lib.hasPrefix l [10] = false ∧ Lib.hasPrefix l [13, 10] = false ∧ (soft l).2 = l ∧ (soft l).1 = [61] := by
  refine ⟨by rw [lf_head]; simpa using h, by rw [crlf_head]; simpa using h2, ?_, ?_⟩
  · rw [soft, if_neg h, if_neg h2]
  · rw [soft, if_neg h, if_neg h2]

set_option maxHeartbeats 400000 in
set_option maxRecDepth 100000 in
theorem next_any (B b : Nat) (l : List UInt8) (s : ByteArray) (w : World) (h : Lib.IsBuilderF 75 5 B b (Lib.byteCells l) w) (hl : l.length ≤ 8796093022208) (hBw : B ≤ w.heap.size) :
    Calls Tryd.prog 58 #[.pointer (some ⟨b, 0, none⟩), .string s] w fun e w' => e = .returned (.string ⟨(nextL s.data.toList).2.toArray⟩) ∧ (Lib.IsBuilderF 75 5 B b (Lib.byteCells (l ++ (nextL s.data.toList).1)) w' ∧ Below B w w') := by
  by_cases hs : s.size < 2
  · have g1 : (s.size : Int) < 2 := by omega
    have hn : Hid (nextL s.data.toList = soft s.data.toList) := by show _ = _; exact nextL_short (by rw [← Lib.size_eq]; exact hs)
    clear hs
    go_enter Tryd.func58, Tryd.ntmps58
    go_wp2_with fail
    by_cases h1 : s.data.toList.head? = some 10
    · have hso := soft_one h1
      have HP := Lib.hid hso.1
      have HT := Lib.hid hso.2.1
      have HE := Lib.hid hso.2.2
      clear hso h1
      refine wp_loop_rounds 1 ?_
      rw [rounds_succ]
      go_wp2_with fail
      refine (cutLf _).mono ?_
      rintro e w' ⟨rfl, rfl⟩
      rw [HP.out, HT.out]
      go_wp2
      go_ret
      rw [hn.out, HE.out, List.append_nil]
      exact ⟨rfl, h.alloc _, (Below.refl _ w).alloc hBw _⟩
    · by_cases h2 : s.data.toList.take 2 = [13, 10]
      · have hso := soft_two h1 h2
        have HP := Lib.hid hso.1
        have HQ := Lib.hid hso.2.1
        have HT := Lib.hid hso.2.2.1
        have HE := Lib.hid hso.2.2.2
        clear hso h1 h2
        refine wp_loop_rounds 2 ?_
        rw [rounds_succ]
        go_wp2_with fail
        refine (cutLf _).mono ?_
        rintro e w' ⟨rfl, rfl⟩
        rw [HP.out]
        go_wp2_with fail
        rw [rounds_succ]
        go_wp2_with fail
        refine (cutCrlf _).mono ?_
        rintro e w' ⟨rfl, rfl⟩
        rw [HQ.out, HT.out]
        go_wp2
        go_ret
        rw [hn.out, HE.out, List.append_nil]
        exact ⟨rfl, h.alloc _, (Below.refl _ w).alloc hBw _⟩
      · have hso := soft_none h1 h2
        have HP := Lib.hid hso.1
        have HQ := Lib.hid hso.2.1
        have HT := Lib.hid hso.2.2.1
        have HE := Lib.hid hso.2.2.2
        clear hso h1 h2
        refine wp_loop_rounds 3 ?_
        rw [rounds_succ]
        go_wp2_with fail
        refine (cutLf _).mono ?_
        rintro e w' ⟨rfl, rfl⟩
        rw [HP.out]
        go_wp2_with fail
        rw [rounds_succ]
        go_wp2_with fail
        refine (cutCrlf _).mono ?_
        rintro e w' ⟨rfl, rfl⟩
        rw [HQ.out]
        go_wp2_with fail
        rw [rounds_succ]
        go_wp2_with fail
        refine (Tryd.Builder_WriteByte_k B b _ _ _ (h.alloc _) (by rw [Lib.byteCells_length]; omega) (Nat.le_trans hBw (Nat.le_of_lt (lt_alloc w _)))).mono ?_
        rintro e w2 ⟨rfl, h2, hb2, _⟩
        go_wp2
        go_ret
        rw [hn.out, HE.out, HT.out]
        exact ⟨rfl, by rw [Kit.cells_snoc]; exact Or.inr h2, ((Below.refl _ w).alloc hBw _).trans hb2⟩
  · have g1 : (2 : Int) ≤ s.size := by omega
    have b0 : (0 : Int) < s.size := by omega
    have b1 : (1 : Int) < s.size := by omega
    obtain ⟨q, hq⟩ : ∃ q, s.data.toList = s[0] :: s[1] :: q := by
      have hl : s.data.toList.length = s.size := (Lib.size_eq s).symm
      refine ⟨s.data.toList.drop 2, ?_⟩
      rw [← byte_get s 0 (by omega), ← byte_get s 1 (by omega)]
      rw [← List.drop_eq_getElem_cons (by omega : 1 < s.data.toList.length), ← List.drop_eq_getElem_cons (by omega : 0 < s.data.toList.length)]
      rfl
    have c0 := s[0].toNat_lt
    have c1 := s[1].toNat_lt
    go_enter Tryd.func58, Tryd.ntmps58
    go_upto_region 2 with fail
    go_cut [5, 6] from 14 to 19 (fun x y wx => x = .int .i64 (hv s[0]) ∧ y = .int .i64 (hv s[1]) ∧ wx = w.drew)
    case first =>
      go_region_with ((go_at_call 88; refine (value_any _ _).mono ?_; rintro e w' ⟨rfl, rfl⟩))
      all_goals
        go_wp2_with fail
        go_meet
        exact ⟨rfl, rfl, rfl⟩
    case rest =>
      obtain ⟨rfl, rfl, rfl⟩ := hcut
      have hd : Lib.IsBuilderF 75 5 B b (Lib.byteCells l) w.drew := h
      have hbd : Below B w w.drew := (Below.refl _ w).drew
      have hBd : B ≤ w.drew.heap.size := hBw
      obtain ⟨wc, hwc⟩ : ∃ wc, w.drew = wc := ⟨_, rfl⟩
      rw [hwc] at hd hbd hBd ⊢
      clear hwc h hBw
      have v0 : -1 ≤ hv s[0] ∧ hv s[0] ≤ 15 := hv_in _
      have v1 : -1 ≤ hv s[1] ∧ hv s[1] ≤ 15 := hv_in _
      cases ha : hx s[0] with
      | none =>
        have hn : Hid (nextL s.data.toList = soft s.data.toList) := by show _ = _; rw [hq]; exact nextL_no1 ha _
        rw [hv_none ha]
        generalize hv s[1] = y1 at v1
        clear hq ha v0
        go_wp2_with fail
        by_cases h1 : s.data.toList.head? = some 10
        · have hso := soft_one h1
          have HP := Lib.hid hso.1
          have HT := Lib.hid hso.2.1
          have HE := Lib.hid hso.2.2
          clear hso h1
          refine wp_loop_rounds 1 ?_
          rw [rounds_succ]
          go_wp2_with fail
          refine (cutLf _).mono ?_
          rintro e w' ⟨rfl, rfl⟩
          rw [HP.out, HT.out]
          go_wp2
          go_ret
          rw [hn.out, HE.out, List.append_nil]
          exact ⟨rfl, hd.alloc _, hbd.alloc hBd _⟩
        · by_cases h2 : s.data.toList.take 2 = [13, 10]
          · have hso := soft_two h1 h2
            have HP := Lib.hid hso.1
            have HQ := Lib.hid hso.2.1
            have HT := Lib.hid hso.2.2.1
            have HE := Lib.hid hso.2.2.2
            clear hso h1 h2
            refine wp_loop_rounds 2 ?_
            rw [rounds_succ]
            go_wp2_with fail
            refine (cutLf _).mono ?_
            rintro e w' ⟨rfl, rfl⟩
            rw [HP.out]
            go_wp2_with fail
            rw [rounds_succ]
            go_wp2_with fail
            refine (cutCrlf _).mono ?_
            rintro e w' ⟨rfl, rfl⟩
            rw [HQ.out, HT.out]
            go_wp2
            go_ret
            rw [hn.out, HE.out, List.append_nil]
            exact ⟨rfl, hd.alloc _, hbd.alloc hBd _⟩
          · have hso := soft_none h1 h2
            have HP := Lib.hid hso.1
            have HQ := Lib.hid hso.2.1
            have HT := Lib.hid hso.2.2.1
            have HE := Lib.hid hso.2.2.2
            clear hso h1 h2
            refine wp_loop_rounds 3 ?_
            rw [rounds_succ]
            go_wp2_with fail
            refine (cutLf _).mono ?_
            rintro e w' ⟨rfl, rfl⟩
            rw [HP.out]
            go_wp2_with fail
            rw [rounds_succ]
            go_wp2_with fail
            refine (cutCrlf _).mono ?_
            rintro e w' ⟨rfl, rfl⟩
            rw [HQ.out]
            go_wp2_with fail
            rw [rounds_succ]
            go_wp2_with fail
            refine (Tryd.Builder_WriteByte_k B b _ _ _ (hd.alloc _) (by rw [Lib.byteCells_length]; omega) (Nat.le_trans hBd (Nat.le_of_lt (lt_alloc wc _)))).mono ?_
            rintro e w2 ⟨rfl, h2, hb2, _⟩
            go_wp2
            go_ret
            rw [hn.out, HE.out, HT.out]
            exact ⟨rfl, by rw [Kit.cells_snoc]; exact Or.inr h2, (hbd.alloc hBd _).trans hb2⟩
      | some a =>
        have a16 := hx_lt ha
        cases hb : hx s[1] with
        | none =>
          have hn : Hid (nextL s.data.toList = soft s.data.toList) := by show _ = _; rw [hq]; exact nextL_no2 hb _
          rw [hv_some ha, hv_none hb]
          clear hq ha hb v0 v1
          go_wp2_with fail
          by_cases h1 : s.data.toList.head? = some 10
          · have hso := soft_one h1
            have HP := Lib.hid hso.1
            have HT := Lib.hid hso.2.1
            have HE := Lib.hid hso.2.2
            clear hso h1
            refine wp_loop_rounds 1 ?_
            rw [rounds_succ]
            go_wp2_with fail
            refine (cutLf _).mono ?_
            rintro e w' ⟨rfl, rfl⟩
            rw [HP.out, HT.out]
            go_wp2
            go_ret
            rw [hn.out, HE.out, List.append_nil]
            exact ⟨rfl, hd.alloc _, hbd.alloc hBd _⟩
          · by_cases h2 : s.data.toList.take 2 = [13, 10]
            · have hso := soft_two h1 h2
              have HP := Lib.hid hso.1
              have HQ := Lib.hid hso.2.1
              have HT := Lib.hid hso.2.2.1
              have HE := Lib.hid hso.2.2.2
              clear hso h1 h2
              refine wp_loop_rounds 2 ?_
              rw [rounds_succ]
              go_wp2_with fail
              refine (cutLf _).mono ?_
              rintro e w' ⟨rfl, rfl⟩
              rw [HP.out]
              go_wp2_with fail
              rw [rounds_succ]
              go_wp2_with fail
              refine (cutCrlf _).mono ?_
              rintro e w' ⟨rfl, rfl⟩
              rw [HQ.out, HT.out]
              go_wp2
              go_ret
              rw [hn.out, HE.out, List.append_nil]
              exact ⟨rfl, hd.alloc _, hbd.alloc hBd _⟩
            · have hso := soft_none h1 h2
              have HP := Lib.hid hso.1
              have HQ := Lib.hid hso.2.1
              have HT := Lib.hid hso.2.2.1
              have HE := Lib.hid hso.2.2.2
              clear hso h1 h2
              refine wp_loop_rounds 3 ?_
              rw [rounds_succ]
              go_wp2_with fail
              refine (cutLf _).mono ?_
              rintro e w' ⟨rfl, rfl⟩
              rw [HP.out]
              go_wp2_with fail
              rw [rounds_succ]
              go_wp2_with fail
              refine (cutCrlf _).mono ?_
              rintro e w' ⟨rfl, rfl⟩
              rw [HQ.out]
              go_wp2_with fail
              rw [rounds_succ]
              go_wp2_with fail
              refine (Tryd.Builder_WriteByte_k B b _ _ _ (hd.alloc _) (by rw [Lib.byteCells_length]; omega) (Nat.le_trans hBd (Nat.le_of_lt (lt_alloc wc _)))).mono ?_
              rintro e w2 ⟨rfl, h2, hb2, _⟩
              go_wp2
              go_ret
              rw [hn.out, HE.out, HT.out]
              exact ⟨rfl, by rw [Kit.cells_snoc]; exact Or.inr h2, (hbd.alloc hBd _).trans hb2⟩
        | some b2 =>
          have b16 := hx_lt hb
          have hn : Hid (nextL s.data.toList = ([UInt8.ofNat (a * 16 + b2)], s.data.toList.drop 2)) := by
            show _ = _
            rw [hq, nextL_hex ha hb]
            rfl
          rw [hv_some ha, hv_some hb]
          have e1 := u8_or_low a b2 a16 b16
          have hby := Lib.hid (byte_of a16 b16)
          have g3 : (a : Int) * 16 + b2 ≤ 255 := by omega
          clear hq ha hb v0 v1
          go_wp2_with fail
          refine (Tryd.Builder_WriteByte_k B b _ _ _ hd (by rw [Lib.byteCells_length]; omega) hBd).mono ?_
          rintro e w2 ⟨rfl, h2, hb2, _⟩
          go_wp2
          go_ret
          rw [hn.out]
          rw [← hby.out, ← Kit.cells_snoc] at h2
          exact ⟨ret_bytes (ext_drop s 2), Or.inr h2, hbd.trans hb2⟩
end Go.Proofs.YtkmopneeafbeaaaDoor.Q4
