/-
  The program's Right of any value, right or wrong: whether it is right. Condition: no list and no text in it is too long (Tame).
-/
import Derived.Test.YtoofcclcimkipaaDoorJ8CSame
import Derived.Test.YtoofcclcimkipaaDoorJ8Right
import Derived.Test.YtoofcclcimkipaaDoorJ7Set
import Derived.Test.YtoofcclcimkipaaDoorU8Valid
namespace Go.Proofs.YtoofcclcimkipaaDoor.J8
open Go Go.RowKit Go.Joins Kit J7 Nds Go.Maps Go.WideMaps

def NodeV (k n : Int) (t : ByteArray) (a3 : Option Addr) (n3 m3 : Nat) (a4 : Option Addr) (n4 m4 : Nat) : Value := .agg #[.int .i64 k, .int .i64 n, .string t, .slice a3 n3 m3, .slice a4 n4 m4]
theorem zero_no {n : Nat} (h : n ≠ 0) : ((n : Int) == 0) = false := by rw [beq_eq_false_iff_ne]; omega
theorem no_of {r : Bool} {p : Prop} (h : r = true ↔ p) (hp : ¬ p) : r = false := by cases r; rfl; exact absurd (h.1 rfl) hp

set_option maxHeartbeats 2000000 in
set_option maxRecDepth 100000 in
theorem leaf_any (k n : Int) (t : ByteArray) (a3 : Option Addr) (nk m3 : Nat) (a4 : Option Addr) (nv m4 : Nat) (w : World) (r : Bool) (hr : r = true ↔ nk = 0 ∧ nv = 0) :
    Calls Tryd.prog 36 #[.agg #[.int .i64 k, .int .i64 n, .string t, .slice a3 nk m3, .slice a4 nv m4]] w fun e w' => e = .returned (.bool r) ∧ Below w.heap.size w w' := by
  obtain ⟨W, hW⟩ : ∃ W, w.alloc (.cells #[.int .i64 k, .int .i64 n, .string t, .slice a3 nk m3, .slice a4 nv m4] 25) = W := ⟨_, rfl⟩
  have hb0 : Below w.heap.size w W := by rw [← hW]; exact (Below.refl _ w).alloc (Nat.le_refl _) _
  have hA : Bx w.heap.size (.int .i64 k) (.int .i64 n) (.string t) (.slice a3 nk m3) (.slice a4 nv m4) W := by rw [← hW]; exact Bx.made w _ _ _ _ _
  have HB := Lib.hid hb0
  obtain ⟨G, hG⟩ : ∃ G, w.heap.size = G := ⟨_, rfl⟩
  rw [hG] at hA
  have p3 := hA.p3
  have p4 := hA.p4
  have HW := Lib.hid hW
  clear hA hW hb0
  by_cases h3 : nk = 0
  · subst h3
    by_cases h4 : nv = 0
    · subst h4
      obtain rfl : r = true := hr.2 ⟨rfl, rfl⟩
      go_enter Tryd.func36, Tryd.ntmps36
      go_upto_region 1 with fail
      rw [HW.out]
      (try rw [hG])
      go_wp2_with fail
      go_ret
      (try rw [← hG])
      exact ⟨rfl, HB.out⟩
    · have g4 := zero_no h4
      obtain rfl : r = false := no_of hr (fun h => h4 h.2)
      go_enter Tryd.func36, Tryd.ntmps36
      go_upto_region 1 with fail
      rw [HW.out]
      (try rw [hG])
      go_wp2_with fail
      go_ret
      (try rw [← hG])
      exact ⟨rfl, HB.out⟩
  · have g3 := zero_no h3
    obtain rfl : r = false := no_of hr (fun h => h3 h.1)
    go_enter Tryd.func36, Tryd.ntmps36
    go_upto_region 1 with fail
    rw [HW.out]
    (try rw [hG])
    go_wp2_with fail
    go_ret
    (try rw [← hG])
    exact ⟨rfl, HB.out⟩

theorem hasB_take (keys : List ByteArray) (i : Nat) (hi : i < keys.length) : hasB (keys.take i) keys[i].data.toList = true ↔ ∃ y, ∃ h : y < i, keys[y] = keys[i] := by
  unfold hasB
  rw [List.any_eq_true]
  constructor
  · rintro ⟨x, hx, he⟩
    obtain ⟨y, hy, rfl⟩ := List.getElem_of_mem hx
    rw [List.getElem_take] at he
    rw [List.length_take] at hy
    exact ⟨y, by omega, bytes_ext (eq_of_beq he)⟩
  · rintro ⟨y, hy, he⟩
    refine ⟨keys[y], ?_, by rw [he]; exact beq_self_eq_true _⟩
    have h9 := List.getElem_mem (l := keys.take i) (n := y) (by rw [List.length_take]; omega)
    rwa [List.getElem_take] at h9
set_option maxHeartbeats 8000000 in
set_option maxRecDepth 100000 in
theorem rkeys_any (k n : Int) (t : ByteArray) (a3 : Option Addr) (nk m3 : Nat) (a4 : Option Addr) (nv m4 : Nat) (keys : List ByteArray) (hnk : keys.length = nk) (w : World) (hk : KeysIn w a3 keys) (hkl : nk ≤ 65536) (hkz : ∀ q (h : q < keys.length), keys[q].size ≤ 300000) (hnv : nv ≤ 65536) (r : Bool) (hr : r = true ↔ nk = nv ∧ KeysFine keys) :
    Calls Tryd.prog 39 #[.agg #[.int .i64 k, .int .i64 n, .string t, .slice a3 nk m3, .slice a4 nv m4]] w fun e w' => e = .returned (.bool r) ∧ Below w.heap.size w w' := by
  obtain ⟨W, hW⟩ : ∃ W, w.alloc (.cells #[.int .i64 k, .int .i64 n, .string t, .slice a3 nk m3, .slice a4 nv m4] 25) = W := ⟨_, rfl⟩
  have hb0 : Below w.heap.size w W := by rw [← hW]; exact (Below.refl _ w).alloc (Nat.le_refl _) _
  have hA : Bx w.heap.size (.int .i64 k) (.int .i64 n) (.string t) (.slice a3 nk m3) (.slice a4 nv m4) W := by rw [← hW]; exact Bx.made w _ _ _ _ _
  have HB := Lib.hid hb0
  obtain ⟨G, hG⟩ : ∃ G, w.heap.size = G := ⟨_, rfl⟩
  rw [hG] at hA
  have p3 := hA.p3
  have p4 := hA.p4
  have HW := Lib.hid hW
  have HK := Lib.hid hk
  have HKZ := Lib.hid hkz
  have HR := Lib.hid hr
  have HNK := Lib.hid hnk
  have hki : (nk : Int) ≤ 65536 := by omega
  clear hW hb0 hk hkz hr hnk
  by_cases e0 : nk = nv
  rotate_left 1
  · have g0 : ((nk : Int) != (nv : Int)) = true := by rw [bne_iff_ne]; omega
    obtain rfl : r = false := no_of HR.out (fun h => e0 h.1)
    clear hA
    go_enter Tryd.func39, Tryd.ntmps39
    go_upto_region 1 with fail
    rw [HW.out]
    (try rw [hG])
    go_wp2_with fail
    go_ret
    (try rw [← hG])
    exact ⟨rfl, HB.out⟩
  subst e0
  have hGl := hA.lt
  have hmm := @run_makeMap Tryd.prog
  go_enter Tryd.func39, Tryd.ntmps39
  go_upto_region 1 with fail
  rw [HW.out]
  (try rw [hG])
  go_upto_region 3 with fail
  clear p3 p4
  have hM0 : Seen W.heap.size [] (W.alloc (.map #[] 0)) := World.ownsMap_made W _ _ _
  have hA0 := hA.alloc (.map #[] 0)
  have p3 := hA0.p3
  go_wp2_with fail
  obtain ⟨M, hM⟩ : ∃ M, W.heap.size = M := ⟨_, rfl⟩
  have hGM : G < M := by omega
  (try rw [hM])
  rw [hM] at hM0
  have hWM : w.heap.size ≤ M := by have := HB.out.size; omega
  have hb1 : Below w.heap.size w (W.alloc (.map #[] 0)) := HB.out.alloc HB.out.size _
  go_loopg [19] nk (fun m v wr => ∃ i : Nat, m = nk - i ∧ v = .int .i64 i ∧ i ≤ nk ∧ Bx G (.int .i64 k) (.int .i64 n) (.string t) (.slice a3 nk m3) (.slice a4 nk m4) wr ∧ Seen M (keys.take i) wr ∧ Below w.heap.size w wr ∧ Hid (∀ q (hq : q < keys.length), q < i → U8.validL keys[q].data.toList = true ∧ ∀ y (hy : y < q), keys[y] ≠ keys[q]))
  case atStart => exact ⟨0, rfl, rfl, Nat.zero_le _, hA0, hM0, hb1, Lib.hid (fun q _ h => absurd h (Nat.not_lt_zero q))⟩
  case round =>
    clear hA hA0 hM0 hb1 p3
    obtain ⟨i, rfl, rfl, hi, hAr, hMr, hbr, HF⟩ := hrel
    have p3 := hAr.p3
    by_cases hlt : i < nk
    · have h1 : i < keys.length := by rw [HNK.out]; exact hlt
      obtain ⟨g, o, e1, t1⟩ := HK.out.below hbr i h1
      subst e1
      have gi : (i : Int) < nk := by omega
      have hz := HKZ.out i h1
      have HT := Lib.hid (hasB_take keys i h1)
      have HTS : Hid (keys.take (i + 1) = keys.take i ++ [keys[i]]) := Lib.hid (List.take_succ_eq_append_getElem h1)
      have HF1 : Hid (∀ kb, keys[i] = kb → U8.validL kb.data.toList = true → (∀ y (hy : y < i), keys[y] ≠ kb) → ∀ q (hq : q < keys.length), q < i + 1 → U8.validL keys[q].data.toList = true ∧ ∀ y (hy : y < q), keys[y] ≠ keys[q]) := Lib.hid (fun kb e hv hn q hq hqi => by
        rcases Nat.lt_or_ge q i with h | h
        · exact HF.out q hq h
        · obtain rfl : q = i := by omega
          rw [e]
          exact ⟨hv, hn⟩)
      have HNO : Hid (∀ kb, keys[i] = kb → (U8.validL kb.data.toList = false ∨ ∃ y, ∃ h : y < i, keys[y] = kb) → r = false) := Lib.hid (fun kb e hd => no_of HR.out (fun h => by
        have h9 := h.2 i h1
        rw [e] at h9
        rcases hd with h' | ⟨y, hy, h'⟩
        · rw [h9.1] at h'; cases h'
        · exact h9.2 y hy h'))
      obtain ⟨kb, hkb⟩ : ∃ kb, keys[i] = kb := ⟨_, rfl⟩
      rw [hkb] at t1 hz HT HTS
      have hts : kb.size ≤ maxLen := by unfold maxLen; omega
      have hkey : keyOf Tryd.prog 9 (.string kb) = some (.string kb.data.toList) := keyOf_string_mk Tryd.underlying9 hts
      have hhas := has_setK (keys.take i) kb.data.toList
      have hval := fun w' => U8.valid_any kb (by omega) w'
      obtain ⟨vb, hvb⟩ : ∃ vb, U8.validL kb.data.toList = vb := ⟨_, rfl⟩
      rw [hvb] at hval
      obtain ⟨bb, hbb⟩ : ∃ bb, hasB (keys.take i) kb.data.toList = bb := ⟨_, rfl⟩
      rw [hbb] at hhas
      have HBB : Hid (bb = true ↔ ∃ y, ∃ h : y < i, keys[y] = kb) := Lib.hid (by rw [← hbb]; exact HT.out)
      have HKB := Lib.hid hkb
      have HVB := Lib.hid hvb
      have hlen : (keys.take i).length = i := by rw [List.length_take, HNK.out]; omega
      have hmap := hMr
      unfold Seen at hmap
      rw [hlen] at hmap
      clear hbb hkb hvb hlen HT hz HF
      cases bb with
      | true =>
        obtain rfl : r = false := HNO.out kb HKB.out (Or.inr (HBB.out.1 rfl))
        go_wp2_with (at_lookup; refine wpList_lookup_own_unit _ rfl _ _ 77 rfl 9 78 keyed Tryd.underlying77 (zeroU _) M _ _ rfl hmap _ _ rfl hkey ?_; rw [hhas])
        go_ret
        (try rw [← hG])
        exact ⟨rfl, hbr.alloc (by have := hbr.size; omega) _⟩
      | false =>
        cases vb with
        | false =>
          obtain rfl : r = false := HNO.out kb HKB.out (Or.inl HVB.out)
          go_wp2_with (at_lookup; refine wpList_lookup_own_unit _ rfl _ _ 77 rfl 9 78 keyed Tryd.underlying77 (zeroU _) M _ _ rfl hmap _ _ rfl hkey ?_; rw [hhas])
          refine (hval _).mono ?_
          rintro e w1 ⟨rfl, rfl⟩
          go_wp2_with fail
          go_ret
          (try rw [← hG])
          exact ⟨rfl, hbr.alloc (by have := hbr.size; omega) _⟩
        | true =>
          have HF2 := Lib.hid (HF1.out kb HKB.out HVB.out (fun y hy e => by have := HBB.out.2 ⟨y, hy, e⟩; cases this))
          go_wp2_with (at_lookup; refine wpList_lookup_own_unit _ rfl _ _ 77 rfl 9 78 keyed Tryd.underlying77 (zeroU _) M _ _ rfl hmap _ _ rfl hkey ?_; rw [hhas])
          refine (hval _).mono ?_
          rintro e w1 ⟨rfl, rfl⟩
          go_wp2_with (at_mapUpdate; refine wpList_mapUpdate_own _ rfl _ _ _ 77 rfl 9 78 keyed Tryd.underlying77 (unitElem (H := Unit)) M _ _ rfl (hmap.alloc _) (by unfold maxLen; omega) _ _ _ rfl rfl hkey _ [] unitElem_mk ?_; intro w3 hm3 hg3)
          go_roundg (nk - (i + 1))
          case measure => omega
          case rel =>
            refine ⟨i + 1, rfl, by go_num, by omega, ?_, ?_, ?_, HF2⟩
            · exact (hAr.alloc _).same (hg3.block G (by have := hAr.lt; simp; omega) (fun e => by have := Option.some.inj e; omega))
            · unfold Seen
              rw [HTS.out, setK_snoc, List.length_append, List.length_take, HNK.out, Nat.min_eq_left hi]
              exact hm3
            · exact (hbr.alloc (by have := hbr.size; omega) _).grown hg3 (by have := hbr.size; simp; omega) (fun q e => by have := Option.some.inj e; omega)
    · have gi : decide ((i : Int) < (nk : Int)) = false := by rw [decide_eq_false_iff_not]; omega
      obtain rfl : r = true := HR.out.2 ⟨by first | rfl | trivial, fun q hq => HF.out q hq (by have := HNK.out; omega)⟩
      go_wp2_with fail
      go_ret
      (try rw [← hG])
      exact ⟨rfl, hbr⟩

def CRightIs (a : J) : Prop := ∀ (dd : Nat) (w : World) (c0 c1 c2 c3 c4 : Value), dd ≤ 1000 → NodeIn w a (.agg #[c0, c1, c2, c3, c4]) →
  Calls Tryd.prog 27 #[.agg #[c0, c1, c2, c3, c4], .int .i64 (dd : Int)] w fun e w' => e = .returned (.bool (rightP dd a)) ∧ Below w.heap.size w w'

set_option maxHeartbeats 8000000 in
set_option maxRecDepth 100000 in
theorem rkids_any (xs : List J) (a : Option Addr) (m dd : Nat) (w : World) (hx : KidsIn w a xs) (hl : xs.length ≤ 65536) (ih : ∀ i (h : i < xs.length), CRightIs xs[i]) (hdd : dd ≤ 1000) (r : Bool) (hr : r = true ↔ dd < 24 ∧ ∀ i (h : i < xs.length), RightIn (dd + 1) xs[i]) :
    Calls Tryd.prog 38 #[.slice a xs.length m, .int .i64 (dd : Int)] w fun e w' => e = .returned (.bool r) ∧ Below w.heap.size w w' := by
  obtain ⟨nk, hnk⟩ : ∃ nk, xs.length = nk := ⟨_, rfl⟩
  rw [hnk]
  rw [hnk] at hl
  have HX := Lib.hid hx
  have HNK := Lib.hid hnk
  have HIH := Lib.hid ih
  have HR := Lib.hid hr
  have hki : (nk : Int) ≤ 65536 := by omega
  have hddi : (dd : Int) ≤ 1000 := by omega
  have hwr : IntKind.i64.wrap ((dd : Int) + 1) = (dd : Int) + 1 := by rw [IntKind.wrap_i64]; omega
  clear hr hx ih hnk
  by_cases h24 : dd < 24
  rotate_left 1
  · have g0 : (24 : Int) ≤ (dd : Int) := by omega
    obtain rfl : r = false := no_of HR.out (fun h => h24 h.1)
    go_enter Tryd.func38, Tryd.ntmps38
    go_wp2_with fail
    go_ret
    exact ⟨rfl, Below.refl _ _⟩
  have g24 : ¬ (24 : Int) ≤ (dd : Int) := by omega
  go_enter Tryd.func38, Tryd.ntmps38
  go_wp2_with fail
  go_loopg [11] nk (fun m v wr => ∃ i : Nat, m = nk - i ∧ v = .int .i64 i ∧ i ≤ nk ∧ Below w.heap.size w wr ∧ Hid (∀ z (h1 : z < xs.length), z < i → RightIn (dd + 1) xs[z]))
  case atStart => exact ⟨0, rfl, rfl, Nat.zero_le _, Below.refl _ _, Lib.hid (fun z _ h => absurd h (Nat.not_lt_zero z))⟩
  case round =>
    obtain ⟨i, rfl, rfl, hi, hb, HK⟩ := hrel
    by_cases hlt : i < nk
    · have h1 : i < xs.length := by rw [HNK.out]; exact hlt
      obtain ⟨g, o, x0, x1, x2, x3, x4, e1, r0, r1, r2, r3, r4, hx⟩ := HX.out.below hb i h1
      subst e1
      have gi : (i : Int) < nk := by omega
      obtain ⟨xk, xn, xt, xa, xl, xc, xb, xm, xd, rfl, rfl, rfl, rfl, rfl⟩ := in_forms hx
      obtain ⟨hn1, hn2, hn3⟩ := bx_new wr (.int .i64 xk) (.int .i64 xn) (.string xt) (.slice xa xl xc) (.slice xb xm xd)
      obtain ⟨W1, hW1⟩ : ∃ W1, wr.alloc (Obj.cells #[.int .i64 xk, .int .i64 xn, .string xt, .slice xa xl xc, .slice xb xm xd] 25) = W1 := ⟨_, rfl⟩
      rw [hW1] at hn1 hn2 hn3
      have HW1 := Lib.hid hW1
      obtain ⟨G, hG⟩ : ∃ G, wr.heap.size = G := ⟨_, rfl⟩
      rw [hG] at hn2 hn3
      have hcall := HIH.out i h1 (dd + 1) W1 _ _ _ _ _ (by omega) (node_below hn1 hx)
      rw [show ((dd + 1 : Nat) : Int) = (dd : Int) + 1 by omega] at hcall
      have p0 := hn2.p0
      have p1 := hn2.p1
      have p2 := hn2.p2
      have p3 := hn2.p3
      have p4 := hn2.p4
      have HB1 := Lib.hid (hb.trans (hn1.mono hb.size))
      have HHG := Lib.hid hG
      clear hx hn1 hn2 hn3 hW1 hb hG
      by_cases hr1 : RightIn (dd + 1) xs[i]
      · rw [rightP_yes hr1] at hcall
        have HK2 : Hid (∀ z (h1 : z < xs.length), z < i + 1 → RightIn (dd + 1) xs[z]) := Lib.hid (fun z z1 hz => by
          rcases Nat.lt_or_ge z i with h | h
          · exact HK.out z z1 h
          · obtain rfl : z = i := by omega
            exact hr1)
        clear hr1 HK
        go_upto_region 6 with fail
        rw [HW1.out, HHG.out]
        clear r0 r1 r2 r3 r4
        go_wp2_with fail
        refine hcall.mono ?_
        rintro e w3 ⟨rfl, hb3⟩
        go_wp2_with fail
        go_roundg (nk - (i + 1))
        case measure => omega
        case rel => exact ⟨i + 1, rfl, by go_num, by omega, HB1.out.trans (hb3.mono HB1.out.size), HK2⟩
      · rw [rightP_no hr1] at hcall
        obtain rfl : r = false := no_of HR.out (fun h => hr1 (h.2 i h1))
        clear hr1 HK
        go_upto_region 6 with fail
        rw [HW1.out, HHG.out]
        clear r0 r1 r2 r3 r4
        go_wp2_with fail
        refine hcall.mono ?_
        rintro e w3 ⟨rfl, hb3⟩
        go_wp2_with fail
        go_ret
        exact ⟨rfl, HB1.out.trans (hb3.mono HB1.out.size)⟩
    · have gi : decide ((i : Int) < (nk : Int)) = false := by rw [decide_eq_false_iff_not]; omega
      obtain rfl : r = true := HR.out.2 ⟨h24, fun z z1 => HK.out z z1 (by have := HNK.out; omega)⟩
      go_wp2_with fail
      go_ret
      exact ⟨rfl, hb⟩

/-! ### Right by its kind -/
theorem rp_iff {dd : Nat} {a : J} : rightP dd a = true ↔ RightIn dd a := ⟨fun h => by unfold rightP at h; exact @of_decide_eq_true _ (Classical.propDecidable _) h, rightP_yes⟩
theorem keys_none {keys : List ByteArray} (h : keys.length = 0) : KeysFine keys := fun q hq => by omega
theorem valid_none : U8.validL (⟨#[]⟩ : ByteArray).data.toList = true := rfl
theorem rp_leaf {dd : Nat} {a : J} (hk : a.kind = 1 ∨ a.kind = 2 ∨ a.kind = 3) : rightP dd a = true ↔ a.num = 0 ∧ a.text = ⟨#[]⟩ ∧ a.keys.length = 0 ∧ a.kids.length = 0 := by
  rw [rp_iff]
  constructor
  · intro h
    obtain ⟨hh, _, _⟩ := right_inv h
    exact ⟨hh.a3 (by omega), hh.a6 (by omega), hh.a9 (by omega), hh.a8 (by omega)⟩
  · rintro ⟨h1, h2, h3, h4⟩
    exact RightIn.mk dd a ⟨by omega, by omega, fun _ => h1, by omega, by omega, fun _ => h2, by rw [h2]; exact valid_none, fun _ => h4, fun _ => h3, fun _ => by omega, fun _ => by omega⟩ (fun i hi => by omega) (keys_none h3)
theorem rp_num {dd : Nat} {a : J} (hk : a.kind = 4) : rightP dd a = true ↔ -9007199254740991 ≤ a.num ∧ a.num ≤ 9007199254740991 ∧ a.text = ⟨#[]⟩ ∧ a.keys.length = 0 ∧ a.kids.length = 0 := by
  rw [rp_iff]
  constructor
  · intro h
    obtain ⟨hh, _, _⟩ := right_inv h
    exact ⟨hh.a5, hh.a4, hh.a6 (by omega), hh.a9 (by omega), hh.a8 (by omega)⟩
  · rintro ⟨h0, h1, h2, h3, h4⟩
    exact RightIn.mk dd a ⟨by omega, by omega, fun h => absurd hk h, h1, h0, fun _ => h2, by rw [h2]; exact valid_none, fun _ => h4, fun _ => h3, fun _ => by omega, fun _ => by omega⟩ (fun i hi => by omega) (keys_none h3)
theorem rp_str {dd : Nat} {a : J} (hk : a.kind = 5) : rightP dd a = true ↔ a.num = 0 ∧ U8.validL a.text.data.toList = true ∧ a.keys.length = 0 ∧ a.kids.length = 0 := by
  rw [rp_iff]
  constructor
  · intro h
    obtain ⟨hh, _, _⟩ := right_inv h
    exact ⟨hh.a3 (by omega), hh.a7, hh.a9 (by omega), hh.a8 (by omega)⟩
  · rintro ⟨h1, h2, h3, h4⟩
    exact RightIn.mk dd a ⟨by omega, by omega, fun _ => h1, by omega, by omega, fun h => absurd hk h, h2, fun _ => h4, fun _ => h3, fun _ => by omega, fun _ => by omega⟩ (fun i hi => by omega) (keys_none h3)
theorem rp_arr {dd : Nat} {a : J} (hk : a.kind = 6) : rightP dd a = true ↔ a.num = 0 ∧ a.text = ⟨#[]⟩ ∧ a.keys.length = 0 ∧ dd < 24 ∧ ∀ i (h : i < a.kids.length), RightIn (dd + 1) a.kids[i] := by
  rw [rp_iff]
  constructor
  · intro h
    obtain ⟨hh, hv, _⟩ := right_inv h
    exact ⟨hh.a3 (by omega), hh.a6 (by omega), hh.a9 (by omega), hh.a11 (by omega), hv⟩
  · rintro ⟨h1, h2, h3, h4, h5⟩
    exact RightIn.mk dd a ⟨by omega, by omega, fun _ => h1, by omega, by omega, fun _ => h2, by rw [h2]; exact valid_none, fun _ => by omega, fun _ => h3, fun _ => by omega, fun _ => h4⟩ h5 (keys_none h3)
theorem rp_obj {dd : Nat} {a : J} (hk : a.kind = 7) : rightP dd a = true ↔ a.num = 0 ∧ a.text = ⟨#[]⟩ ∧ (a.keys.length = a.kids.length ∧ KeysFine a.keys) ∧ dd < 24 ∧ ∀ i (h : i < a.kids.length), RightIn (dd + 1) a.kids[i] := by
  rw [rp_iff]
  constructor
  · intro h
    obtain ⟨hh, hv, hkf⟩ := right_inv h
    exact ⟨hh.a3 (by omega), hh.a6 (by omega), ⟨hh.a10 (by omega), hkf⟩, hh.a11 (by omega), hv⟩
  · rintro ⟨h1, h2, h3, h4, h5⟩
    exact RightIn.mk dd a ⟨by omega, by omega, fun _ => h1, by omega, by omega, fun _ => h2, by rw [h2]; exact valid_none, fun _ => by omega, fun h => absurd hk h, fun _ => h3.1, fun _ => h4⟩ h5 h3.2
theorem rp_else {dd : Nat} {a : J} (hk : a.kind < 1 ∨ 7 < a.kind) : rightP dd a = false := rightP_no (fun h => by
  have hh := (right_inv h).1
  have h1 := hh.a1
  have h2 := hh.a2
  omega)

set_option maxHeartbeats 16000000 in
set_option maxRecDepth 100000 in
theorem cright_step (a : J) (ih : ∀ (i : Nat) (h : i < a.kids.length), CRightIs a.kids[i]) (hkl : a.keys.length ≤ 65536) (hvl : a.kids.length ≤ 65536) (hts : a.text.size ≤ 300000) (hkz : ∀ q (h : q < a.keys.length), a.keys[q].size ≤ 300000) (dd : Nat) (hdd : dd ≤ 1000) (w : World) (c0 c1 c2 c3 c4 : Value) (hc : NodeIn w a (.agg #[c0, c1, c2, c3, c4])) :
    Calls Tryd.prog 27 #[.agg #[c0, c1, c2, c3, c4], .int .i64 (dd : Int)] w fun e w' => e = .returned (.bool (rightP dd a)) ∧ Below w.heap.size w w' := by
  obtain ⟨a3, m3, a4, m4, rfl, rfl, rfl, rfl, rfl, hkk, hvv⟩ := node_parts hc
  obtain ⟨nk, hnk⟩ : ∃ nk, a.keys.length = nk := ⟨_, rfl⟩
  obtain ⟨nv, hnv⟩ : ∃ nv, a.kids.length = nv := ⟨_, rfl⟩
  obtain ⟨k, hkd⟩ : ∃ kd, a.kind = kd := ⟨_, rfl⟩
  obtain ⟨n, hnm⟩ : ∃ nm, a.num = nm := ⟨_, rfl⟩
  obtain ⟨t, htx⟩ : ∃ tx, a.text = tx := ⟨_, rfl⟩
  rw [hnk, hnv, hkd, hnm, htx]
  obtain ⟨W, hW⟩ : ∃ W, w.alloc (.cells #[.int .i64 k, .int .i64 n, .string t, .slice a3 nk m3, .slice a4 nv m4] 25) = W := ⟨_, rfl⟩
  have hb0 : Below w.heap.size w W := by rw [← hW]; exact (Below.refl _ w).alloc (Nat.le_refl _) _
  have HKI : Hid (KeysIn W a3 a.keys) := Lib.hid (KeysIn.below (w := w) (fun i hi => hkk i hi) hb0)
  have HVI : Hid (KidsIn W a4 a.kids) := Lib.hid (KidsIn.below (w := w) (fun i hi => hvv i hi) hb0)
  have hA : Bx w.heap.size (.int .i64 k) (.int .i64 n) (.string t) (.slice a3 nk m3) (.slice a4 nv m4) W := by rw [← hW]; exact Bx.made w _ _ _ _ _
  have HB := Lib.hid hb0
  obtain ⟨G, hG⟩ : ∃ G, w.heap.size = G := ⟨_, rfl⟩
  rw [hG] at hA
  have hGl := hA.lt
  have HW := Lib.hid hW
  have HA := Lib.hid hA
  have p0 := hA.p0
  have p1 := hA.p1
  have p2 := hA.p2
  have p3 := hA.p3
  have p4 := hA.p4
  have HKZ := Lib.hid hkz
  have HIH := Lib.hid ih
  have HNK := Lib.hid hnk
  have HNV := Lib.hid hnv
  have HKL := Lib.hid hkl
  have HVL := Lib.hid hvl
  rw [htx] at hts
  have hval := fun w' => U8.valid_any t (by omega) w'
  have HTS := Lib.hid hts
  obtain ⟨rp, hrp⟩ : ∃ rp, rightP dd a = rp := ⟨_, rfl⟩
  have HRL : Hid (k = 1 ∨ k = 2 ∨ k = 3 → (rp = true ↔ n = 0 ∧ t = ⟨#[]⟩ ∧ nk = 0 ∧ nv = 0)) := Lib.hid (fun h => by rw [← hrp, ← hnm, ← htx, ← hnk, ← hnv]; exact rp_leaf (by rw [hkd]; exact h))
  have HRN : Hid (k = 4 → (rp = true ↔ -9007199254740991 ≤ n ∧ n ≤ 9007199254740991 ∧ t = ⟨#[]⟩ ∧ nk = 0 ∧ nv = 0)) := Lib.hid (fun h => by rw [← hrp, ← hnm, ← htx, ← hnk, ← hnv]; exact rp_num (by rw [hkd]; exact h))
  have HRS : Hid (k = 5 → (rp = true ↔ n = 0 ∧ U8.validL t.data.toList = true ∧ nk = 0 ∧ nv = 0)) := Lib.hid (fun h => by rw [← hrp, ← hnm, ← htx, ← hnk, ← hnv]; exact rp_str (by rw [hkd]; exact h))
  have HRA : Hid (k = 6 → (rp = true ↔ n = 0 ∧ t = ⟨#[]⟩ ∧ nk = 0 ∧ dd < 24 ∧ ∀ i (h : i < a.kids.length), RightIn (dd + 1) a.kids[i])) := Lib.hid (fun h => by rw [← hrp, ← hnm, ← htx, ← hnk]; exact rp_arr (by rw [hkd]; exact h))
  have HRO : Hid (k = 7 → (rp = true ↔ n = 0 ∧ t = ⟨#[]⟩ ∧ (nk = nv ∧ KeysFine a.keys) ∧ dd < 24 ∧ ∀ i (h : i < a.kids.length), RightIn (dd + 1) a.kids[i])) := Lib.hid (fun h => by rw [← hrp, ← hnm, ← htx, ← hnk, ← hnv]; exact rp_obj (by rw [hkd]; exact h))
  have HRE : Hid (k < 1 ∨ 7 < k → rp = false) := Lib.hid (fun h => by rw [← hrp]; exact rp_else (by rw [hkd]; exact h))
  rw [hrp]
  clear hW hc hkk hvv hb0 ih hkl hvl hnk hnv hkd hnm htx hrp hkz hA hts
  by_cases hx : 1 ≤ k ∧ k ≤ 7
  rotate_left 1
  · obtain rfl : rp = false := HRE.out (by omega)
    have g1 : (k == 1) = false := by rw [beq_eq_false_iff_ne]; omega
    have g2 : (k == 2) = false := by rw [beq_eq_false_iff_ne]; omega
    have g3 : (k == 3) = false := by rw [beq_eq_false_iff_ne]; omega
    have g4 : (k == 4) = false := by rw [beq_eq_false_iff_ne]; omega
    have g5 : (k == 5) = false := by rw [beq_eq_false_iff_ne]; omega
    have g6 : (k == 6) = false := by rw [beq_eq_false_iff_ne]; omega
    have g7 : (k == 7) = false := by rw [beq_eq_false_iff_ne]; omega
    clear hx hval
    go_enter Tryd.func27, Tryd.ntmps27
    go_upto_region 1 with fail
    rw [HW.out]
    (try rw [hG])
    go_wp2_with fail
    go_ret
    (try rw [← hG])
    exact ⟨rfl, HB.out⟩
  have hk7 : k = 1 ∨ k = 2 ∨ k = 3 ∨ k = 4 ∨ k = 5 ∨ k = 6 ∨ k = 7 := by omega
  clear hx
  rcases hk7 with rfl | rfl | rfl | rfl | rfl | rfl | rfl
  · skip
    by_cases hn : n = 0
    rotate_left 1
    · have g0 : (n == 0) = false := by rw [beq_eq_false_iff_ne]; exact hn
      obtain rfl : rp = false := no_of (HRL.out (Or.inl rfl)) (fun h => hn h.1)
      clear hval
      go_enter Tryd.func27, Tryd.ntmps27
      go_upto_region 1 with fail
      rw [HW.out]
      (try rw [hG])
      go_wp2_with fail
      go_ret
      (try rw [← hG])
      exact ⟨rfl, HB.out⟩
    subst hn
    by_cases ht : t = ⟨#[]⟩
    rotate_left 1
    · have g1 := text_no ht
      have g2 := text_some ht
      obtain rfl : rp = false := no_of (HRL.out (Or.inl rfl)) (fun h => ht h.2.1)
      clear hval
      go_enter Tryd.func27, Tryd.ntmps27
      go_upto_region 1 with fail
      rw [HW.out]
      (try rw [hG])
      go_wp2_with fail
      go_ret
      (try rw [← hG])
      exact ⟨rfl, HB.out⟩
    subst ht
    have hlf := leaf_any 1 0 ⟨#[]⟩ a3 nk m3 a4 nv m4 W rp ⟨fun h => ((HRL.out (Or.inl rfl)).1 h).2.2, fun h => (HRL.out (Or.inl rfl)).2 ⟨rfl, rfl, h⟩⟩
    clear hval HKI HVI HKZ HIH
    go_enter Tryd.func27, Tryd.ntmps27
    go_upto_region 1 with fail
    rw [HW.out]
    (try rw [hG])
    go_wp2_with fail
    refine hlf.mono ?_
    rintro e w1 ⟨rfl, hb1⟩
    go_wp2_with fail
    go_ret
    (try rw [← hG])
    exact ⟨rfl, HB.out.trans (hb1.mono HB.out.size)⟩
  · skip
    by_cases hn : n = 0
    rotate_left 1
    · have g0 : (n == 0) = false := by rw [beq_eq_false_iff_ne]; exact hn
      obtain rfl : rp = false := no_of (HRL.out (Or.inr (Or.inl rfl))) (fun h => hn h.1)
      clear hval
      go_enter Tryd.func27, Tryd.ntmps27
      go_upto_region 1 with fail
      rw [HW.out]
      (try rw [hG])
      go_wp2_with fail
      go_ret
      (try rw [← hG])
      exact ⟨rfl, HB.out⟩
    subst hn
    by_cases ht : t = ⟨#[]⟩
    rotate_left 1
    · have g1 := text_no ht
      have g2 := text_some ht
      obtain rfl : rp = false := no_of (HRL.out (Or.inr (Or.inl rfl))) (fun h => ht h.2.1)
      clear hval
      go_enter Tryd.func27, Tryd.ntmps27
      go_upto_region 1 with fail
      rw [HW.out]
      (try rw [hG])
      go_wp2_with fail
      go_ret
      (try rw [← hG])
      exact ⟨rfl, HB.out⟩
    subst ht
    have hlf := leaf_any 2 0 ⟨#[]⟩ a3 nk m3 a4 nv m4 W rp ⟨fun h => ((HRL.out (Or.inr (Or.inl rfl))).1 h).2.2, fun h => (HRL.out (Or.inr (Or.inl rfl))).2 ⟨rfl, rfl, h⟩⟩
    clear hval HKI HVI HKZ HIH
    go_enter Tryd.func27, Tryd.ntmps27
    go_upto_region 1 with fail
    rw [HW.out]
    (try rw [hG])
    go_wp2_with fail
    refine hlf.mono ?_
    rintro e w1 ⟨rfl, hb1⟩
    go_wp2_with fail
    go_ret
    (try rw [← hG])
    exact ⟨rfl, HB.out.trans (hb1.mono HB.out.size)⟩
  · skip
    by_cases hn : n = 0
    rotate_left 1
    · have g0 : (n == 0) = false := by rw [beq_eq_false_iff_ne]; exact hn
      obtain rfl : rp = false := no_of (HRL.out (Or.inr (Or.inr rfl))) (fun h => hn h.1)
      clear hval
      go_enter Tryd.func27, Tryd.ntmps27
      go_upto_region 1 with fail
      rw [HW.out]
      (try rw [hG])
      go_wp2_with fail
      go_ret
      (try rw [← hG])
      exact ⟨rfl, HB.out⟩
    subst hn
    by_cases ht : t = ⟨#[]⟩
    rotate_left 1
    · have g1 := text_no ht
      have g2 := text_some ht
      obtain rfl : rp = false := no_of (HRL.out (Or.inr (Or.inr rfl))) (fun h => ht h.2.1)
      clear hval
      go_enter Tryd.func27, Tryd.ntmps27
      go_upto_region 1 with fail
      rw [HW.out]
      (try rw [hG])
      go_wp2_with fail
      go_ret
      (try rw [← hG])
      exact ⟨rfl, HB.out⟩
    subst ht
    have hlf := leaf_any 3 0 ⟨#[]⟩ a3 nk m3 a4 nv m4 W rp ⟨fun h => ((HRL.out (Or.inr (Or.inr rfl))).1 h).2.2, fun h => (HRL.out (Or.inr (Or.inr rfl))).2 ⟨rfl, rfl, h⟩⟩
    clear hval HKI HVI HKZ HIH
    go_enter Tryd.func27, Tryd.ntmps27
    go_upto_region 1 with fail
    rw [HW.out]
    (try rw [hG])
    go_wp2_with fail
    refine hlf.mono ?_
    rintro e w1 ⟨rfl, hb1⟩
    go_wp2_with fail
    go_ret
    (try rw [← hG])
    exact ⟨rfl, HB.out.trans (hb1.mono HB.out.size)⟩
  · skip
    by_cases hn1 : -9007199254740991 ≤ n
    rotate_left 1
    · have g0 : decide (-9007199254740991 ≤ n) = false := by rw [decide_eq_false_iff_not]; exact hn1
      obtain rfl : rp = false := no_of (HRN.out rfl) (fun h => hn1 h.1)
      clear hval
      go_enter Tryd.func27, Tryd.ntmps27
      go_upto_region 1 with fail
      rw [HW.out]
      (try rw [hG])
      go_wp2_with fail
      go_ret
      (try rw [← hG])
      exact ⟨rfl, HB.out⟩
    by_cases hn2 : n ≤ 9007199254740991
    rotate_left 1
    · have g0 : decide (n ≤ 9007199254740991) = false := by rw [decide_eq_false_iff_not]; exact hn2
      obtain rfl : rp = false := no_of (HRN.out rfl) (fun h => hn2 h.2.1)
      clear hval
      go_enter Tryd.func27, Tryd.ntmps27
      go_upto_region 1 with fail
      rw [HW.out]
      (try rw [hG])
      go_wp2_with fail
      go_ret
      (try rw [← hG])
      exact ⟨rfl, HB.out⟩
    by_cases ht : t = ⟨#[]⟩
    rotate_left 1
    · have g1 := text_no ht
      have g2 := text_some ht
      obtain rfl : rp = false := no_of (HRN.out rfl) (fun h => ht h.2.2.1)
      clear hval
      go_enter Tryd.func27, Tryd.ntmps27
      go_upto_region 1 with fail
      rw [HW.out]
      (try rw [hG])
      go_wp2_with fail
      go_ret
      (try rw [← hG])
      exact ⟨rfl, HB.out⟩
    subst ht
    have hlf := leaf_any 4 n ⟨#[]⟩ a3 nk m3 a4 nv m4 W rp ⟨fun h => ((HRN.out rfl).1 h).2.2.2, fun h => (HRN.out rfl).2 ⟨hn1, hn2, rfl, h⟩⟩
    clear hval HKI HVI HKZ HIH
    go_enter Tryd.func27, Tryd.ntmps27
    go_upto_region 1 with fail
    rw [HW.out]
    (try rw [hG])
    go_wp2_with fail
    refine hlf.mono ?_
    rintro e w1 ⟨rfl, hb1⟩
    go_wp2_with fail
    go_ret
    (try rw [← hG])
    exact ⟨rfl, HB.out.trans (hb1.mono HB.out.size)⟩
  · skip
    by_cases hn : n = 0
    rotate_left 1
    · have g0 : (n == 0) = false := by rw [beq_eq_false_iff_ne]; exact hn
      obtain rfl : rp = false := no_of (HRS.out rfl) (fun h => hn h.1)
      clear hval
      go_enter Tryd.func27, Tryd.ntmps27
      go_upto_region 1 with fail
      rw [HW.out]
      (try rw [hG])
      go_wp2_with fail
      go_ret
      (try rw [← hG])
      exact ⟨rfl, HB.out⟩
    subst hn
    by_cases hv : U8.validL t.data.toList = true
    rotate_left 1
    · rw [show U8.validL t.data.toList = false by simpa using hv] at hval
      obtain rfl : rp = false := no_of (HRS.out rfl) (fun h => hv h.2.1)
      clear hv
      go_enter Tryd.func27, Tryd.ntmps27
      go_upto_region 1 with fail
      rw [HW.out]
      (try rw [hG])
      go_wp2_with fail
      refine (hval W).mono ?_
      rintro e w1 ⟨rfl, rfl⟩
      go_wp2_with fail
      go_ret
      (try rw [← hG])
      exact ⟨rfl, HB.out⟩
    rw [hv] at hval
    have hlf := leaf_any 5 0 t a3 nk m3 a4 nv m4 W rp ⟨fun h => ((HRS.out rfl).1 h).2.2, fun h => (HRS.out rfl).2 ⟨rfl, hv, h⟩⟩
    clear hv HKI HVI HKZ HIH
    go_enter Tryd.func27, Tryd.ntmps27
    go_upto_region 1 with fail
    rw [HW.out]
    (try rw [hG])
    go_wp2_with fail
    refine (hval W).mono ?_
    rintro e w1 ⟨rfl, rfl⟩
    go_wp2_with fail
    refine hlf.mono ?_
    rintro e w1 ⟨rfl, hb1⟩
    go_wp2_with fail
    go_ret
    (try rw [← hG])
    exact ⟨rfl, HB.out.trans (hb1.mono HB.out.size)⟩
  · skip
    by_cases hn : n = 0
    rotate_left 1
    · have g0 : (n == 0) = false := by rw [beq_eq_false_iff_ne]; exact hn
      obtain rfl : rp = false := no_of (HRA.out rfl) (fun h => hn h.1)
      clear hval
      go_enter Tryd.func27, Tryd.ntmps27
      go_upto_region 1 with fail
      rw [HW.out]
      (try rw [hG])
      go_wp2_with fail
      go_ret
      (try rw [← hG])
      exact ⟨rfl, HB.out⟩
    subst hn
    by_cases ht : t = ⟨#[]⟩
    rotate_left 1
    · have g1 := text_no ht
      have g2 := text_some ht
      obtain rfl : rp = false := no_of (HRA.out rfl) (fun h => ht h.2.1)
      clear hval
      go_enter Tryd.func27, Tryd.ntmps27
      go_upto_region 1 with fail
      rw [HW.out]
      (try rw [hG])
      go_wp2_with fail
      go_ret
      (try rw [← hG])
      exact ⟨rfl, HB.out⟩
    subst ht
    by_cases hk0 : nk = 0
    rotate_left 1
    · have g3 := zero_no hk0
      obtain rfl : rp = false := no_of (HRA.out rfl) (fun h => hk0 h.2.2.1)
      clear hval
      go_enter Tryd.func27, Tryd.ntmps27
      go_upto_region 1 with fail
      rw [HW.out]
      (try rw [hG])
      go_wp2_with fail
      go_ret
      (try rw [← hG])
      exact ⟨rfl, HB.out⟩
    subst hk0
    have hkd := rkids_any a.kids a4 m4 dd W HVI.out HVL.out HIH.out hdd rp ⟨fun h => ((HRA.out rfl).1 h).2.2.2, fun h => (HRA.out rfl).2 ⟨rfl, rfl, rfl, h⟩⟩
    rw [HNV.out] at hkd
    clear hval HKI HVI HKZ HIH
    go_enter Tryd.func27, Tryd.ntmps27
    go_upto_region 1 with fail
    rw [HW.out]
    (try rw [hG])
    go_wp2_with fail
    refine hkd.mono ?_
    rintro e w1 ⟨rfl, hb1⟩
    go_wp2_with fail
    go_ret
    (try rw [← hG])
    exact ⟨rfl, HB.out.trans (hb1.mono HB.out.size)⟩
  · skip
    by_cases hn : n = 0
    rotate_left 1
    · have g0 : (n == 0) = false := by rw [beq_eq_false_iff_ne]; exact hn
      obtain rfl : rp = false := no_of (HRO.out rfl) (fun h => hn h.1)
      clear hval
      go_enter Tryd.func27, Tryd.ntmps27
      go_upto_region 1 with fail
      rw [HW.out]
      (try rw [hG])
      go_wp2_with fail
      go_ret
      (try rw [← hG])
      exact ⟨rfl, HB.out⟩
    subst hn
    by_cases ht : t = ⟨#[]⟩
    rotate_left 1
    · have g1 := text_no ht
      have g2 := text_some ht
      obtain rfl : rp = false := no_of (HRO.out rfl) (fun h => ht h.2.1)
      clear hval
      go_enter Tryd.func27, Tryd.ntmps27
      go_upto_region 1 with fail
      rw [HW.out]
      (try rw [hG])
      go_wp2_with fail
      go_ret
      (try rw [← hG])
      exact ⟨rfl, HB.out⟩
    subst ht
    by_cases hkf : nk = nv ∧ KeysFine a.keys
    rotate_left 1
    · have hky := rkeys_any 7 0 ⟨#[]⟩ a3 nk m3 a4 nv m4 a.keys HNK.out W HKI.out (by have := HKL.out; have := HNK.out; omega) HKZ.out (by have := HVL.out; have := HNV.out; omega) false ⟨fun h => absurd h (by decide), fun h => absurd h hkf⟩
      obtain rfl : rp = false := no_of (HRO.out rfl) (fun h => hkf h.2.2.1)
      clear hval HKI HVI HKZ HIH hkf
      go_enter Tryd.func27, Tryd.ntmps27
      go_upto_region 1 with fail
      rw [HW.out]
      (try rw [hG])
      go_wp2_with fail
      refine hky.mono ?_
      rintro e w1 ⟨rfl, hb1⟩
      go_wp2_with fail
      go_ret
      (try rw [← hG])
      exact ⟨rfl, HB.out.trans (hb1.mono HB.out.size)⟩
    have hky := rkeys_any 7 0 ⟨#[]⟩ a3 nk m3 a4 nv m4 a.keys HNK.out W HKI.out (by have := HKL.out; have := HNK.out; omega) HKZ.out (by have := HVL.out; have := HNV.out; omega) true ⟨fun _ => hkf, fun _ => rfl⟩
    have HKD : Hid (∀ w1, Below W.heap.size W w1 → Calls Tryd.prog 38 #[.slice a4 nv m4, .int .i64 (dd : Int)] w1 fun e w' => e = .returned (.bool rp) ∧ Below w1.heap.size w1 w') := Lib.hid (fun w1 hb => by
      have h9 := rkids_any a.kids a4 m4 dd w1 (HVI.out.below hb) HVL.out HIH.out hdd rp ⟨fun h => ((HRO.out rfl).1 h).2.2.2, fun h => (HRO.out rfl).2 ⟨rfl, rfl, hkf, h⟩⟩
      rw [HNV.out] at h9
      exact h9)
    clear hval HKI HVI HKZ HIH hkf
    go_enter Tryd.func27, Tryd.ntmps27
    go_upto_region 1 with fail
    rw [HW.out]
    (try rw [hG])
    go_wp2_with fail
    refine hky.mono ?_
    rintro e w1 ⟨rfl, hb1⟩
    have hA1 := HA.out.same (hb1.block G hGl)
    have q4 := hA1.p4
    go_wp2_with fail
    refine (HKD.out w1 hb1).mono ?_
    rintro e w2 ⟨rfl, hb2⟩
    go_wp2_with fail
    go_ret
    (try rw [← hG])
    exact ⟨rfl, HB.out.trans ((hb1.trans (hb2.mono hb1.size)).mono HB.out.size)⟩
theorem cright_in (a : J) (h : Tame a) : CRightIs a := by
  induction h with
  | mk k n t keys kids hk hv ht hks _ ih => exact fun dd w c0 c1 c2 c3 c4 hdd hc => cright_step (.mk k n t keys kids) (fun i hi => ih i hi) hk hv ht (fun q hq => hks q hq) dd hdd w c0 c1 c2 c3 c4 hc

set_option maxHeartbeats 2000000 in
set_option maxRecDepth 100000 in
theorem cRight_any {a : J} (ht : Tame a) {w : World} {c0 c1 c2 c3 c4 : Value} (hc : NodeIn w a (.agg #[c0, c1, c2, c3, c4])) :
    Calls Tryd.prog 19 #[.agg #[c0, c1, c2, c3, c4]] w fun e w' => e = .returned (.bool (rightP 0 a)) ∧ Below w.heap.size w w' := by
  obtain ⟨k, n, t, a3, nk, m3, a4, nv, m4, rfl, rfl, rfl, rfl, rfl⟩ := in_forms hc
  obtain ⟨W, hW⟩ : ∃ W, w.alloc (.cells #[.int .i64 k, .int .i64 n, .string t, .slice a3 nk m3, .slice a4 nv m4] 25) = W := ⟨_, rfl⟩
  have hb0 : Below w.heap.size w W := by rw [← hW]; exact (Below.refl _ w).alloc (Nat.le_refl _) _
  have hA : Bx w.heap.size (.int .i64 k) (.int .i64 n) (.string t) (.slice a3 nk m3) (.slice a4 nv m4) W := by rw [← hW]; exact Bx.made w _ _ _ _ _
  have hcall := cright_in a ht 0 W _ _ _ _ _ (by decide) (node_below hb0 hc)
  obtain ⟨rp, hrp⟩ : ∃ rp, rightP 0 a = rp := ⟨_, rfl⟩
  rw [hrp] at hcall ⊢
  have HB := Lib.hid hb0
  obtain ⟨G, hG⟩ : ∃ G, w.heap.size = G := ⟨_, rfl⟩
  rw [hG] at hA
  have HW := Lib.hid hW
  have p0 := hA.p0
  have p1 := hA.p1
  have p2 := hA.p2
  have p3 := hA.p3
  have p4 := hA.p4
  clear hA hb0 hW hc hrp
  go_enter Tryd.func19, Tryd.ntmps19
  go_upto_region 1 with fail
  rw [HW.out]
  (try rw [hG])
  go_wp2_with fail
  refine hcall.mono ?_
  rintro e w1 ⟨rfl, hb1⟩
  go_wp2_with fail
  go_ret
  (try rw [← hG])
  exact ⟨rfl, HB.out.trans (hb1.mono HB.out.size)⟩
end Go.Proofs.YtoofcclcimkipaaDoor.J8
