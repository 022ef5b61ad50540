/-
  The statements' own Great of a value: what is not great has no list and no text that is too long, and a right one's text is short. Conditions: none.
-/
import Derived.Test.YtbjngdlkamdmdaaDoorJ8CPrint
namespace Go.Proofs.YtbjngdlkamdmdaaDoor.J8
open Go Go.RowKit Go.Joins Kit J7 Nds

/-- Not great. -/
structure Light (r : Int) (a : J) : Prop where
  tame : Tame a
  len : ∀ d, RightIn d a → ((putJ a).length : Int) ≤ 4000000 * r
def sumPut (kids : List J) (i : Nat) : Nat := ((kids.take i).map fun j => (putJ j).length).sum
theorem sumPut_next (kids : List J) (i : Nat) (h : i < kids.length) : sumPut kids (i + 1) = sumPut kids i + (putJ kids[i]).length := by
  unfold sumPut
  rw [List.take_succ_eq_append_getElem h, List.map_append, List.sum_append]
  simp
theorem putKs_le (obj : Bool) : ∀ (first : Bool) (keys : List ByteArray) (kids : List J), (∀ k ∈ keys, k.size ≤ 2000) → (putKs obj first keys kids).length ≤ ((kids.map fun j => (putJ j).length).sum) + 12010 * kids.length
  | first, keys, [], _ => by rw [putKs]; simp
  | first, keys, j :: r, h => by
    have h1 := putKs_le obj false keys.tail r (fun k hk => h k (List.mem_of_mem_tail hk))
    have h2 : (quoteL (keys.headD ⟨#[]⟩).data.toList).length ≤ 12002 := by
      have h3 := quote_len (keys.headD ⟨#[]⟩)
      have h4 : (keys.headD ⟨#[]⟩).size ≤ 2000 := by
        cases keys with
        | nil => decide
        | cons k t => exact h k List.mem_cons_self
      omega
    rw [putKs, List.length_append, List.length_append, List.length_append, List.map_cons, List.sum_cons, List.length_cons]
    have h5 : (if first = true then ([] : List UInt8) else [44]).length ≤ 1 := by split <;> simp
    have h6 : (if obj = true then quoteL (keys.headD ⟨#[]⟩).data.toList ++ [58] else ([] : List UInt8)).length ≤ 12003 := by
      split
      · rw [List.length_append, List.length_singleton]; omega
      · simp
    omega
/-- A right value's text, by its kids' texts. -/
theorem put_le {d : Nat} {a : J} (h : RightIn d a) (ht : a.text.size ≤ 2000) (hk : ∀ k ∈ a.keys, k.size ≤ 2000) (hv : a.kids.length ≤ 300) : (putJ a).length ≤ 3900000 + ((a.kids.map fun j => (putJ j).length).sum) := by
  obtain ⟨hh, _, _⟩ := right_inv h
  obtain ⟨k, n, t, keys, kids⟩ := a
  have h1 := hh.a1
  have h2 := hh.a2
  have h4 := hh.a4
  have h5 := hh.a5
  simp only [J.kind, J.num, J.text, J.keys, J.kids] at *
  have hks := fun o => putKs_le o true keys kids hk
  have hq := quote_len t
  have hn := numT_len n h5 h4
  rw [putJ]
  repeat' split
  · show 4 ≤ _; omega
  · show 5 ≤ _; omega
  · show 4 ≤ _; omega
  · omega
  · omega
  all_goals
    have h9 := hks (decide (k = 7))
    simp only [List.length_append, List.length_cons, List.length_nil] at *
    omega
theorem light_of {a : J} {r : Int} (ht : a.text.size ≤ 2000) (hk : a.keys.length ≤ 300) (hv : a.kids.length ≤ 300) (hks : ∀ q (h : q < a.keys.length), a.keys[q].size ≤ 2000) (hts : ∀ z (h : z < a.kids.length), Tame a.kids[z]) 
    (hsum : ∀ d, (∀ z (h : z < a.kids.length), RightIn d a.kids[z]) → (sumPut a.kids a.kids.length : Int) ≤ 4000000 * (r - 1)) : Light r a := by
  refine ⟨?_, fun d hd => ?_⟩
  · obtain ⟨k, n, t, keys, kids⟩ := a
    exact Tame.mk k n t keys kids (Nat.le_trans hk (by decide)) (Nat.le_trans hv (by decide)) (Nat.le_trans ht (by decide)) (fun q hq => Nat.le_trans (hks q hq) (by decide)) hts
  · have h1 := put_le hd ht (fun k hk => by obtain ⟨q, hq, rfl⟩ := List.getElem_of_mem hk; exact hks q hq) hv
    have h2 := hsum (d + 1) (right_inv hd).2.1
    unfold sumPut at h2
    rw [List.take_length] at h2
    omega

set_option maxHeartbeats 16000000 in
set_option maxRecDepth 100000 in
theorem weight_any : ∀ (f dd : Nat), dd + f = 41 → ∀ (a : J) (w : World) (c0 c1 c2 c3 c4 : Value), NodeIn w a (.agg #[c0, c1, c2, c3, c4]) →
    Calls Tryd.prog 21 #[.agg #[c0, c1, c2, c3, c4], .int .i64 (dd : Int)] w fun e w' => ∃ r : Int, e = .returned (.int .i64 r) ∧ Below w.heap.size w w' ∧ 1 ≤ r ∧ r ≤ 3000 * (f + 1 : Nat) ∧ (r ≤ 2000 → Light r a) := by
  intro f
  induction f with
  | zero =>
    intro dd hd a w c0 c1 c2 c3 c4 hN
    obtain ⟨k, n, t, a3, nk, m3, a4, nv, m4, rfl, rfl, rfl, rfl, rfl⟩ := in_forms hN
    have g0 : (40 : Int) < (dd : Int) := by omega
    have hb0 : Below w.heap.size w (w.alloc (.cells #[.int .i64 k, .int .i64 n, .string t, .slice a3 nk m3, .slice a4 nv m4] 25)) := (Below.refl _ w).alloc (Nat.le_refl _) _
    clear hN
    go_enter Tryd.func21, Tryd.ntmps21
    go_wp2_with fail
    go_ret
    exact ⟨3000, rfl, hb0, by decide, by decide, fun h => absurd h (by decide)⟩
  | succ f ih =>
    intro dd hd a w c0 c1 c2 c3 c4 hN
    obtain ⟨a3, m3, a4, m4, rfl, rfl, rfl, rfl, rfl, hkk, hvv⟩ := node_parts hN
    obtain ⟨nk, hnk⟩ : ∃ nk, a.keys.length = nk := ⟨_, rfl⟩
    obtain ⟨nv, hnv⟩ : ∃ nv, a.kids.length = nv := ⟨_, rfl⟩
    obtain ⟨k, hkd⟩ : ∃ kd, a.kind = kd := ⟨_, rfl⟩
    obtain ⟨n, hnm⟩ : ∃ nm, a.num = nm := ⟨_, rfl⟩
    obtain ⟨t, htx⟩ : ∃ tx, a.text = tx := ⟨_, rfl⟩
    rw [hnk, hnv, hkd, hnm, htx]
    obtain ⟨hb0, hA, hsz⟩ := bx_new w (.int .i64 k) (.int .i64 n) (.string t) (.slice a3 nk m3) (.slice a4 nv m4)
    obtain ⟨W, hW⟩ : ∃ W, w.alloc (.cells #[.int .i64 k, .int .i64 n, .string t, .slice a3 nk m3, .slice a4 nv m4] 25) = W := ⟨_, rfl⟩
    rw [hW] at hb0 hA hsz
    have HKI : Hid (KeysIn W a3 a.keys) := Lib.hid (KeysIn.below (w := w) (fun i hi => hkk i hi) hb0)
    have HVI : Hid (KidsIn W a4 a.kids) := Lib.hid (KidsIn.below (w := w) (fun i hi => hvv i hi) hb0)
    have HB := Lib.hid hb0
    obtain ⟨G, hG⟩ : ∃ G, w.heap.size = G := ⟨_, rfl⟩
    rw [hG] at hA hsz
    have hGl := hA.lt
    have HW := Lib.hid hW
    have HA := Lib.hid hA
    have p2 := hA.p2
    have p3 := hA.p3
    have p4 := hA.p4
    have HNK := Lib.hid hnk
    have HNV := Lib.hid hnv
    have HTX := Lib.hid htx
    have HIH := Lib.hid ih
    have g0 : ¬ (40 : Int) < (dd : Int) := by omega
    have hwr : IntKind.i64.wrap ((dd : Int) + 1) = (dd : Int) + 1 := by rw [IntKind.wrap_i64]; omega
    have hbig : Hid (∃ r : Int, (3000 : Int) = r ∧ 1 ≤ r ∧ r ≤ 3000 * (f + 1 + 1 : Nat) ∧ (r ≤ 2000 → Light r a)) := Lib.hid ⟨3000, rfl, by decide, by omega, fun h => absurd h (by decide)⟩
    clear hW hN hkk hvv hb0 ih hnk hnv hkd hnm htx hA
    by_cases h1 : t.size ≤ 2000
    rotate_left 1
    · have g1 : (2000 : Int) < (t.size : Int) := by omega
      go_enter Tryd.func21, Tryd.ntmps21
      go_upto_region 1 with fail
      rw [HW.out]
      (try rw [hG])
      go_wp2_with fail
      go_ret
      (try rw [← hG])
      obtain ⟨r, rfl, h⟩ := hbig.out
      exact ⟨_, rfl, HB.out, h⟩
    have g1 : ¬ (2000 : Int) < (t.size : Int) := by omega
    by_cases h2 : nk ≤ 300
    rotate_left 1
    · have g2 : (300 : Int) < (nk : Int) := by omega
      go_enter Tryd.func21, Tryd.ntmps21
      go_upto_region 1 with fail
      rw [HW.out]
      (try rw [hG])
      go_wp2_with fail
      go_ret
      (try rw [← hG])
      obtain ⟨r, rfl, h⟩ := hbig.out
      exact ⟨_, rfl, HB.out, h⟩
    have g2 : ¬ (300 : Int) < (nk : Int) := by omega
    by_cases h3 : nv ≤ 300
    rotate_left 1
    · have g3 : (300 : Int) < (nv : Int) := by omega
      go_enter Tryd.func21, Tryd.ntmps21
      go_upto_region 1 with fail
      rw [HW.out]
      (try rw [hG])
      go_wp2_with fail
      go_ret
      (try rw [← hG])
      obtain ⟨r, rfl, h⟩ := hbig.out
      exact ⟨_, rfl, HB.out, h⟩
    have g3 : ¬ (300 : Int) < (nv : Int) := by omega
    have HH : Hid (t.size ≤ 2000 ∧ nk ≤ 300 ∧ nv ≤ 300) := Lib.hid ⟨h1, h2, h3⟩
    clear h1 h2 h3
    go_enter Tryd.func21, Tryd.ntmps21
    go_upto_region 1 with fail
    rw [HW.out]
    (try rw [hG])
    go_wp2_with fail
    clear p2 p3 p4
    go_loopg [6] nk (fun m v wr => ∃ i : Nat, m = nk - i ∧ v = .int .i64 i ∧ i ≤ nk ∧ W = wr ∧ Hid (∀ q (h : q < a.keys.length), q < i → a.keys[q].size ≤ 2000))
    case atStart => exact ⟨0, rfl, rfl, Nat.zero_le _, rfl, Lib.hid (fun q _ h => absurd h (Nat.not_lt_zero q))⟩
    case round =>
      obtain ⟨i, rfl, rfl, hi, rfl, HK⟩ := hrel
      have p3 := HA.out.p3
      by_cases hlt : i < nk
      · have h1 : i < a.keys.length := by rw [HNK.out]; exact hlt
        obtain ⟨g, o, e1, t1⟩ := HKI.out i h1
        rw [e1] at p3
        have gi : (i : Int) < nk := by omega
        obtain ⟨kb, hkb⟩ : ∃ kb, a.keys[i] = kb := ⟨_, rfl⟩
        rw [hkb] at t1
        by_cases hz : kb.size ≤ 2000
        · have gz : ¬ (2000 : Int) < (kb.size : Int) := by omega
          have HK2 : Hid (∀ q (h : q < a.keys.length), q < i + 1 → a.keys[q].size ≤ 2000) := Lib.hid (fun q hq hqi => by
            rcases Nat.lt_or_ge q i with h | h
            · exact HK.out q hq h
            · obtain rfl : q = i := by omega
              rw [hkb]; exact hz)
          clear hkb HK hz e1
          go_wp2_with fail
          go_roundg (nk - (i + 1))
          case measure => omega
          case rel => exact ⟨i + 1, rfl, by go_num, by omega, rfl, HK2⟩
        · have gz : (2000 : Int) < (kb.size : Int) := by omega
          clear hkb HK hz e1
          go_wp2_with fail
          go_ret
          obtain ⟨r, rfl, h⟩ := hbig.out
          exact ⟨_, rfl, HB.out, h⟩
      · have gi : decide ((i : Int) < (nk : Int)) = false := by rw [decide_eq_false_iff_not]; omega
        have HKS : Hid (∀ q (h : q < a.keys.length), a.keys[q].size ≤ 2000) := Lib.hid (fun q hq => HK.out q hq (by have := HNK.out; omega))
        go_wp2_with fail
        clear p3 gi hlt hi HK
        go_loopg [5, 7] nv (fun m vw v wr => ∃ (i : Nat) (ws : Int), m = nv - i ∧ v = .int .i64 i ∧ vw = .int .i64 ws ∧ i ≤ nv ∧ Below W.heap.size W wr ∧ 1 ≤ ws ∧ ws ≤ 3000 * (f + 1 + 1 : Nat) ∧ Hid (ws ≤ 2000 → (∀ z (h : z < a.kids.length), z < i → Tame a.kids[z]) ∧ ∀ d, (∀ z (h : z < a.kids.length), z < i → RightIn d a.kids[z]) → (sumPut a.kids i : Int) ≤ 4000000 * (ws - 1)))
        case atStart => exact ⟨0, 1, rfl, rfl, rfl, Nat.zero_le _, Below.refl _ _, by decide, by omega, Lib.hid (fun _ => ⟨fun z _ h => absurd h (Nat.not_lt_zero z), fun d _ => by unfold sumPut; simp⟩)⟩
        case round =>
          obtain ⟨i2, ws, rfl, rfl, rfl, hi2, hb, hw1, hw2, HS⟩ := hrel
          have p4 := (HA.out.same (hb.block G hGl)).p4
          by_cases hlt : i2 < nv
          · have h1 : i2 < a.kids.length := by rw [HNV.out]; exact hlt
            have gi : (i2 : Int) < nv := by omega
            by_cases hw3 : ws < 3000
            · obtain ⟨g, o, x0, x1, x2, x3, x4, e1, r0, r1, r2, r3, r4, hx⟩ := HVI.out.below hb i2 h1
              rw [e1] at p4
              have hcall := HIH.out (dd + 1) (by omega) a.kids[i2] wr _ _ _ _ _ hx
              rw [show ((dd + 1 : Nat) : Int) = (dd : Int) + 1 by omega] at hcall
              clear e1 hx
              go_wp2_with fail
              refine hcall.mono ?_
              rintro e w3 ⟨r, rfl, hb3, hr1, hr2, HL⟩
              have HLL := Lib.hid HL
              have hfb : (f : Int) ≤ 41 := by omega
              have hwr2 : IntKind.i64.wrap (ws + r) = ws + r := by rw [IntKind.wrap_i64]; omega
              clear HL hcall
              go_wp2_with fail
              go_roundg (nv - (i2 + 1))
              case measure => omega
              case rel =>
                refine ⟨i2 + 1, ws + r, rfl, by go_num, by first | rfl | rw [hwr2], by omega, hb.trans (hb3.mono hb.size), by omega, by omega, Lib.hid (fun hle => ?_)⟩
                have hs := HS.out (by omega)
                have hlr := HLL.out (by omega)
                refine ⟨fun z hz hzi => ?_, fun d hd => ?_⟩
                · rcases Nat.lt_or_ge z i2 with h | h
                  · exact hs.1 z hz h
                  · obtain rfl : z = i2 := by omega
                    exact hlr.tame
                · have h7 := hs.2 d (fun z hz hzi => hd z hz (by omega))
                  have h8 := hlr.len d (hd i2 h1 (by omega))
                  rw [sumPut_next _ _ h1]
                  omega
            · have gw : decide (ws < 3000) = false := by rw [decide_eq_false_iff_not]; exact hw3
              go_wp2_with fail
              go_ret
              (try rw [← hG])
              exact ⟨ws, rfl, HB.out.trans (hb.mono HB.out.size), hw1, hw2, fun h => by omega⟩
          · have gi : decide ((i2 : Int) < (nv : Int)) = false := by rw [decide_eq_false_iff_not]; omega
            go_wp2_with fail
            go_ret
            (try rw [← hG])
            refine ⟨ws, rfl, HB.out.trans (hb.mono HB.out.size), hw1, hw2, fun h => ?_⟩
            have hs := HS.out h
            obtain ⟨q1, q2, q3⟩ := HH.out
            have hn := HNV.out
            exact light_of (by rw [HTX.out]; exact q1) (by rw [HNK.out]; exact q2) (by rw [hn]; exact q3) HKS.out (fun z hz => hs.1 z hz (by omega)) (fun d hd => by
              have h9 := hs.2 d (fun z hz _ => hd z hz)
              rw [show i2 = a.kids.length by omega] at h9
              exact h9)
/-- What is not great. -/
def Small (a : J) : Prop := Tame a ∧ (RightIn 0 a → (putJ a).length ≤ 8000000000)

set_option maxHeartbeats 2000000 in
set_option maxRecDepth 100000 in
theorem great_any {a : J} {w : World} {c0 c1 c2 c3 c4 : Value} (hN : NodeIn w a (.agg #[c0, c1, c2, c3, c4])) :
    Calls Tryd.prog 9 #[.agg #[c0, c1, c2, c3, c4]] w fun e w' => ∃ g : Bool, e = .returned (.bool g) ∧ Below w.heap.size w w' ∧ (g = false → Small a) := by
  obtain ⟨k, n, t, a3, nk, m3, a4, nv, m4, rfl, rfl, rfl, rfl, rfl⟩ := in_forms hN
  obtain ⟨hb0, hA, hsz⟩ := bx_new w (.int .i64 k) (.int .i64 n) (.string t) (.slice a3 nk m3) (.slice a4 nv m4)
  obtain ⟨W, hW⟩ : ∃ W, w.alloc (.cells #[.int .i64 k, .int .i64 n, .string t, .slice a3 nk m3, .slice a4 nv m4] 25) = W := ⟨_, rfl⟩
  rw [hW] at hb0 hA hsz
  have hcall := weight_any 41 0 rfl a W _ _ _ _ _ (node_below hb0 hN)
  have HB := Lib.hid hb0
  obtain ⟨G, hG⟩ : ∃ G, w.heap.size = G := ⟨_, rfl⟩
  rw [hG] at hA
  have HW := Lib.hid hW
  have p0 := hA.p0
  have p1 := hA.p1
  have p2 := hA.p2
  have p3 := hA.p3
  have p4 := hA.p4
  clear hA hb0 hW hN
  go_enter Tryd.func9, Tryd.ntmps9
  go_upto_region 1 with fail
  rw [HW.out]
  (try rw [hG])
  go_wp2_with fail
  refine hcall.mono ?_
  rintro e w1 ⟨r, rfl, hb1, h1, h2, h3⟩
  have H3 := Lib.hid h3
  clear h3 hcall
  go_wp2_with fail
  all_goals
    go_ret
    (try rw [← hG])
    refine ⟨_, rfl, HB.out.trans (hb1.mono HB.out.size), fun hg => ?_⟩
    have hle : r ≤ 2000 := by simpa using hg
    have hl := H3.out hle
    exact ⟨hl.tame, fun hr => by have := hl.len 0 hr; omega⟩
end Go.Proofs.YtbjngdlkamdmdaaDoor.J8
