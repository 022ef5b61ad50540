/-
  The document's answer for package canon, as the statements have it: Same of any two values: whether they are one. Condition: no value in the first has more than 65536 keys or kids, no text more than 300000 bytes.
-/
import Derived.Test.YtoofcclcimkipaaDoorNds
import Derived.Test.YtoofcclcimkipaaDoorJ7Bx
import Derived.Deep.RegionWith
import Derived.Deep.CutRange
namespace Go.Proofs.YtoofcclcimkipaaDoor.J8
open Go Go.RowKit Go.Joins Kit J7 Nds

theorem bdn {B : Nat} {a w : World} (h : Below B a w) (n : Nat) : Below B a (w.drewN n) := h.trans ⟨rfl, rfl, rfl, Nat.le_refl _, fun _ _ => rfl⟩

/-- No list in it is too long, no text. -/
inductive Tame : J → Prop where
  | mk (k n : Int) (t : ByteArray) (keys : List ByteArray) (kids : List J) (hk : keys.length ≤ 65536) (hv : kids.length ≤ 65536) (ht : t.size ≤ 300000) (hks : ∀ q (h : q < keys.length), keys[q].size ≤ 300000) (h : ∀ i (hi : i < kids.length), Tame kids[i]) : Tame (.mk k n t keys kids)
/-- Are two values one? -/
noncomputable def sameP (a b : J) : Bool := @decide (a = b) (Classical.propDecidable _)
theorem sameP_no {a b : J} (h : a ≠ b) : sameP a b = false := by unfold sameP; exact @decide_eq_false _ (Classical.propDecidable _) h
theorem sameP_yes {a b : J} (h : a = b) : sameP a b = true := by unfold sameP; exact @decide_eq_true _ (Classical.propDecidable _) h
theorem text_yes {a b : ByteArray} (h : a = b) : (a.toList == b.toList) = true := by rw [h]; simp
theorem text_no {a b : ByteArray} (h : a ≠ b) : (a.toList == b.toList) = false := by
  rw [beq_eq_false_iff_ne, Lib.toList_data, Lib.toList_data]
  exact fun e => h (bytes_ext e)
theorem row_below {w w' : World} {n : Nat} {v : Value} {cs : List Value} (h : RowIn w n v cs) (hb : Below w.heap.size w w') : RowIn w' n v cs := by
  obtain ⟨a, cap, hv, hc⟩ := h
  refine ⟨a, cap, hv, fun j hj => ?_⟩
  obtain ⟨g, o, ha, h1⟩ := hc j hj
  exact ⟨g, o, ha, (hb.cell (p := ⟨g, o + j, none⟩) (World.block_lt_of_cell? w _ h1)).trans h1⟩
theorem node_below {w w' : World} (hb : Below w.heap.size w w') {j : J} {v : Value} (h : NodeIn w j v) : NodeIn w' j v := by
  induction h with
  | mk k n t keys kids kv a cap C hk hc _ ih =>
    refine NodeIn.mk k n t keys kids kv a cap C (row_below hk hb) (fun i hi => ?_) ih
    obtain ⟨g, o, ha, h1⟩ := hc i hi
    exact ⟨g, o, ha, fun m hm => (hb.cell (p := ⟨g, o + (5 * i + m), none⟩) (World.block_lt_of_cell? w _ (h1 m hm))).trans (h1 m hm)⟩
theorem strs_get (keys : List ByteArray) (i : Nat) (h : i < (J7.strs keys).length) : (J7.strs keys)[i] = .string (keys[i]'(by unfold J7.strs at h; rw [List.length_map] at h; exact h)) := by
  simp only [J7.strs, List.getElem_map]
/-- Its five cells; a key, a kid by its number. -/
theorem node_parts {w : World} {j : J} {c0 c1 c2 c3 c4 : Value} (h : NodeIn w j (.agg #[c0, c1, c2, c3, c4])) : ∃ a3 m3 a4 m4, c0 = .int .i64 j.kind ∧ c1 = .int .i64 j.num ∧ c2 = .string j.text ∧ c3 = .slice a3 j.keys.length m3 ∧ c4 = .slice a4 j.kids.length m4 ∧
    (∀ i (hi : i < j.keys.length), ∃ g o, a3 = some ⟨g, o, none⟩ ∧ w.cell? ⟨g, o + i, none⟩ = some (.string j.keys[i])) ∧
    (∀ i (hi : i < j.kids.length), ∃ g o d0 d1 d2 d3 d4, a4 = some ⟨g, o, none⟩ ∧ w.cell? ⟨g, o + i * 5, none⟩ = some d0 ∧ w.cell? ⟨g, o + i * 5 + 1, none⟩ = some d1 ∧ w.cell? ⟨g, o + i * 5 + 2, none⟩ = some d2 ∧ w.cell? ⟨g, o + i * 5 + 3, none⟩ = some d3 ∧ w.cell? ⟨g, o + i * 5 + 4, none⟩ = some d4 ∧ NodeIn w j.kids[i] (.agg #[d0, d1, d2, d3, d4])) := by
  generalize hv : Value.agg #[c0, c1, c2, c3, c4] = v at h
  cases h with
  | mk k n t keys kids kv a cap C hk hc hvv =>
    injection hv with hv
    injection hv with hv
    injection hv with e0 hv
    injection hv with e1 hv
    injection hv with e2 hv
    injection hv with e3 hv
    injection hv with e4 hv
    obtain ⟨a3, m3, rfl, hkc⟩ := hk
    refine ⟨a3, m3, a, cap, e0, e1, e2, e3, e4, fun i hi => ?_, fun i hi => ?_⟩
    · have hi' : i < (J7.strs keys).length := by unfold J7.strs; rw [List.length_map]; exact hi
      obtain ⟨g, o, ha, h1⟩ := hkc i hi'
      refine ⟨g, o, ha, ?_⟩
      rw [h1, strs_get]
      rfl
    · obtain ⟨g, o, ha, h1⟩ := hc i hi
      have ad : ∀ m, m < 5 → w.cell? ⟨g, o + i * 5 + m, none⟩ = some (C i m) := fun m hm => by rw [show o + i * 5 + m = o + (5 * i + m) by omega]; exact h1 m hm
      exact ⟨g, o, _, _, _, _, _, ha, ad 0 (by omega), ad 1 (by omega), ad 2 (by omega), ad 3 (by omega), ad 4 (by omega), hvv i hi⟩
theorem keys_at {w : World} {j : J} {c0 c1 c2 c4 : Value} {a3 : Option Addr} {n3 m3 : Nat} (h : NodeIn w j (.agg #[c0, c1, c2, .slice a3 n3 m3, c4])) (i : Nat) (hi : i < j.keys.length) : ∃ g o, a3 = some ⟨g, o, none⟩ ∧ w.cell? ⟨g, o + i, none⟩ = some (.string j.keys[i]) := by
  obtain ⟨b3, _, _, _, _, _, _, e3, _, hk, _⟩ := node_parts h
  injection e3 with e _ _
  rw [e]
  exact hk i hi
theorem kids_at8 {w : World} {j : J} {c0 c1 c2 c3 : Value} {a4 : Option Addr} {n4 m4 : Nat} (h : NodeIn w j (.agg #[c0, c1, c2, c3, .slice a4 n4 m4])) (i : Nat) (hi : i < j.kids.length) : ∃ g o d0 d1 d2 d3 d4, a4 = some ⟨g, o, none⟩ ∧ w.cell? ⟨g, o + i * 5, none⟩ = some d0 ∧ w.cell? ⟨g, o + i * 5 + 1, none⟩ = some d1 ∧ w.cell? ⟨g, o + i * 5 + 2, none⟩ = some d2 ∧ w.cell? ⟨g, o + i * 5 + 3, none⟩ = some d3 ∧ w.cell? ⟨g, o + i * 5 + 4, none⟩ = some d4 ∧ NodeIn w j.kids[i] (.agg #[d0, d1, d2, d3, d4]) := by
  obtain ⟨_, _, b4, _, _, _, _, _, e4, _, hk⟩ := node_parts h
  injection e4 with e _ _
  rw [e]
  exact hk i hi
theorem j_ext {a b : J} (h0 : a.kind = b.kind) (h1 : a.num = b.num) (h2 : a.text = b.text) (h3 : a.keys = b.keys) (h4 : a.kids = b.kids) : a = b := by
  obtain ⟨k, n, t, keys, kids⟩ := a
  obtain ⟨k', n', t', keys', kids'⟩ := b
  simp only [J.kind, J.num, J.text, J.keys, J.kids] at h0 h1 h2 h3 h4
  rw [h0, h1, h2, h3, h4]
theorem list_ext {α : Type} {a b : List α} (hl : a.length = b.length) (h : ∀ i (h1 : i < a.length) (h2 : i < b.length), a[i] = b[i]) : a = b := List.ext_getElem hl h

def SameIn (a b : J) : Prop := ∀ (w : World) (c0 c1 c2 c3 c4 d0 d1 d2 d3 d4 : Value), NodeIn w a (.agg #[c0, c1, c2, c3, c4]) → NodeIn w b (.agg #[d0, d1, d2, d3, d4]) →
  Calls Tryd.prog 12 #[.agg #[c0, c1, c2, c3, c4], .agg #[d0, d1, d2, d3, d4]] w fun e w' => e = .returned (.bool (sameP a b)) ∧ Below w.heap.size w w'

set_option maxHeartbeats 8000000 in
set_option maxRecDepth 100000 in
theorem same_step (a b : J) (ih : ∀ (i : Nat) (h : i < a.kids.length) (b' : J), SameIn a.kids[i] b') (hkl : a.keys.length ≤ 1000000) (hvl : a.kids.length ≤ 1000000) : SameIn a b := by
  intro w c0 c1 c2 c3 c4 d0 d1 d2 d3 d4 hc hd
  obtain ⟨a3, m3, a4, m4, rfl, rfl, rfl, rfl, rfl, _, _⟩ := node_parts hc
  obtain ⟨b3, n3, b4, n4, rfl, rfl, rfl, rfl, rfl, _, _⟩ := node_parts hd
  obtain ⟨nk, hnk⟩ : ∃ nk, a.keys.length = nk := ⟨_, rfl⟩
  obtain ⟨nv, hnv⟩ : ∃ nv, a.kids.length = nv := ⟨_, rfl⟩
  obtain ⟨mk, hmk⟩ : ∃ nk, b.keys.length = nk := ⟨_, rfl⟩
  obtain ⟨mv, hmv⟩ : ∃ nv, b.kids.length = nv := ⟨_, rfl⟩
  obtain ⟨kd, hkd⟩ : ∃ kd, a.kind = kd := ⟨_, rfl⟩
  obtain ⟨nm, hnm⟩ : ∃ nm, a.num = nm := ⟨_, rfl⟩
  obtain ⟨tx, htx⟩ : ∃ tx, a.text = tx := ⟨_, rfl⟩
  obtain ⟨kd', hkd'⟩ : ∃ kd, b.kind = kd := ⟨_, rfl⟩
  obtain ⟨nm', hnm'⟩ : ∃ nm, b.num = nm := ⟨_, rfl⟩
  obtain ⟨tx', htx'⟩ : ∃ tx, b.text = tx := ⟨_, rfl⟩
  rw [hnk, hnv, hkd, hnm, htx] at hc
  rw [hmk, hmv, hkd', hnm', htx'] at hd
  rw [hnk, hnv, hkd, hnm, htx, hmk, hmv, hkd', hnm', htx']
  obtain ⟨W, hW⟩ : ∃ W, ((w.alloc (.cells #[.int .i64 kd, .int .i64 nm, .string tx, .slice a3 nk m3, .slice a4 nv m4] 25)).alloc (.cells #[.int .i64 kd', .int .i64 nm', .string tx', .slice b3 mk n3, .slice b4 mv n4] 25)) = W := ⟨_, rfl⟩
  have hbW : Below w.heap.size w W := by rw [← hW]; exact ((Below.refl _ w).alloc (Nat.le_refl _) _).alloc (by simp) _
  have hcW := node_below hbW hc
  have hdW := node_below hbW hd
  have hA : Bx w.heap.size (.int .i64 kd) (.int .i64 nm) (.string tx) (.slice a3 nk m3) (.slice a4 nv m4) W := by rw [← hW]; exact (Bx.made w _ _ _ _ _).alloc _
  have hB : Bx (w.heap.size + 1) (.int .i64 kd') (.int .i64 nm') (.string tx') (.slice b3 mk n3) (.slice b4 mv n4) W := by
    rw [← hW]
    have h9 := Bx.made (w.alloc (.cells #[.int .i64 kd, .int .i64 nm, .string tx, .slice a3 nk m3, .slice a4 nv m4] 25)) (.int .i64 kd') (.int .i64 nm') (.string tx') (.slice b3 mk n3) (.slice b4 mv n4)
    simpa using h9
  obtain ⟨G, hG⟩ : ∃ G, w.heap.size = G := ⟨_, rfl⟩
  rw [hG] at hA hB
  have hbG : Below G w W := by rw [← hG]; exact hbW
  have hGs : G ≤ W.heap.size := by rw [← hG]; exact hbW.size
  have HW := Lib.hid hW
  have HC := Lib.hid hcW
  have HD := Lib.hid hdW
  have hki : (nk : Int) ≤ 1000000 := by omega
  have hvi : (nv : Int) ≤ 1000000 := by omega
  have HIH := Lib.hid ih
  have HNK := Lib.hid hnk
  have HNV := Lib.hid hnv
  have HMK := Lib.hid hmk
  have HMV := Lib.hid hmv
  have hdiff : Hid ((kd ≠ kd' ∨ nm ≠ nm' ∨ tx ≠ tx' ∨ nk ≠ mk ∨ nv ≠ mv) → sameP a b = false) := Lib.hid (fun h => sameP_no (fun e => by
    subst e
    rcases h with h | h | h | h | h
    · exact h (hkd.symm.trans hkd')
    · exact h (hnm.symm.trans hnm')
    · exact h (htx.symm.trans htx')
    · exact h (hnk.symm.trans hmk)
    · exact h (hnv.symm.trans hmv)))
  have HEXT : Hid (kd = kd' → nm = nm' → tx = tx' → a.keys = b.keys → a.kids = b.kids → a = b) := Lib.hid (fun e0 e1 e2 e3 e4 => j_ext (by rw [hkd, hkd', e0]) (by rw [hnm, hnm', e1]) (by rw [htx, htx', e2]) e3 e4)
  have p0 := hA.p0
  have p1 := hA.p1
  have p2 := hA.p2
  have p3 := hA.p3
  have p4 := hA.p4
  have q0 := hB.p0
  have q1 := hB.p1
  have q2 := hB.p2
  have q3 := hB.p3
  have q4 := hB.p4
  obtain ⟨sp, hsp⟩ : ∃ sp, sameP a b = sp := ⟨_, rfl⟩
  rw [hsp]
  have HSP := Lib.hid hsp
  clear hW hc hd hcW hdW ih hkl hvl hnk hnv hmk hmv hkd hnm htx hkd' hnm' htx' hsp
  by_cases e0 : kd = kd'
  rotate_left 1
  · have g0 : (kd != kd') = true := by rw [bne_iff_ne]; exact e0
    clear HEXT
    have hs : sp = false := by rw [← HSP.out]; exact hdiff.out (Or.inl e0)
    subst hs
    go_enter Tryd.func12, Tryd.ntmps12
    go_upto_region 1 with fail
    rw [HW.out]
    (try rw [hG])
    go_wp2_with fail
    go_ret
    first | exact ⟨rfl, hbW⟩ | exact ⟨rfl, hbG⟩
  subst e0
  by_cases e0 : nm = nm'
  rotate_left 1
  · have g0 : (nm != nm') = true := by rw [bne_iff_ne]; exact e0
    clear HEXT
    have hs : sp = false := by rw [← HSP.out]; exact hdiff.out (Or.inr (Or.inl e0))
    subst hs
    go_enter Tryd.func12, Tryd.ntmps12
    go_upto_region 1 with fail
    rw [HW.out]
    (try rw [hG])
    go_wp2_with fail
    go_ret
    first | exact ⟨rfl, hbW⟩ | exact ⟨rfl, hbG⟩
  subst e0
  by_cases e0 : tx = tx'
  rotate_left 1
  · have g0 := text_no e0
    clear HEXT
    have hs : sp = false := by rw [← HSP.out]; exact hdiff.out (Or.inr (Or.inr (Or.inl e0)))
    subst hs
    go_enter Tryd.func12, Tryd.ntmps12
    go_upto_region 1 with fail
    rw [HW.out]
    (try rw [hG])
    go_wp2_with fail
    go_ret
    first | exact ⟨rfl, hbW⟩ | exact ⟨rfl, hbG⟩
  subst e0
  by_cases e0 : nk = mk
  rotate_left 1
  · have g0 : ((nk : Int) != (mk : Int)) = true := by rw [bne_iff_ne]; omega
    clear HEXT
    have hs : sp = false := by rw [← HSP.out]; exact hdiff.out (Or.inr (Or.inr (Or.inr (Or.inl e0))))
    subst hs
    go_enter Tryd.func12, Tryd.ntmps12
    go_upto_region 1 with fail
    rw [HW.out]
    (try rw [hG])
    go_wp2_with fail
    go_ret
    first | exact ⟨rfl, hbW⟩ | exact ⟨rfl, hbG⟩
  subst e0
  by_cases e0 : nv = mv
  rotate_left 1
  · have g0 : ((nv : Int) != (mv : Int)) = true := by rw [bne_iff_ne]; omega
    clear HEXT
    have hs : sp = false := by rw [← HSP.out]; exact hdiff.out (Or.inr (Or.inr (Or.inr (Or.inr e0))))
    subst hs
    go_enter Tryd.func12, Tryd.ntmps12
    go_upto_region 1 with fail
    rw [HW.out]
    (try rw [hG])
    go_wp2_with fail
    go_ret
    first | exact ⟨rfl, hbW⟩ | exact ⟨rfl, hbG⟩
  subst e0
  clear hdiff p0 p1 p2 p3 p4 q0 q1 q2 q3 q4
  have HNE : Hid (a ≠ b → sp = false) := Lib.hid (fun h => by rw [← HSP.out]; exact sameP_no h)
  have HEQ : Hid (a = b → sp = true) := Lib.hid (fun h => by rw [← HSP.out]; exact sameP_yes h)
  clear HSP
  have p0 := hA.p0
  have p1 := hA.p1
  have p2 := hA.p2
  have p3 := hA.p3
  have p4 := hA.p4
  have q0 := hB.p0
  have q1 := hB.p1
  have q2 := hB.p2
  have q3 := hB.p3
  have q4 := hB.p4
  go_enter Tryd.func12, Tryd.ntmps12
  go_upto_region 1 with fail
  rw [HW.out]
  (try rw [hG])
  go_wp2_with fail
  clear p0 p1 p2 p3 p4 q0 q1 q2 q3 q4
  go_loopg [5] nk (fun m v wr => ∃ i : Nat, m = nk - i ∧ v = .int .i64 i ∧ i ≤ nk ∧ Below W.heap.size W wr ∧ Hid (∀ z (h1 : z < a.keys.length) (h2 : z < b.keys.length), z < i → a.keys[z] = b.keys[z]))
  case atStart => exact ⟨0, rfl, rfl, Nat.zero_le _, Below.refl _ _, Lib.hid (fun z _ _ h => absurd h (Nat.not_lt_zero z))⟩
  case round =>
    obtain ⟨i, rfl, rfl, hi, hb, HK⟩ := hrel
    have hA1 := hA.same (hb.block G hA.lt)
    have hB1 := hB.same (hb.block (G + 1) hB.lt)
    have p3 := hA1.p3
    have q3 := hB1.p3
    by_cases hlt : i < nk
    · have h1 : i < a.keys.length := by rw [HNK.out]; exact hlt
      have h2 : i < b.keys.length := by rw [HMK.out]; exact hlt
      obtain ⟨g, o, e1, t1⟩ := keys_at (node_below hb HC.out) i h1
      obtain ⟨g', o', e2, t2⟩ := keys_at (node_below hb HD.out) i h2
      rw [e1] at p3
      rw [e2] at q3
      obtain ⟨kx, hkx⟩ : ∃ kx, a.keys[i] = kx := ⟨_, rfl⟩
      obtain ⟨ky, hky⟩ : ∃ ky, b.keys[i] = ky := ⟨_, rfl⟩
      rw [hkx] at t1
      rw [hky] at t2
      have gi : (i : Int) < nk := by omega
      by_cases heq : kx = ky
      · subst heq
        have HK2 : Hid (∀ z (h1 : z < a.keys.length) (h2 : z < b.keys.length), z < i + 1 → a.keys[z] = b.keys[z]) := Lib.hid (fun z z1 z2 hz => by
          rcases Nat.lt_or_ge z i with h | h
          · exact HK.out z z1 z2 h
          · obtain rfl : z = i := by omega
            rw [hkx, hky])
        clear hkx hky e1 e2 HK
        go_wp2_with fail
        go_quiet (fail)
        go_wp2_with fail
        go_roundg (nk - (i + 1))
        case measure => omega
        case rel => exact ⟨i + 1, rfl, by go_num, by omega, bdn hb _, HK2⟩
      · have gt := text_no heq
        have hs : sp = false := HNE.out (fun e => heq (by subst e; exact hkx.symm.trans hky))
        subst hs
        clear hkx hky e1 e2 HK HEXT HEQ HNE heq
        go_wp2_with fail
        go_quiet (fail)
        go_wp2_with fail
        go_ret
        first | exact ⟨rfl, hbG.trans ((bdn hb _).mono hGs)⟩ | exact ⟨rfl, hbW.trans ((bdn hb _).mono hbW.size)⟩
    · have gi : decide ((i : Int) < (nk : Int)) = false := by rw [decide_eq_false_iff_not]; omega
      have HKS : Hid (a.keys = b.keys) := Lib.hid (list_ext (by rw [HNK.out, HMK.out]) (fun z z1 z2 => HK.out z z1 z2 (by have := HNK.out; omega)))
      go_wp2_with fail
      go_loopg [6] nv (fun m v wr => ∃ i : Nat, m = nv - i ∧ v = .int .i64 i ∧ i ≤ nv ∧ Below W.heap.size W wr ∧ Hid (∀ z (h1 : z < a.kids.length) (h2 : z < b.kids.length), z < i → a.kids[z] = b.kids[z]))
      case atStart => exact ⟨0, rfl, rfl, Nat.zero_le _, hb, Lib.hid (fun z _ _ h => absurd h (Nat.not_lt_zero z))⟩
      case round =>
        clear hA1 hB1 p3 q3 hb gi hlt hi HK
        obtain ⟨i2, rfl, rfl, hi2, hb2, HV⟩ := hrel
        have hA2 := hA.same (hb2.block G hA.lt)
        have hB2 := hB.same (hb2.block (G + 1) hB.lt)
        have p4 := hA2.p4
        have q4 := hB2.p4
        by_cases hlt : i2 < nv
        · have h1 : i2 < a.kids.length := by rw [HNV.out]; exact hlt
          have h2 : i2 < b.kids.length := by rw [HMV.out]; exact hlt
          have hbd : Below wr.heap.size wr wr.drew := (Below.refl _ wr).drew
          obtain ⟨g, o, x0, x1, x2, x3, x4, e1, r0, r1, r2, r3, r4, hx⟩ := kids_at8 (node_below hbd (node_below hb2 HC.out)) i2 h1
          obtain ⟨g', o', y0, y1, y2, y3, y4, e2, s0, s1, s2, s3, s4, hy⟩ := kids_at8 (node_below hbd (node_below hb2 HD.out)) i2 h2
          rw [e1] at p4
          rw [e2] at q4
          have hsame := HIH.out i2 h1 b.kids[i2] wr.drew x0 x1 x2 x3 x4 y0 y1 y2 y3 y4 hx hy
          have gi : (i2 : Int) < nv := by omega
          by_cases heq : a.kids[i2] = b.kids[i2]
          · rw [sameP_yes heq] at hsame
            have HV2 : Hid (∀ z (h1 : z < a.kids.length) (h2 : z < b.kids.length), z < i2 + 1 → a.kids[z] = b.kids[z]) := Lib.hid (fun z z1 z2 hz => by
              rcases Nat.lt_or_ge z i2 with h | h
              · exact HV.out z z1 z2 h
              · obtain rfl : z = i2 := by omega
                exact heq)
            clear heq e1 e2 HV hx hy
            go_wp2_with fail
            go_region_with (refine hsame.mono ?_; rintro e7 w7 ⟨rfl, hb7⟩)
            all_goals
              go_wp2_with fail
              go_roundg (nv - (i2 + 1))
              case measure => omega
              case rel => exact ⟨i2 + 1, rfl, by go_num, by omega, hb2.trans ((show Below wr.heap.size wr w7 from hbd.trans (hb7.mono hbd.size)).mono hb2.size), HV2⟩
          · rw [sameP_no heq] at hsame
            have hs : sp = false := HNE.out (fun e => heq (by subst e; rfl))
            subst hs
            clear heq e1 e2 HV hx hy HEXT HEQ HNE
            go_wp2_with fail
            go_region_with (refine hsame.mono ?_; rintro e7 w7 ⟨rfl, hb7⟩)
            all_goals
              go_wp2_with fail
              go_ret
              have hb8 := hb2.trans ((show Below wr.heap.size wr w7 from hbd.trans (hb7.mono hbd.size)).mono hb2.size)
              first | exact ⟨rfl, hbG.trans (hb8.mono hGs)⟩ | exact ⟨rfl, hbW.trans (hb8.mono hbW.size)⟩
        · have gi : decide ((i2 : Int) < (nv : Int)) = false := by rw [decide_eq_false_iff_not]; omega
          have hs : sp = true := HEQ.out (HEXT.out (by trivial) (by trivial) (by trivial) HKS.out (list_ext (by rw [HNV.out, HMV.out]) (fun z z1 z2 => HV.out z z1 z2 (by have := HNV.out; omega))))
          subst hs
          go_wp2_with fail
          go_ret
          first | exact ⟨rfl, hbG.trans (hb2.mono hGs)⟩ | exact ⟨rfl, hbW.trans (hb2.mono hbW.size)⟩
theorem same_in (a b : J) (h : Tame a) : SameIn a b := by
  induction h generalizing b with
  | mk k n t keys kids hk hv _ _ _ ih => exact same_step _ b (fun i hi b' => ih i hi b') (by show keys.length ≤ 1000000; omega) (by show kids.length ≤ 1000000; omega)
end Go.Proofs.YtoofcclcimkipaaDoor.J8
