/-
  The document's answer for package canon, as the statements have it: a right value's text is put behind bytes. Conditions: what it holds has at most 10^14 bytes.
-/
import Derived.Test.YtbjngdlkamdmdaaDoorJ7Quote
import Derived.Test.YtbjngdlkamdmdaaDoorJ7Same
import Derived.Test.YtbjngdlkamdmdaaDoorRfDig
import Derived.Deep.CutRange
namespace Go.Proofs.YtbjngdlkamdmdaaDoor.J7
open Go Go.RowKit Go.Joins Kit Dg

/-- Is a value right, within d more? -/
def RightH (sub : Option (J → Prop)) (j : J) : Prop :=
  1 ≤ j.kind ∧ j.kind ≤ 7 ∧ (j.kind ≠ 4 → j.num = 0) ∧ j.num ≤ (maxNum : Int) ∧ -(maxNum : Int) ≤ j.num ∧ (j.kind ≠ 5 → j.text = ⟨#[]⟩) ∧ U8.validL j.text.data.toList = true ∧
    (j.kind < 6 → j.kids = []) ∧ (j.kind ≠ 7 → j.keys = []) ∧ (j.kind = 7 → j.keys.length = j.kids.length) ∧ (6 ≤ j.kind → sub.isSome = true) ∧ (∀ k ∈ j.kids, match sub with
      | none => False
      | some f => f k) ∧ (∀ k ∈ j.keys, U8.validL k.data.toList = true) ∧ (j.keys.map fun k => k.data.toList).Nodup ∧ j.text.size ≤ 300000 ∧ (∀ k ∈ j.keys, k.size ≤ 300000) ∧ j.keys.length ≤ 65536 ∧ j.kids.length ≤ 65536
def RightJ : Nat → J → Prop
  | 0 => RightH none
  | d + 1 => RightH (some (RightJ d))
/-- A number's text. -/
def numT (n : Int) : List UInt8 := (if n < 0 then [45] else []) ++ (digs (max n (-n))).data.toList
mutual
/-- A value's text. -/
def putJ : J → List UInt8
  | .mk k n t keys kids =>
    if k = 1 then nullW else if k = 2 then falseW else if k = 3 then trueW else if k = 4 then numT n else if k = 5 then quoteL t.data.toList
    else (if k = 7 then [123] else [91]) ++ (putKs (decide (k = 7)) true keys kids ++ (if k = 7 then [125] else [93]))
def putKs (obj first : Bool) (keys : List ByteArray) : List J → List UInt8
  | [] => []
  | j :: r => (if first then [] else [44]) ++ ((if obj then quoteL (keys.headD ⟨#[]⟩).data.toList ++ [58] else []) ++ (putJ j ++ putKs obj false keys.tail r))
end
theorem putKs_nil (obj first : Bool) (keys : List ByteArray) : putKs obj first keys [] = [] := by rw [putKs]
theorem putKs_drop (obj : Bool) (keys : List ByteArray) (kids : List J) (i : Nat) (h : i < kids.length) :
    putKs obj (decide (i = 0)) (keys.drop i) (kids.drop i) = (if i = 0 then [] else [44]) ++ ((if obj then quoteL (keys.getD i ⟨#[]⟩).data.toList ++ [58] else []) ++ (putJ kids[i] ++ putKs obj (decide (i + 1 = 0)) (keys.drop (i + 1)) (kids.drop (i + 1)))) := by
  rw [List.drop_eq_getElem_cons h, putKs]
  have e1 : (keys.drop i).tail = keys.drop (i + 1) := by rw [List.tail_drop]
  have e2 : (keys.drop i).headD ⟨#[]⟩ = keys.getD i ⟨#[]⟩ := by
    rw [List.headD_eq_head?_getD, List.head?_drop, List.getD_eq_getElem?_getD]
  rw [e1, e2, show decide (i + 1 = 0) = false by simp]
  by_cases h0 : i = 0
  · simp [h0]
  · simp [h0]
def PutOk (j : J) : Prop := ∀ (B : Nat) (l : List UInt8) (v : Value) (w : World) (c0 c1 c2 c3 c4 : Value), OwnB B v l w → NodeAt (fun g => g < B) w j (.agg #[c0, c1, c2, c3, c4]) → l.length + (putJ j).length ≤ 100000000000000 →
  Calls Tryd.prog 25 #[v, .agg #[c0, c1, c2, c3, c4]] w fun e w' => ∃ v', e = .returned v' ∧ OwnB B v' (l ++ putJ j) w' ∧ Gb w w' v v'

set_option maxHeartbeats 1000000 in
set_option maxRecDepth 100000 in
theorem put_leaf (k n : Int) (t : ByteArray) (hk : k = 1 ∨ k = 2 ∨ k = 3 ∨ k = 4 ∨ k = 5) (hn : n ≤ 9007199254740991) (hn2 : -9007199254740991 ≤ n) (ht : t.size ≤ 300000) : PutOk (.mk k n t [] []) := by
  intro B l v w c0 c1 c2 c3 c4 h hN hlen
  obtain ⟨e0, e1, e2, ⟨a3, m3, e3⟩, ⟨a4, m4, e4⟩⟩ := node_cells hN
  obtain rfl : c0 = .int .i64 k := e0
  obtain rfl : c1 = .int .i64 n := e1
  obtain rfl : c2 = .string t := e2
  obtain rfl : c3 = .slice a3 0 m3 := e3
  obtain rfl : c4 = .slice a4 0 m4 := e4
  have hb0 : Below w.heap.size w (w.alloc (.cells #[.int .i64 k, .int .i64 n, .string t, .slice a3 0 m3, .slice a4 0 m4] 25)) := (Below.refl _ w).alloc (Nat.le_refl _) _
  have h0 := h.below hb0
  obtain ⟨W, hW⟩ : ∃ W, w.alloc (.cells #[.int .i64 k, .int .i64 n, .string t, .slice a3 0 m3, .slice a4 0 m4] 25) = W := ⟨_, rfl⟩
  have hA : Bx w.heap.size (.int .i64 k) (.int .i64 n) (.string t) (.slice a3 0 m3) (.slice a4 0 m4) W := by rw [← hW]; exact Bx.made w _ _ _ _ _
  rw [hW] at h0 hb0
  have HW := Lib.hid hW
  have p0 := hA.p0
  have p1 := hA.p1
  have p2 := hA.p2
  obtain ⟨G, hG⟩ : ∃ G, w.heap.size = G := ⟨_, rfl⟩
  rw [hG] at hA p0 p1 p2
  have hvG : v.ownBlock ≠ some G := fun e => by have := (h.lt e).2; omega
  have hGl := hA.lt
  have HL := Lib.hid hlen
  have hll : l.length ≤ 100000000000000 := by omega
  have HLL := Lib.hid hll
  obtain ⟨a, cap, hform⟩ := h.form
  clear hN hlen hll hform hW
  rcases hk with rfl | rfl | rfl | rfl | rfl
  · go_enter Tryd.func25, Tryd.ntmps25
    go_upto_region 1 with fail
    rw [HW.out]
    (try rw [hG])
    go_wp2_with (at_builtin; refine app_str rfl _ _ rfl B W _ l h0 ⟨#[110, 117, 108, 108]⟩ rfl rfl ?c1 ?_)
    case c1 => have := HLL.out; have e9 : (ByteArray.mk #[110, 117, 108, 108]).size = 4 := rfl; omega
    intro v1 w1 h1 g1
    go_wp2_with fail
    go_ret
    exact ⟨_, rfl, h1, g1.after hb0⟩
  · go_enter Tryd.func25, Tryd.ntmps25
    go_upto_region 1 with fail
    rw [HW.out]
    (try rw [hG])
    go_wp2_with (at_builtin; refine app_str rfl _ _ rfl B W _ l h0 ⟨#[102, 97, 108, 115, 101]⟩ rfl rfl ?c1 ?_)
    case c1 => have := HLL.out; have e9 : (ByteArray.mk #[102, 97, 108, 115, 101]).size = 5 := rfl; omega
    intro v1 w1 h1 g1
    go_wp2_with fail
    go_ret
    exact ⟨_, rfl, h1, g1.after hb0⟩
  · go_enter Tryd.func25, Tryd.ntmps25
    go_upto_region 1 with fail
    rw [HW.out]
    (try rw [hG])
    go_wp2_with (at_builtin; refine app_str rfl _ _ rfl B W _ l h0 ⟨#[116, 114, 117, 101]⟩ rfl rfl ?c1 ?_)
    case c1 => have := HLL.out; have e9 : (ByteArray.mk #[116, 114, 117, 101]).size = 4 := rfl; omega
    intro v1 w1 h1 g1
    go_wp2_with fail
    go_ret
    exact ⟨_, rfl, h1, g1.after hb0⟩
  · have gs : (digs (max n (-n))).size ≤ 19 := digs_short (by omega)
    have GS := Lib.hid gs
    clear gs
    have hdig := fun w1 => Rf.digits_call (max n (-n)) (by omega) (by omega) w1
    have hP : putJ (.mk 4 n t [] []) = (if n < 0 then [45] else []) ++ (digs (max n (-n))).data.toList := by rw [putJ]; rfl
    have HP := Lib.hid hP
    clear hP
    by_cases hneg : n < 0
    · go_enter Tryd.func25, Tryd.ntmps25
      go_upto_region 1 with fail
      rw [HW.out]
      (try rw [hG])
      go_wp2_with (at_builtin; refine app_lit rfl _ _ rfl B W _ l h0 _ [45] 1 1 rfl (by decide) rfl rfl rfl ?c1 ?_)
      case c1 => have := HLL.out; omega
      intro v1 w1 h1 g1
      have hA1 := hA.same (g1.block G hGl hvG)
      have r1 := hA1.p1
      go_wp2_with fail
      refine (hdig w1).mono ?_
      rintro e w2 ⟨rfl, hb2⟩
      go_wp2_with (at_builtin; refine app_str rfl _ _ rfl B w2 _ _ (h1.below hb2) _ rfl rfl ?c2 ?_)
      case c2 => have := HLL.out; have := GS.out; rw [List.length_append, List.length_singleton]; omega
      intro v3 w3 h3 g3
      go_wp2_with fail
      go_ret
      refine ⟨_, rfl, ?_, ((g1.below hb2).trans g3).after hb0⟩
      rw [HP.out, if_pos hneg]
      exact h3
    · have hneg' : decide (n < 0) = false := by rw [decide_eq_false_iff_not]; exact hneg
      go_enter Tryd.func25, Tryd.ntmps25
      go_upto_region 1 with fail
      rw [HW.out]
      (try rw [hG])
      go_wp2_with fail
      refine (hdig W).mono ?_
      rintro e w2 ⟨rfl, hb2⟩
      go_wp2_with (at_builtin; refine app_str rfl _ _ rfl B w2 _ _ (h0.below hb2) _ rfl rfl ?c2 ?_)
      case c2 => have := HLL.out; have := GS.out; omega
      intro v3 w3 h3 g3
      go_wp2_with fail
      go_ret
      refine ⟨_, rfl, ?_, (Gb.after hb2 g3).after hb0⟩
      rw [HP.out, if_neg (by omega), List.nil_append]
      exact h3
  · go_enter Tryd.func25, Tryd.ntmps25
    go_upto_region 1 with fail
    rw [HW.out]
    (try rw [hG])
    go_wp2_with fail
    refine (quote_any B l v t W h0 (by have := HLL.out; omega)).mono ?_
    rintro e w1 ⟨v1, rfl, h1, g1⟩
    go_wp2_with fail
    go_ret
    exact ⟨_, rfl, h1, g1.after hb0⟩

set_option maxHeartbeats 2000000 in
set_option maxRecDepth 100000 in
theorem put_list (k : Int) (obj : Bool) (hk : k = if obj then 7 else 6) (t : ByteArray) (keys : List ByteArray) (kids : List J) (ih : ∀ (i : Nat) (h : i < kids.length), PutOk kids[i]) (hkk : obj = true → keys.length = kids.length) (hkl : kids.length ≤ 65536) (hks : ∀ k ∈ keys, k.size ≤ 300000) : PutOk (.mk k 0 t keys kids) := by
  intro B l v w c0 c1 c2 c3 c4 h hN hlen
  obtain ⟨e0, e1, e2, ⟨a3, m3, e3⟩, ⟨a4, m4, e4⟩⟩ := node_cells hN
  obtain rfl : c0 = .int .i64 k := e0
  obtain rfl : c1 = .int .i64 0 := e1
  obtain rfl : c2 = .string t := e2
  obtain rfl : c3 = .slice a3 keys.length m3 := e3
  obtain rfl : c4 = .slice a4 kids.length m4 := e4
  obtain ⟨nk, hnk⟩ : ∃ nk, keys.length = nk := ⟨_, rfl⟩
  obtain ⟨nv, hnv⟩ : ∃ nv, kids.length = nv := ⟨_, rfl⟩
  rw [hnk, hnv] at hN ⊢
  have hkli : (nv : Int) ≤ 65536 := by omega
  obtain ⟨W, hW⟩ : ∃ W, w.alloc (.cells #[.int .i64 k, .int .i64 0, .string t, .slice a3 nk m3, .slice a4 nv m4] 25) = W := ⟨_, rfl⟩
  have hb0 : Below w.heap.size w W := by rw [← hW]; exact (Below.refl _ w).alloc (Nat.le_refl _) _
  have h0 := h.below hb0
  have hA : Bx w.heap.size (.int .i64 k) (.int .i64 0) (.string t) (.slice a3 nk m3) (.slice a4 nv m4) W := by rw [← hW]; exact Bx.made w _ _ _ _ _
  have hNW := hN.keep (kept_below hb0)
  have HW := Lib.hid hW
  obtain ⟨G, hG⟩ : ∃ G, w.heap.size = G := ⟨_, rfl⟩
  rw [hG] at hA
  have hvG : v.ownBlock ≠ some G := fun e => by have := (h.lt e).2; omega
  have hBG : B ≤ G := by rw [← hG]; exact h.base
  have hGl := hA.lt
  have hP : putJ (.mk k 0 t keys kids) = (if k = 7 then [123] else [91]) ++ (putKs obj true keys kids ++ (if k = 7 then [125] else [93])) := by
    rw [putJ]
    cases obj
    · obtain rfl : k = 6 := hk
      rfl
    · obtain rfl : k = 7 := hk
      rfl
  rw [hP] at hlen ⊢
  have HL := Lib.hid hlen
  clear hP hlen hW hN
  have p0 := hA.p0
  cases obj
  · obtain rfl : k = 6 := hk
    have HLB : Hid ((l ++ [91] ++ putKs false true keys kids).length ≤ 99999999999999) := by
      have h9 := HL.out
      show _ ≤ _
      simp at h9 ⊢
      omega
    clear hkk
    go_enter Tryd.func25, Tryd.ntmps25
    go_upto_region 1 with fail
    rw [HW.out]
    (try rw [hG])
    go_wp2_with (at_builtin; refine app_lit rfl _ _ rfl B W _ l h0 _ [91] 1 1 rfl (by decide) rfl rfl rfl ?c1 ?_)
    case c1 => have := HL.out; simp at this; omega
    intro v1 w1 h1 g1
    have q4 := (hA.same (g1.block G hGl hvG)).p4
    go_wp2_with fail
    go_loopg [0, 7] nv (fun m va vi wr => ∃ i : Nat, m = nv - i ∧ vi = .int .i64 i ∧ i ≤ nv ∧ ∃ L, OwnB B va L wr ∧ Gb W wr v va ∧ Hid (L ++ putKs false (decide (i = 0)) (keys.drop i) (kids.drop i) = l ++ [91] ++ putKs false true keys kids))
    case atStart => exact ⟨0, rfl, rfl, Nat.zero_le _, _, h1, g1, Lib.hid rfl⟩
    case round =>
      clear h1 g1 q4
      obtain ⟨i, rfl, rfl, hi, L, ho, hgb, HE⟩ := hrel
      have q4 := (hA.same (hgb.block G hGl hvG)).p4
      by_cases hlt : i < nv
      · have hlt' : i < kids.length := by rw [hnv]; exact hlt
        have gi : (i : Int) < nv := by omega
        have HE1 := HE.out
        rw [putKs_drop false keys kids i hlt'] at HE1
        have HWL : Hid (L.length + 1 + 6 * 300000 + 100 ≤ 100000002000000) := by
          have h9 := congrArg List.length HE.out
          have h8 := HLB.out
          show _ ≤ _
          rw [← h9, List.length_append] at h8
          omega
        by_cases h00 : i = 0
        · subst h00
          have HE2 : Hid ((L) ++ putJ kids[0] ++ putKs false (decide (0 + 1 = 0)) (keys.drop (0 + 1)) (kids.drop (0 + 1)) = l ++ [91] ++ putKs false true keys kids) := by
            show _ = _
            rw [← HE1]
            simp
          clear HE1
          have hN2 := hNW.keep (P' := fun g => g < B) (w' := wr) (fun g hg hl => ⟨hg, (hgb).block g hl (fun e => by have := (h0.lt e).1; have hg' : g < B := hg; omega)⟩)
          have hA2 := hA.same ((hgb).block G hGl hvG)
          have p2 := hA2.p0
          obtain ⟨g, ov, cap, e1, t1⟩ := kid_cells hN2 (by show kids ≠ []; intro e; rw [e] at hlt'; exact absurd hlt' (by simp))
          rw [show (J.mk 6 0 t keys kids).kids.length = nv from hnv] at e1
          injection e1 with e1 _ e1c
          subst e1 e1c
          obtain ⟨x0, x1, x2, x3, x4, r0, r1, r2, r3, r4, hx⟩ := t1 0 hlt'
          have r0' : wr.cell? ⟨g, ov, none⟩ = some x0 := by rw [← r0] <;> (first | rfl | (congr 2 <;> omega))
          have r1' : wr.cell? ⟨g, ov + 1, none⟩ = some x1 := by rw [← r1] <;> (first | rfl | (congr 2 <;> omega))
          have r2' : wr.cell? ⟨g, ov + 2, none⟩ = some x2 := by rw [← r2] <;> (first | rfl | (congr 2 <;> omega))
          have r3' : wr.cell? ⟨g, ov + 3, none⟩ = some x3 := by rw [← r3] <;> (first | rfl | (congr 2 <;> omega))
          have r4' : wr.cell? ⟨g, ov + 4, none⟩ = some x4 := by rw [← r4] <;> (first | rfl | (congr 2 <;> omega))
          have p4 := (hA2).p4
          have hlb := HLB.out
          clear t1 r0 r1 r2 r3 r4
          go_wp2_with fail
          refine (ih 0 hlt' B _ _ wr x0 x1 x2 x3 x4 ho hx ?hln1).mono ?_
          case hln1 =>
            have h9 := congrArg List.length HE2.out
            simp only [List.length_append, List.length_cons, List.length_nil] at h9 hlb ⊢
            omega
          rintro e w9 ⟨v9, rfl, h9, g9⟩
          go_wp2_with fail
          go_roundg (nv - (0 + 1))
          case measure => omega
          case rel => exact ⟨0 + 1, rfl, by go_num, by omega, _, h9, hgb.trans g9, Lib.hid (by rw [← HE2.out] <;> (try simp only [List.append_assoc, List.cons_append, List.nil_append]))⟩
        · have HE2 : Hid (((L ++ [44])) ++ putJ kids[i] ++ putKs false (decide (i + 1 = 0)) (keys.drop (i + 1)) (kids.drop (i + 1)) = l ++ [91] ++ putKs false true keys kids) := by
            show _ = _
            rw [← HE1]
            simp [h00]
          clear HE1
          have g00 : (0 : Int) < (i : Int) := by omega
          go_wp2_with (at_builtin; refine app_lit rfl _ _ rfl B wr _ L ho _ [44] 1 1 rfl (by decide) rfl rfl rfl ?cc ?_)
          case cc => have := HWL.out; omega
          intro vc wc2 hc gc
          have HWL2 : Hid ((L ++ [44]).length + 6 * 300000 + 100 ≤ 100000002000000) := by have := HWL.out; show _ ≤ _; rw [List.length_append, List.length_singleton]; omega
          have hN2 := hNW.keep (P' := fun g => g < B) (w' := wc2) (fun g hg hl => ⟨hg, ((hgb.trans gc)).block g hl (fun e => by have := (h0.lt e).1; have hg' : g < B := hg; omega)⟩)
          have hA2 := hA.same (((hgb.trans gc)).block G hGl hvG)
          have p2 := hA2.p0
          obtain ⟨g, ov, cap, e1, t1⟩ := kid_cells hN2 (by show kids ≠ []; intro e; rw [e] at hlt'; exact absurd hlt' (by simp))
          rw [show (J.mk 6 0 t keys kids).kids.length = nv from hnv] at e1
          injection e1 with e1 _ e1c
          subst e1 e1c
          obtain ⟨x0, x1, x2, x3, x4, r0, r1, r2, r3, r4, hx⟩ := t1 i hlt'
          have r0' : wc2.cell? ⟨g, ov + i * 5, none⟩ = some x0 := by rw [← r0] <;> (first | rfl | (congr 2 <;> omega))
          have r1' : wc2.cell? ⟨g, ov + i * 5 + 1, none⟩ = some x1 := by rw [← r1] <;> (first | rfl | (congr 2 <;> omega))
          have r2' : wc2.cell? ⟨g, ov + i * 5 + 2, none⟩ = some x2 := by rw [← r2] <;> (first | rfl | (congr 2 <;> omega))
          have r3' : wc2.cell? ⟨g, ov + i * 5 + 3, none⟩ = some x3 := by rw [← r3] <;> (first | rfl | (congr 2 <;> omega))
          have r4' : wc2.cell? ⟨g, ov + i * 5 + 4, none⟩ = some x4 := by rw [← r4] <;> (first | rfl | (congr 2 <;> omega))
          have p4 := (hA2).p4
          have hlb := HLB.out
          clear t1 r0 r1 r2 r3 r4
          go_wp2_with fail
          refine (ih i hlt' B _ vc wc2 x0 x1 x2 x3 x4 hc hx ?hln2).mono ?_
          case hln2 =>
            have h9 := congrArg List.length HE2.out
            simp only [List.length_append, List.length_cons, List.length_nil] at h9 hlb ⊢
            omega
          rintro e w9 ⟨v9, rfl, h9, g9⟩
          go_wp2_with fail
          go_roundg (nv - (i + 1))
          case measure => omega
          case rel => exact ⟨i + 1, rfl, by go_num, by omega, _, h9, (hgb.trans gc).trans g9, Lib.hid (by rw [← HE2.out] <;> (try simp only [List.append_assoc, List.cons_append, List.nil_append]))⟩
      · obtain rfl : i = nv := by omega
        have gi : decide ((i : Int) < (i : Int)) = false := by simp
        have HE2 := HE.out
        rw [List.drop_of_length_le (l := kids) (by omega), putKs_nil, List.append_nil] at HE2
        have HLL : Hid (L.length ≤ 100000000000000) := by show _ ≤ _; rw [HE2]; have := HLB.out; omega
        have HE3 := Lib.hid HE2
        clear HE2
        go_wp2_with (at_builtin; refine app_lit rfl _ _ rfl B wr _ L ho _ [93] 1 1 rfl (by decide) rfl rfl rfl ?ce ?_)
        case ce => have := HLL.out; omega
        intro v2 w2 h2 g2
        go_wp2_with fail
        go_ret
        refine ⟨_, rfl, ?_, (hgb.trans g2).after hb0⟩
        rw [HE3.out] at h2
        have e9 : l ++ [91] ++ putKs false true keys kids ++ [93] = l ++ ([91] ++ (putKs false true keys kids ++ [93])) := by simp only [List.append_assoc]
        rw [e9] at h2
        exact h2
  · obtain rfl : k = 7 := hk
    have hkk' : nv = nk := by rw [← hnk, ← hnv]; exact (hkk rfl).symm
    subst hkk'
    have HLB : Hid ((l ++ [123] ++ putKs true true keys kids).length ≤ 99999999999999) := by
      have h9 := HL.out
      show _ ≤ _
      simp at h9 ⊢
      omega
    clear hkk
    go_enter Tryd.func25, Tryd.ntmps25
    go_upto_region 1 with fail
    rw [HW.out]
    (try rw [hG])
    go_wp2_with (at_builtin; refine app_lit rfl _ _ rfl B W _ l h0 _ [123] 1 1 rfl (by decide) rfl rfl rfl ?c1 ?_)
    case c1 => have := HL.out; simp at this; omega
    intro v1 w1 h1 g1
    have q4 := (hA.same (g1.block G hGl hvG)).p4
    go_wp2_with fail
    go_loopg [0, 7] nv (fun m va vi wr => ∃ i : Nat, m = nv - i ∧ vi = .int .i64 i ∧ i ≤ nv ∧ ∃ L, OwnB B va L wr ∧ Gb W wr v va ∧ Hid (L ++ putKs true (decide (i = 0)) (keys.drop i) (kids.drop i) = l ++ [123] ++ putKs true true keys kids))
    case atStart => exact ⟨0, rfl, rfl, Nat.zero_le _, _, h1, g1, Lib.hid rfl⟩
    case round =>
      clear h1 g1 q4
      obtain ⟨i, rfl, rfl, hi, L, ho, hgb, HE⟩ := hrel
      have q4 := (hA.same (hgb.block G hGl hvG)).p4
      by_cases hlt : i < nv
      · have hlt' : i < kids.length := by rw [hnv]; exact hlt
        have gi : (i : Int) < nv := by omega
        have HE1 := HE.out
        rw [putKs_drop true keys kids i hlt'] at HE1
        rw [show keys.getD i ⟨#[]⟩ = keys[i]'(by rw [hnk, ← hnv]; exact hlt') by rw [List.getD_eq_getElem?_getD, List.getElem?_eq_getElem (by rw [hnk, ← hnv]; exact hlt'), Option.getD_some]] at HE1
        have HWL : Hid (L.length + 1 + 6 * 300000 + 100 ≤ 100000002000000) := by
          have h9 := congrArg List.length HE.out
          have h8 := HLB.out
          show _ ≤ _
          rw [← h9, List.length_append] at h8
          omega
        by_cases h00 : i = 0
        · subst h00
          have HE2 : Hid (((L ++ quoteL (keys[0]'(by rw [hnk, ← hnv]; exact hlt')).data.toList ++ ([58] : List UInt8))) ++ putJ kids[0] ++ putKs true (decide (0 + 1 = 0)) (keys.drop (0 + 1)) (kids.drop (0 + 1)) = l ++ [123] ++ putKs true true keys kids) := by
            show _ = _
            rw [← HE1]
            simp
          clear HE1
          have hN2 := hNW.keep (P' := fun g => g < B) (w' := wr) (fun g hg hl => ⟨hg, (hgb).block g hl (fun e => by have := (h0.lt e).1; have hg' : g < B := hg; omega)⟩)
          have hA2 := hA.same ((hgb).block G hGl hvG)
          have p2 := hA2.p0
          obtain ⟨kg, ko, kcap, ke, kt⟩ := key_cells hN2 0 (by show 0 < keys.length; rw [hnk, ← hnv]; exact hlt')
          rw [show (J.mk 7 0 t keys kids).keys.length = nv from hnk] at ke
          injection ke with ke1 _ ke2
          subst ke1 ke2
          have kt' : wr.cell? ⟨kg, ko, none⟩ = some (.string (keys[0]'(by rw [hnk, ← hnv]; exact hlt'))) := kt
          obtain ⟨kb, hkb⟩ : ∃ kb, keys[0]'(by rw [hnk, ← hnv]; exact hlt') = kb := ⟨_, rfl⟩
          rw [hkb] at kt' HE2
          have hkbs : kb.size ≤ 300000 := by rw [← hkb]; exact hks _ (List.getElem_mem _)
          have p3 := hA2.p3
          have gik : (0 : Int) < nv := by omega
          clear kt hkb
          go_wp2_with fail
          refine (quote_any B L _ kb wr ho (by have := HWL.out; omega)).mono ?_
          rintro e wq ⟨vq, rfl, hq, gq⟩
          go_wp2_with (at_builtin; refine app_lit rfl _ _ rfl B wq _ (L ++ quoteL kb.data.toList) hq _ [58] 1 1 rfl (by decide) rfl rfl rfl ?cq1 ?_)
          case cq1 => have h7 := HWL.out; have hq9 := qL_len kb.data.toList; unfold quoteL; simp only [List.length_append, List.length_cons, List.length_nil] at h7 ⊢; rw [← Lib.size_eq] at hq9; omega
          intro vr wr2 hr2 gr2
          have hN3 := hN2.keep (P' := fun g => g < B) (w' := wr2) (fun g hg hl => ⟨hg, (gq.trans gr2).block g hl (fun e => by have := (ho).lt e; have hg' : g < B := hg; omega)⟩)
          have hA3 := hA2.same ((gq.trans gr2).block G hA2.lt (fun e => by rcases (hgb).own G e with e' | e'; exact hvG e'; omega))
          obtain ⟨g, ov, cap, e1, t1⟩ := kid_cells hN3 (by show kids ≠ []; intro e; rw [e] at hlt'; exact absurd hlt' (by simp))
          rw [show (J.mk 7 0 t keys kids).kids.length = nv from hnv] at e1
          injection e1 with e1 _ e1c
          subst e1 e1c
          obtain ⟨x0, x1, x2, x3, x4, r0, r1, r2, r3, r4, hx⟩ := t1 0 hlt'
          have r0' : wr2.cell? ⟨g, ov, none⟩ = some x0 := by rw [← r0] <;> (first | rfl | (congr 2 <;> omega))
          have r1' : wr2.cell? ⟨g, ov + 1, none⟩ = some x1 := by rw [← r1] <;> (first | rfl | (congr 2 <;> omega))
          have r2' : wr2.cell? ⟨g, ov + 2, none⟩ = some x2 := by rw [← r2] <;> (first | rfl | (congr 2 <;> omega))
          have r3' : wr2.cell? ⟨g, ov + 3, none⟩ = some x3 := by rw [← r3] <;> (first | rfl | (congr 2 <;> omega))
          have r4' : wr2.cell? ⟨g, ov + 4, none⟩ = some x4 := by rw [← r4] <;> (first | rfl | (congr 2 <;> omega))
          have p4 := (hA3).p4
          have hlb := HLB.out
          clear t1 r0 r1 r2 r3 r4
          go_wp2_with fail
          refine (ih 0 hlt' B _ vr wr2 x0 x1 x2 x3 x4 hr2 hx ?hln1).mono ?_
          case hln1 =>
            have h9 := congrArg List.length HE2.out
            simp only [List.length_append, List.length_cons, List.length_nil] at h9 hlb ⊢
            omega
          rintro e w9 ⟨v9, rfl, h9, g9⟩
          go_wp2_with fail
          go_roundg (nv - (0 + 1))
          case measure => omega
          case rel => exact ⟨0 + 1, rfl, by go_num, by omega, _, h9, ((hgb).trans (gq.trans gr2)).trans g9, Lib.hid (by rw [← HE2.out] <;> (try simp only [List.append_assoc, List.cons_append, List.nil_append]))⟩
        · have HE2 : Hid ((((L ++ [44]) ++ quoteL (keys[i]'(by rw [hnk, ← hnv]; exact hlt')).data.toList ++ ([58] : List UInt8))) ++ putJ kids[i] ++ putKs true (decide (i + 1 = 0)) (keys.drop (i + 1)) (kids.drop (i + 1)) = l ++ [123] ++ putKs true true keys kids) := by
            show _ = _
            rw [← HE1]
            simp [h00]
          clear HE1
          have g00 : (0 : Int) < (i : Int) := by omega
          go_wp2_with (at_builtin; refine app_lit rfl _ _ rfl B wr _ L ho _ [44] 1 1 rfl (by decide) rfl rfl rfl ?cc ?_)
          case cc => have := HWL.out; omega
          intro vc wc2 hc gc
          have HWL2 : Hid ((L ++ [44]).length + 6 * 300000 + 100 ≤ 100000002000000) := by have := HWL.out; show _ ≤ _; rw [List.length_append, List.length_singleton]; omega
          have hN2 := hNW.keep (P' := fun g => g < B) (w' := wc2) (fun g hg hl => ⟨hg, ((hgb.trans gc)).block g hl (fun e => by have := (h0.lt e).1; have hg' : g < B := hg; omega)⟩)
          have hA2 := hA.same (((hgb.trans gc)).block G hGl hvG)
          have p2 := hA2.p0
          obtain ⟨kg, ko, kcap, ke, kt⟩ := key_cells hN2 i (by show i < keys.length; rw [hnk, ← hnv]; exact hlt')
          rw [show (J.mk 7 0 t keys kids).keys.length = nv from hnk] at ke
          injection ke with ke1 _ ke2
          subst ke1 ke2
          have kt' : wc2.cell? ⟨kg, ko + i, none⟩ = some (.string (keys[i]'(by rw [hnk, ← hnv]; exact hlt'))) := kt
          obtain ⟨kb, hkb⟩ : ∃ kb, keys[i]'(by rw [hnk, ← hnv]; exact hlt') = kb := ⟨_, rfl⟩
          rw [hkb] at kt' HE2
          have hkbs : kb.size ≤ 300000 := by rw [← hkb]; exact hks _ (List.getElem_mem _)
          have p3 := hA2.p3
          have gik : (i : Int) < nv := by omega
          clear kt hkb
          go_wp2_with fail
          refine (quote_any B (L ++ [44]) vc kb wc2 hc (by have := HWL2.out; omega)).mono ?_
          rintro e wq ⟨vq, rfl, hq, gq⟩
          go_wp2_with (at_builtin; refine app_lit rfl _ _ rfl B wq _ ((L ++ [44]) ++ quoteL kb.data.toList) hq _ [58] 1 1 rfl (by decide) rfl rfl rfl ?cq2 ?_)
          case cq2 => have h7 := HWL2.out; have hq9 := qL_len kb.data.toList; unfold quoteL; simp only [List.length_append, List.length_cons, List.length_nil] at h7 ⊢; rw [← Lib.size_eq] at hq9; omega
          intro vr wr2 hr2 gr2
          have hN3 := hN2.keep (P' := fun g => g < B) (w' := wr2) (fun g hg hl => ⟨hg, (gq.trans gr2).block g hl (fun e => by have := (hc).lt e; have hg' : g < B := hg; omega)⟩)
          have hA3 := hA2.same ((gq.trans gr2).block G hA2.lt (fun e => by rcases ((hgb.trans gc)).own G e with e' | e'; exact hvG e'; omega))
          obtain ⟨g, ov, cap, e1, t1⟩ := kid_cells hN3 (by show kids ≠ []; intro e; rw [e] at hlt'; exact absurd hlt' (by simp))
          rw [show (J.mk 7 0 t keys kids).kids.length = nv from hnv] at e1
          injection e1 with e1 _ e1c
          subst e1 e1c
          obtain ⟨x0, x1, x2, x3, x4, r0, r1, r2, r3, r4, hx⟩ := t1 i hlt'
          have r0' : wr2.cell? ⟨g, ov + i * 5, none⟩ = some x0 := by rw [← r0] <;> (first | rfl | (congr 2 <;> omega))
          have r1' : wr2.cell? ⟨g, ov + i * 5 + 1, none⟩ = some x1 := by rw [← r1] <;> (first | rfl | (congr 2 <;> omega))
          have r2' : wr2.cell? ⟨g, ov + i * 5 + 2, none⟩ = some x2 := by rw [← r2] <;> (first | rfl | (congr 2 <;> omega))
          have r3' : wr2.cell? ⟨g, ov + i * 5 + 3, none⟩ = some x3 := by rw [← r3] <;> (first | rfl | (congr 2 <;> omega))
          have r4' : wr2.cell? ⟨g, ov + i * 5 + 4, none⟩ = some x4 := by rw [← r4] <;> (first | rfl | (congr 2 <;> omega))
          have p4 := (hA3).p4
          have hlb := HLB.out
          clear t1 r0 r1 r2 r3 r4
          go_wp2_with fail
          refine (ih i hlt' B _ vr wr2 x0 x1 x2 x3 x4 hr2 hx ?hln2).mono ?_
          case hln2 =>
            have h9 := congrArg List.length HE2.out
            simp only [List.length_append, List.length_cons, List.length_nil] at h9 hlb ⊢
            omega
          rintro e w9 ⟨v9, rfl, h9, g9⟩
          go_wp2_with fail
          go_roundg (nv - (i + 1))
          case measure => omega
          case rel => exact ⟨i + 1, rfl, by go_num, by omega, _, h9, (((hgb.trans gc)).trans (gq.trans gr2)).trans g9, Lib.hid (by rw [← HE2.out] <;> (try simp only [List.append_assoc, List.cons_append, List.nil_append]))⟩
      · obtain rfl : i = nv := by omega
        have gi : decide ((i : Int) < (i : Int)) = false := by simp
        have HE2 := HE.out
        rw [List.drop_of_length_le (l := kids) (by omega), putKs_nil, List.append_nil] at HE2
        have HLL : Hid (L.length ≤ 100000000000000) := by show _ ≤ _; rw [HE2]; have := HLB.out; omega
        have HE3 := Lib.hid HE2
        clear HE2
        go_wp2_with (at_builtin; refine app_lit rfl _ _ rfl B wr _ L ho _ [125] 1 1 rfl (by decide) rfl rfl rfl ?ce ?_)
        case ce => have := HLL.out; omega
        intro v2 w2 h2 g2
        go_wp2_with fail
        go_ret
        refine ⟨_, rfl, ?_, (hgb.trans g2).after hb0⟩
        rw [HE3.out] at h2
        have e9 : l ++ [123] ++ putKs true true keys kids ++ [125] = l ++ ([123] ++ (putKs true true keys kids ++ [125])) := by simp only [List.append_assoc]
        rw [e9] at h2
        exact h2
end Go.Proofs.YtbjngdlkamdmdaaDoor.J7
