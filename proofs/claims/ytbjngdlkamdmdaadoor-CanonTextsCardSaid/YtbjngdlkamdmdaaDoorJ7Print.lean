/-
  The document's answer for package canon, as the statements have it: a right value, and what it prints. Conditions: it is right, and its text has at most 65536 bytes.
-/
import Derived.Test.YtbjngdlkamdmdaaDoorJ7Right
namespace Go.Proofs.YtbjngdlkamdmdaaDoor.J7
open Go Go.RowKit Go.Joins Kit

theorem rightH_of : ∀ (d : Nat) (j : J), RightJ d j → ∃ sub, RightH sub j ∧ (sub = none ∧ d = 0 ∨ ∃ d', d = d' + 1 ∧ sub = some (RightJ d'))
  | 0, _, h => ⟨none, h, Or.inl ⟨rfl, rfl⟩⟩
  | d + 1, _, h => ⟨some (RightJ d), h, Or.inr ⟨d, rfl, rfl⟩⟩

/-- A right value is a leaf, or a list of right ones. -/
theorem right_cases (d : Nat) (k n : Int) (t : ByteArray) (keys : List ByteArray) (kids : List J) (h : RightJ d (.mk k n t keys kids)) :
    (keys = [] ∧ kids = [] ∧ (k = 1 ∨ k = 2 ∨ k = 3 ∨ k = 4 ∨ k = 5) ∧ (k ≠ 4 → n = 0) ∧ (k ≠ 5 → t = ⟨#[]⟩) ∧ n ≤ 9007199254740991 ∧ -9007199254740991 ≤ n ∧ t.size ≤ 300000 ∧ U8.validL t.data.toList = true) ∨
    (∃ d', d = d' + 1 ∧ n = 0 ∧ t = ⟨#[]⟩ ∧ (∃ obj : Bool, k = (if obj then 7 else 6) ∧ (obj = false → keys = []) ∧ (obj = true → keys.length = kids.length)) ∧ (∀ (i : Nat) (h : i < kids.length), RightJ d' kids[i]) ∧ kids.length ≤ 65536 ∧ keys.length ≤ 65536 ∧
      (∀ k ∈ keys, k.size ≤ 300000) ∧ (∀ k ∈ keys, U8.validL k.data.toList = true) ∧ (keys.map fun k => k.data.toList).Nodup) := by
  obtain ⟨sub, hs, hd⟩ := rightH_of d _ h
  obtain ⟨h1, h2, h3, h4, h5, h6, h7, h8, h9, h10, h11, h12, h13, h14, h15, h16, h17, h18⟩ := hs
  have h1 : 1 ≤ k := h1
  have h2 : k ≤ 7 := h2
  have h3 : k ≠ 4 → n = 0 := h3
  have h4 : n ≤ 9007199254740991 := h4
  have h5 : -9007199254740991 ≤ n := h5
  have h6 : k ≠ 5 → t = ⟨#[]⟩ := h6
  have h8 : k < 6 → kids = [] := h8
  have h9 : k ≠ 7 → keys = [] := h9
  have h10 : k = 7 → keys.length = kids.length := h10
  by_cases hk : k < 6
  · exact Or.inl ⟨h9 (by omega), h8 hk, by omega, h3, h6, h4, h5, h15, h7⟩
  · have h11 : sub.isSome = true := h11 (by show 6 ≤ k; omega)
    rcases hd with ⟨rfl, _⟩ | ⟨d', rfl, rfl⟩
    · simp at h11
    · refine Or.inr ⟨d', rfl, h3 (by omega), h6 (by omega), ⟨decide (k = 7), ?_, ?_, ?_⟩, ?_, h18, h17, h16, h13, h14⟩
      · by_cases h : k = 7
        · simp [h]
        · simp [h]; omega
      · intro h; exact h9 (by simpa using h)
      · intro h; exact h10 (by simpa using h)
      · intro i hi; exact h12 _ (List.getElem_mem hi)

theorem right_any : ∀ (d : Nat) (j : J), RightJ d j → RightOk d j
  | d, .mk k n t keys kids, h => by
    rcases right_cases d k n t keys kids h with ⟨rfl, rfl, hk, h3, h6, h4, h5, h15, h7⟩ | ⟨d', rfl, rfl, rfl, ⟨obj, hk, ho, hoo⟩, ih, h18, h17, h16, h13, h14⟩
    · intro P w dd c0 c1 c2 c3 c4 _ hN
      have := right_leaf k n t hk h3 h6 h4 h5 h15 P w dd c0 c1 c2 c3 c4 hN
      rw [h7] at this
      exact this
    · exact right_list d' k obj hk keys kids (fun i hi => right_any d' _ (ih i hi)) ho hoo h18 h17 h16 h13 h14

theorem put_any : ∀ (d : Nat) (j : J), RightJ d j → PutOk j
  | d, .mk k n t keys kids, h => by
    rcases right_cases d k n t keys kids h with ⟨rfl, rfl, hk, h3, h6, h4, h5, h15, h7⟩ | ⟨d', rfl, rfl, rfl, ⟨obj, hk, ho, hoo⟩, ih, h18, h17, h16, h13, h14⟩
    · exact put_leaf k n t hk h4 h5 h15
    · exact put_list k obj hk ⟨#[]⟩ keys kids (fun i hi => put_any d' _ (ih i hi)) hoo h18 h16

/-- Right, where right has an answer. -/
def RightAns (b : Bool) (w : World) (v : Value) : Prop := ∀ w1 : World, Below w.heap.size w w1 → Calls Tryd.prog 27 #[v, .int .i64 0] w1 fun e w' => e = .returned (.bool b) ∧ Below w1.heap.size w1 w'

set_option maxHeartbeats 1000000 in
set_option maxRecDepth 100000 in
theorem Right_call (w : World) (b : Bool) (k n : Int) (t : ByteArray) (a3 a4 : Option Addr) (n3 m3 n4 m4 : Nat) (hr : RightAns b w (.agg #[.int .i64 k, .int .i64 n, .string t, .slice a3 n3 m3, .slice a4 n4 m4])) :
    Calls Tryd.prog 14 #[.agg #[.int .i64 k, .int .i64 n, .string t, .slice a3 n3 m3, .slice a4 n4 m4]] w fun e w' => e = .returned (.bool b) ∧ Below w.heap.size w w' := by
  have hb0 : Below w.heap.size w (w.alloc (.cells #[.int .i64 k, .int .i64 n, .string t, .slice a3 n3 m3, .slice a4 n4 m4] 25)) := (Below.refl _ w).alloc (Nat.le_refl _) _
  have h := hr _ hb0
  go_enter Tryd.func14, Tryd.ntmps14
  go_wp2_with fail
  refine h.mono ?_
  rintro e w1 ⟨rfl, hb1⟩
  go_wp2_with fail
  go_ret
  exact ⟨rfl, hb0.trans (hb1.mono hb0.size)⟩

theorem Gb.nilB {w w' : World} {v' : Value} (h : Gb w w' (.slice none 0 0) v') : Below w.heap.size w w' := ⟨h.os, h.tape, h.output, h.size, fun i hi => h.block i hi (by intro e; cases e)⟩
theorem RightAns.below {b : Bool} {w w' : World} {v : Value} (h : RightAns b w v) (hb : Below w.heap.size w w') : RightAns b w' v := fun _ hb1 => h _ (hb.trans (hb1.mono hb.size))
theorem rightAns_ok {j : J} (h : RightJ 24 j) {P : Nat → Prop} {w : World} {c0 c1 c2 c3 c4 : Value} (hN : NodeAt P w j (.agg #[c0, c1, c2, c3, c4])) : RightAns true w (.agg #[c0, c1, c2, c3, c4]) := fun w1 hb =>
  right_any 24 j h (fun g => g < w.heap.size) w1 0 c0 c1 c2 c3 c4 rfl (hN.keep fun g _ hl => ⟨hl, hb.block g hl⟩)
theorem rightAns_text (t : ByteArray) (ht : t.size ≤ 300000) (w : World) : RightAns (U8.validL t.data.toList) w (.agg #[.int .i64 5, .int .i64 0, .string t, .slice none 0 0, .slice none 0 0]) := fun w1 _ =>
  right_leaf 5 0 t (by omega) (fun _ => rfl) (fun h => absurd rfl h) (by omega) (by omega) ht (fun _ => True) w1 0 _ _ _ _ _ (node_plain _ _ _ _ _)

set_option maxHeartbeats 1000000 in
set_option maxRecDepth 100000 in
/-- Print of what is not right. -/
theorem print_bad (w : World) (k n : Int) (t : ByteArray) (a3 a4 : Option Addr) (n3 m3 n4 m4 : Nat) (hr : RightAns false w (.agg #[.int .i64 k, .int .i64 n, .string t, .slice a3 n3 m3, .slice a4 n4 m4])) :
    Calls Tryd.prog 12 #[.agg #[.int .i64 k, .int .i64 n, .string t, .slice a3 n3 m3, .slice a4 n4 m4]] w fun e w' => e = .returned (.tuple #[.string ⟨#[]⟩, .int .i64 1]) ∧ Below w.heap.size w w' := by
  have hb0 : Below w.heap.size w (w.alloc (.cells #[.int .i64 k, .int .i64 n, .string t, .slice a3 n3 m3, .slice a4 n4 m4] 25)) := (Below.refl _ w).alloc (Nat.le_refl _) _
  have h := Right_call _ false k n t a3 a4 n3 m3 n4 m4 (hr.below hb0)
  go_enter Tryd.func12, Tryd.ntmps12
  go_wp2_with fail
  refine h.mono ?_
  rintro e w1 ⟨rfl, hb1⟩
  go_wp2_with fail
  go_ret2
  exact ⟨rfl, hb0.trans (hb1.mono hb0.size)⟩

set_option maxHeartbeats 1000000 in
set_option maxRecDepth 100000 in
/-- Print of what is right. -/
theorem print_any (j : J) (h : RightJ 24 j) (hl : (putJ j).length ≤ 65536) (P : Nat → Prop) (w : World) (c0 c1 c2 c3 c4 : Value) (hN : NodeAt P w j (.agg #[c0, c1, c2, c3, c4])) :
    Calls Tryd.prog 12 #[.agg #[c0, c1, c2, c3, c4]] w fun e w' => e = .returned (.tuple #[.string ⟨(putJ j).toArray⟩, .int .i64 0]) ∧ Below w.heap.size w w' := by
  have hra := rightAns_ok h hN
  obtain ⟨k, n, t, a3, n3, m3, a4, n4, m4, rfl, rfl, rfl, rfl, rfl⟩ := hN.forms8
  obtain ⟨W, hW⟩ : ∃ W, w.alloc (.cells #[.int .i64 k, .int .i64 n, .string t, .slice a3 n3 m3, .slice a4 n4 m4] 25) = W := ⟨_, rfl⟩
  have hb0 : Below w.heap.size w W := by rw [← hW]; exact (Below.refl _ w).alloc (Nat.le_refl _) _
  have hA : Bx w.heap.size (.int .i64 k) (.int .i64 n) (.string t) (.slice a3 n3 m3) (.slice a4 n4 m4) W := by rw [← hW]; exact Bx.made w _ _ _ _ _
  have hc := Right_call _ true k n t a3 a4 n3 m3 n4 m4 (hra.below hb0)
  have HW := Lib.hid hW
  have hNW := hN.keep (P' := fun g => g < w.heap.size) (fun g _ hl => ⟨hl, hb0.block g hl⟩)
  obtain ⟨G, hG⟩ : ∃ G, w.heap.size = G := ⟨_, rfl⟩
  rw [hG] at hA
  have hGl := hA.lt
  obtain ⟨L, hL⟩ : ∃ L, putJ j = L := ⟨_, rfl⟩
  have hput := put_any 24 j h
  have HP : Hid (PutOk j) := Lib.hid hput
  have HLE := Lib.hid hL
  have hll : (L.length : Int) ≤ 65536 := by rw [← hL]; omega
  clear hN hW hra hput hL hl h
  go_enter Tryd.func12, Tryd.ntmps12
  go_upto_region 1 with fail
  rw [HW.out]
  (try rw [hG])
  have p0 := hA.p0
  have p1 := hA.p1
  have p2 := hA.p2
  have p3 := hA.p3
  have p4 := hA.p4
  go_wp2_with fail
  refine hc.mono ?_
  rintro e w1 ⟨rfl, hb1⟩
  have hA1 := hA.same (hb1.block G hGl)
  have r0 := hA1.p0
  have r1 := hA1.p1
  have r2 := hA1.p2
  have r3 := hA1.p3
  have r4 := hA1.p4
  have hN1 := hNW.keep (P' := fun g => g < w1.heap.size) (fun g hg hl => ⟨Nat.lt_of_lt_of_le hl hb1.size, hb1.block g hl⟩)
  have hpc := HP.out w1.heap.size [] (.slice none 0 0) w1 _ _ _ _ _ (OwnB.empty (Nat.le_refl _)) hN1 (by rw [HLE.out, List.length_nil]; omega)
  rw [HLE.out, List.nil_append] at hpc
  clear hN1 hNW
  go_wp2_with fail
  refine hpc.mono ?_
  rintro e w2 ⟨v2, rfl, h2, g2⟩
  obtain ⟨a, cap, rfl⟩ := h2.form
  have hrun := h2.string
  clear hpc
  go_wp2_with fail
  go_ret2
  rw [HLE.out]
  exact ⟨rfl, hb0.trans ((hb1.trans (g2.nilB.mono hb1.size)).mono hb0.size)⟩
end Go.Proofs.YtbjngdlkamdmdaaDoor.J7
