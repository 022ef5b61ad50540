/-
  The document's answer for package canon, as the statements have it: any value as it lies, whether it is right, what Print gives for it. Condition: Tame.
-/
import Derived.Test.YtbjngdlkamdmdaaDoorJ8Right
import Derived.Test.YtbjngdlkamdmdaaDoorJ7Print
namespace Go.Proofs.YtbjngdlkamdmdaaDoor.J8
open Go Go.RowKit Go.Joins Kit J7 Nds

/-! ### A value as it lies, in the other form -/
theorem cells_at {w : World} {n : Nat} {a : Option Addr} {cap : Nat} {cs : List Value} (hz : cs = [] ↔ n = 0) (h : ∀ j (h : j < cs.length), ∃ g o, a = some ⟨g, o, none⟩ ∧ w.cell? ⟨g, o + j, none⟩ = some cs[j]) :
    CellsAt (fun g => g < w.heap.size) w n (.slice a n cap) cs := by
  by_cases h0 : n = 0
  · subst h0
    exact Or.inl ⟨⟨a, cap, rfl⟩, rfl, hz.2 rfl⟩
  · have hl : 0 < cs.length := by
      rcases Nat.eq_zero_or_pos cs.length with h1 | h1
      · exact absurd (hz.1 (List.length_eq_zero_iff.1 h1)) h0
      · exact h1
    obtain ⟨g, o, ha, _⟩ := h 0 hl
    refine Or.inr ⟨g, o, cap, by rw [ha], fun j hj => ?_⟩
    obtain ⟨g', o', ha', h1⟩ := h j hj
    rw [ha] at ha'
    injection ha' with ha'
    injection ha' with e1 e2 _
    subst e1 e2
    exact ⟨World.block_lt_of_cell? w _ h1, h1⟩
def rows5 (C : Nat → Nat → Value) : Nat → Nat → List Value
  | _, 0 => []
  | i, m + 1 => C i 0 :: C i 1 :: C i 2 :: C i 3 :: C i 4 :: rows5 C (i + 1) m
theorem rows5_length (C : Nat → Nat → Value) : ∀ (m i : Nat), (rows5 C i m).length = 5 * m
  | 0, _ => rfl
  | m + 1, i => by
    show (rows5 C (i + 1) m).length + 1 + 1 + 1 + 1 + 1 = _
    rw [rows5_length C m (i + 1)]
    omega
theorem rows5_get (C : Nat → Nat → Value) : ∀ (m i q r : Nat), q < m → r < 5 → (rows5 C i m)[5 * q + r]? = some (C (i + q) r)
  | 0, _, q, _, h, _ => absurd h (Nat.not_lt_zero q)
  | m + 1, i, 0, r, _, hr => by
    match r, hr with
    | 0, _ => rfl
    | 1, _ => rfl
    | 2, _ => rfl
    | 3, _ => rfl
    | 4, _ => rfl
  | m + 1, i, q + 1, r, h, hr => by
    rw [show 5 * (q + 1) + r = (5 * q + r) + 1 + 1 + 1 + 1 + 1 by omega]
    show (rows5 C (i + 1) m)[5 * q + r]? = _
    rw [rows5_get C m (i + 1) q r (by omega) hr, show i + 1 + q = i + (q + 1) by omega]
theorem kids_rows {P : Nat → Prop} {w : World} (C : Nat → Nat → Value) : ∀ (kids : List J) (i : Nat), (∀ q (h : q < kids.length), NodeAt P w kids[q] (.agg #[C (i + q) 0, C (i + q) 1, C (i + q) 2, C (i + q) 3, C (i + q) 4])) → KidsAt P w kids (rows5 C i kids.length)
  | [], _, _ => by rw [KidsAt]; rfl
  | j :: r, i, h => by
    rw [KidsAt]
    refine ⟨_, _, _, _, _, _, rfl, h 0 (by simp), kids_rows C r (i + 1) (fun q hq => ?_)⟩
    have h1 := h (q + 1) (by simpa using hq)
    rw [show i + (q + 1) = i + 1 + q by omega] at h1
    exact h1
theorem node_at {w : World} {j : J} {v : Value} (h : NodeIn w j v) : NodeAt (fun g => g < w.heap.size) w j v := by
  induction h with
  | mk k n t keys kids kv a cap C hk hc _ ih =>
    rw [NodeAt]
    obtain ⟨a3, m3, rfl, hkc⟩ := hk
    refine ⟨_, _, rfl, cells_at ?_ hkc, rows5 C 0 kids.length, cells_at ?_ (fun q hq => ?_), kids_rows C kids 0 (fun q hq => ?_)⟩
    · unfold J7.strs
      rw [List.map_eq_nil_iff, List.length_eq_zero_iff]
    · rw [← List.length_eq_zero_iff, rows5_length]
      omega
    · have hq' := hq
      rw [rows5_length] at hq'
      obtain ⟨g, o, ha, h1⟩ := hc (q / 5) (by omega)
      refine ⟨g, o, ha, ?_⟩
      have h2 := rows5_get C kids.length 0 (q / 5) (q % 5) (by omega) (by omega)
      rw [show 5 * (q / 5) + q % 5 = q by omega, Nat.zero_add, List.getElem?_eq_getElem hq] at h2
      have h3 := h1 (q % 5) (by omega)
      rw [show 5 * (q / 5) + q % 5 = q by omega] at h3
      rw [h3, h2]
    · rw [Nat.zero_add]
      exact ih q hq

/-! ### Right, in the other form -/
theorem keys_nodup {keys : List ByteArray} (h : KeysFine keys) : (keys.map fun k => k.data.toList).Nodup := by
  refine List.pairwise_iff_getElem.2 (fun i j hi hj hij => ?_)
  rw [List.getElem_map, List.getElem_map]
  rw [List.length_map] at hi hj
  exact fun e => (h j hj).2 i hij (bytes_ext e)
theorem keys_fine {keys : List ByteArray} (h1 : ∀ k ∈ keys, U8.validL k.data.toList = true) (h2 : (keys.map fun k => k.data.toList).Nodup) : KeysFine keys := fun q hq =>
  ⟨h1 _ (List.getElem_mem hq), fun y hy e => by
    have h := List.pairwise_iff_getElem.1 h2 y q (by rw [List.length_map]; omega) (by rw [List.length_map]; exact hq) hy
    rw [List.getElem_map, List.getElem_map, e] at h
    exact h rfl⟩
theorem right_J {j : J} (ht : Tame j) : ∀ (d dd : Nat), dd + d = 24 → RightIn dd j → RightJ d j := by
  induction ht with
  | mk k n t keys kids hk hv hts hks _ ih =>
    intro d dd hd h
    obtain ⟨hh, h2, h3⟩ := right_inv h
    have hkid : ∀ (i : Nat) (hi : i < kids.length) (d' : Nat), d = d' + 1 → RightJ d' kids[i] := fun i hi d' e => ih i hi d' (dd + 1) (by omega) (h2 i hi)
    have nk0 : k < 6 → kids = [] := fun h => List.length_eq_zero_iff.1 (hh.a8 h)
    have key : ∀ (sub : Option (J → Prop)), (6 ≤ k → sub.isSome = true) → (∀ x ∈ kids, match sub with
        | none => False
        | some f => f x) → RightH sub (.mk k n t keys kids) := fun sub s1 s2 =>
      ⟨hh.a1, hh.a2, hh.a3, hh.a4, hh.a5, hh.a6, hh.a7, nk0, fun h => List.length_eq_zero_iff.1 (hh.a9 h), hh.a10, s1, s2,
        fun x hx => by obtain ⟨i, hi, rfl⟩ := List.getElem_of_mem hx; exact (h3 i hi).1, keys_nodup h3, hts,
        fun x hx => by obtain ⟨i, hi, rfl⟩ := List.getElem_of_mem hx; exact hks i hi, hk, hv⟩
    cases d with
    | zero =>
      have h6 : ¬ 6 ≤ k := fun h => by have := hh.a11 h; omega
      refine key none (fun h => absurd h h6) (fun x hx => ?_)
      rw [nk0 (by omega)] at hx
      exact absurd hx List.not_mem_nil
    | succ d' =>
      refine key (some (RightJ d')) (fun _ => rfl) (fun x hx => ?_)
      obtain ⟨i, hi, rfl⟩ := List.getElem_of_mem hx
      exact hkid i hi d' rfl
theorem right_I : ∀ (d dd : Nat) (j : J), dd + d = 24 → RightJ d j → RightIn dd j
  | d, dd, .mk k n t keys kids, hd, h => by
    rcases right_cases d k n t keys kids h with ⟨rfl, rfl, hk, h3, h6, h4, h5, h15, h7⟩ | ⟨d', rfl, rfl, rfl, ⟨obj, hk, ho, hoo⟩, ih, h18, h17, h16, h13, h14⟩
    · refine RightIn.mk dd _ ⟨?_, ?_, h3, h4, h5, h6, h7, fun _ => rfl, fun _ => rfl, fun _ => rfl, ?_⟩ (fun i hi => absurd hi (Nat.not_lt_zero i)) (fun q hq => absurd hq (Nat.not_lt_zero q))
      · show 1 ≤ k; omega
      · show k ≤ 7; omega
      · show 6 ≤ k → _; omega
    · refine RightIn.mk dd _ ⟨?_, ?_, fun _ => rfl, by show (0 : Int) ≤ _; decide, by show _ ≤ (0 : Int); decide, fun _ => rfl, rfl, ?_, ?_, ?_, fun _ => by omega⟩ (fun i hi => right_I d' (dd + 1) _ (by omega) (ih i hi)) (keys_fine h13 h14)
      · show 1 ≤ k; rw [hk]; cases obj <;> decide
      · show k ≤ 7; rw [hk]; cases obj <;> decide
      · show k < 6 → _; rw [hk]; cases obj <;> exact fun h => absurd h (by decide)
      · show k ≠ 7 → keys.length = 0; rw [hk]
        cases obj
        · exact fun _ => by rw [ho rfl]; rfl
        · exact fun h => absurd rfl h
      · show k = 7 → keys.length = kids.length; rw [hk]
        cases obj
        · exact fun h => absurd h (by decide)
        · exact fun _ => hoo rfl
theorem rightAns_any {a : J} (h : Tame a) {w : World} {c0 c1 c2 c3 c4 : Value} (hN : NodeIn w a (.agg #[c0, c1, c2, c3, c4])) : RightAns (rightP 0 a) w (.agg #[c0, c1, c2, c3, c4]) := fun w1 hb =>
  right_in a h 0 w1 c0 c1 c2 c3 c4 (by omega) (node_below hb hN)

set_option maxHeartbeats 1000000 in
set_option maxRecDepth 100000 in
/-- Print of what is right and too long. -/
theorem print_long (j : J) (h : RightJ 24 j) (hl : 65536 < (putJ j).length) (hl2 : (putJ j).length ≤ 10000000000000) (P : Nat → Prop) (w : World) (c0 c1 c2 c3 c4 : Value) (hN : NodeAt P w j (.agg #[c0, c1, c2, c3, c4])) :
    Calls Tryd.prog 12 #[.agg #[c0, c1, c2, c3, c4]] w fun e w' => e = .returned (.tuple #[.string ⟨#[]⟩, .int .i64 2]) ∧ Below w.heap.size w w' := by
  have hra := rightAns_ok h hN
  obtain ⟨k, n, t, a3, n3, m3, a4, n4, m4, rfl, rfl, rfl, rfl, rfl⟩ := hN.forms8
  obtain ⟨W, hW⟩ : ∃ W, w.alloc (.cells #[.int .i64 k, .int .i64 n, .string t, .slice a3 n3 m3, .slice a4 n4 m4] 25) = W := ⟨_, rfl⟩
  have hb0 : Below w.heap.size w W := by rw [← hW]; exact (Below.refl _ w).alloc (Nat.le_refl _) _
  have hA : Bx w.heap.size (.int .i64 k) (.int .i64 n) (.string t) (.slice a3 n3 m3) (.slice a4 n4 m4) W := by rw [← hW]; exact Bx.made w _ _ _ _ _
  have hc := Right_call _ true k n t a3 a4 n3 m3 n4 m4 (hra.below hb0)
  have HW := Lib.hid hW
  have hNW := hN.keep (P' := fun g => g < w.heap.size) (fun g _ hl => ⟨hl, hb0.block g hl⟩)
  obtain ⟨G, hG⟩ : ∃ G, w.heap.size = G := ⟨_, rfl⟩
  rw [hG] at hA
  have hGl := hA.lt
  obtain ⟨L, hL⟩ : ∃ L, putJ j = L := ⟨_, rfl⟩
  have hput := put_any 24 j h
  have HP : Hid (PutOk j) := Lib.hid hput
  have HLE := Lib.hid hL
  have hll : 65536 < (L.length : Int) := by rw [← hL]; omega
  have hll2 : (L.length : Int) ≤ 10000000000000 := by rw [← hL]; omega
  clear hN hW hra hput hL hl hl2 h
  go_enter Tryd.func12, Tryd.ntmps12
  go_upto_region 1 with fail
  rw [HW.out]
  (try rw [hG])
  have p0 := hA.p0
  have p1 := hA.p1
  have p2 := hA.p2
  have p3 := hA.p3
  have p4 := hA.p4
  go_wp2_with fail
  refine hc.mono ?_
  rintro e w1 ⟨rfl, hb1⟩
  have hA1 := hA.same (hb1.block G hGl)
  have r0 := hA1.p0
  have r1 := hA1.p1
  have r2 := hA1.p2
  have r3 := hA1.p3
  have r4 := hA1.p4
  have hN1 := hNW.keep (P' := fun g => g < w1.heap.size) (fun g hg hl => ⟨Nat.lt_of_lt_of_le hl hb1.size, hb1.block g hl⟩)
  have hpc := HP.out w1.heap.size [] (.slice none 0 0) w1 _ _ _ _ _ (OwnB.empty (Nat.le_refl _)) hN1 (by rw [HLE.out, List.length_nil]; omega)
  rw [HLE.out, List.nil_append] at hpc
  clear hN1 hNW
  go_wp2_with fail
  refine hpc.mono ?_
  rintro e w2 ⟨v2, rfl, h2, g2⟩
  obtain ⟨a, cap, rfl⟩ := h2.form
  have hrun := h2.string
  clear hpc
  go_wp2_with fail
  go_ret2
  exact ⟨rfl, hb0.trans ((hb1.trans (g2.nilB.mono hb1.size)).mono hb0.size)⟩
theorem rightP_in {dd : Nat} {a : J} (h : rightP dd a = true) : RightIn dd a := by
  unfold rightP at h
  exact @of_decide_eq_true _ (Classical.propDecidable _) h
/-- Its text, why there is none. -/
noncomputable def printP (a : J) : ByteArray × Int := if rightP 0 a = true then if (putJ a).length ≤ 65536 then (⟨(putJ a).toArray⟩, 0) else (⟨#[]⟩, 2) else (⟨#[]⟩, 1)
theorem print_all {a : J} (ht : Tame a) (hl : RightIn 0 a → (putJ a).length ≤ 10000000000000) {w : World} {c0 c1 c2 c3 c4 : Value} (hN : NodeIn w a (.agg #[c0, c1, c2, c3, c4])) :
    Calls Tryd.prog 12 #[.agg #[c0, c1, c2, c3, c4]] w fun e w' => e = .returned (.tuple #[.string (printP a).1, .int .i64 (printP a).2]) ∧ Below w.heap.size w w' := by
  have hA := rightAns_any ht hN
  have hAt := node_at hN
  by_cases hr : rightP 0 a = true
  · have hR := right_J ht 24 0 rfl (rightP_in hr)
    by_cases h6 : (putJ a).length ≤ 65536
    · rw [show printP a = (⟨(putJ a).toArray⟩, 0) by unfold printP; rw [if_pos hr, if_pos h6]]
      exact print_any a hR h6 _ w c0 c1 c2 c3 c4 hAt
    · rw [show printP a = (⟨#[]⟩, 2) by unfold printP; rw [if_pos hr, if_neg h6]]
      exact print_long a hR (by omega) (hl (rightP_in hr)) _ w c0 c1 c2 c3 c4 hAt
  · rw [show printP a = (⟨#[]⟩, 1) by unfold printP; rw [if_neg hr]]
    rw [show rightP 0 a = false by simpa using hr] at hA
    obtain ⟨k, n, t, a3, n3, m3, a4, n4, m4, rfl, rfl, rfl, rfl, rfl⟩ := hAt.forms8
    exact print_bad w k n t a3 a4 n3 m3 n4 m4 hA
end Go.Proofs.YtbjngdlkamdmdaaDoor.J8
