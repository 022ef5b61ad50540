/-
  A value as it lies in memory, from what it reads as. No function of the project in this text. Conditions: none.
-/
import Derived.Test.YtoofcclcimkipaaDoorJ8Same
namespace Go.Proofs.YtoofcclcimkipaaDoor.J8
open Go Go.RowKit Go.Joins Kit J7 Nds

/-! ### A value as it lies, in the other form -/
theorem cells_at {w : World} {n : Nat} {a : Option Addr} {cap : Nat} {cs : List Value} (hz : cs = [] ↔ n = 0) (h : ∀ j (h : j < cs.length), ∃ g o, a = some ⟨g, o, none⟩ ∧ w.cell? ⟨g, o + j, none⟩ = some cs[j]) :
    CellsAt (fun g => g < w.heap.size) w n (.slice a n cap) cs := by
  by_cases h0 : n = 0
  · subst h0
    exact Or.inl ⟨⟨a, cap, rfl⟩, rfl, hz.2 rfl⟩
  · have hl : 0 < cs.length := by
      rcases Nat.eq_zero_or_pos cs.length with h1 | h1
      · exact absurd (hz.1 (List.length_eq_zero_iff.1 h1)) h0
      · exact h1
    obtain ⟨g, o, ha, _⟩ := h 0 hl
    refine Or.inr ⟨g, o, cap, by rw [ha], fun j hj => ?_⟩
    obtain ⟨g', o', ha', h1⟩ := h j hj
    rw [ha] at ha'
    injection ha' with ha'
    injection ha' with e1 e2 _
    subst e1 e2
    exact ⟨World.block_lt_of_cell? w _ h1, h1⟩
def rows5 (C : Nat → Nat → Value) : Nat → Nat → List Value
  | _, 0 => []
  | i, m + 1 => C i 0 :: C i 1 :: C i 2 :: C i 3 :: C i 4 :: rows5 C (i + 1) m
theorem rows5_length (C : Nat → Nat → Value) : ∀ (m i : Nat), (rows5 C i m).length = 5 * m
  | 0, _ => rfl
  | m + 1, i => by
    show (rows5 C (i + 1) m).length + 1 + 1 + 1 + 1 + 1 = _
    rw [rows5_length C m (i + 1)]
    omega
theorem rows5_get (C : Nat → Nat → Value) : ∀ (m i q r : Nat), q < m → r < 5 → (rows5 C i m)[5 * q + r]? = some (C (i + q) r)
  | 0, _, q, _, h, _ => absurd h (Nat.not_lt_zero q)
  | m + 1, i, 0, r, _, hr => by
    match r, hr with
    | 0, _ => rfl
    | 1, _ => rfl
    | 2, _ => rfl
    | 3, _ => rfl
    | 4, _ => rfl
  | m + 1, i, q + 1, r, h, hr => by
    rw [show 5 * (q + 1) + r = (5 * q + r) + 1 + 1 + 1 + 1 + 1 by omega]
    show (rows5 C (i + 1) m)[5 * q + r]? = _
    rw [rows5_get C m (i + 1) q r (by omega) hr, show i + 1 + q = i + (q + 1) by omega]
theorem kids_rows {P : Nat → Prop} {w : World} (C : Nat → Nat → Value) : ∀ (kids : List J) (i : Nat), (∀ q (h : q < kids.length), NodeAt P w kids[q] (.agg #[C (i + q) 0, C (i + q) 1, C (i + q) 2, C (i + q) 3, C (i + q) 4])) → KidsAt P w kids (rows5 C i kids.length)
  | [], _, _ => by rw [KidsAt]; rfl
  | j :: r, i, h => by
    rw [KidsAt]
    refine ⟨_, _, _, _, _, _, rfl, h 0 (by simp), kids_rows C r (i + 1) (fun q hq => ?_)⟩
    have h1 := h (q + 1) (by simpa using hq)
    rw [show i + (q + 1) = i + 1 + q by omega] at h1
    exact h1
theorem node_at {w : World} {j : J} {v : Value} (h : NodeIn w j v) : NodeAt (fun g => g < w.heap.size) w j v := by
  induction h with
  | mk k n t keys kids kv a cap C hk hc _ ih =>
    rw [NodeAt]
    obtain ⟨a3, m3, rfl, hkc⟩ := hk
    refine ⟨_, _, rfl, cells_at ?_ hkc, rows5 C 0 kids.length, cells_at ?_ (fun q hq => ?_), kids_rows C kids 0 (fun q hq => ?_)⟩
    · unfold J7.strs
      rw [List.map_eq_nil_iff, List.length_eq_zero_iff]
    · rw [← List.length_eq_zero_iff, rows5_length]
      omega
    · have hq' := hq
      rw [rows5_length] at hq'
      obtain ⟨g, o, ha, h1⟩ := hc (q / 5) (by omega)
      refine ⟨g, o, ha, ?_⟩
      have h2 := rows5_get C kids.length 0 (q / 5) (q % 5) (by omega) (by omega)
      rw [show 5 * (q / 5) + q % 5 = q by omega, Nat.zero_add, List.getElem?_eq_getElem hq] at h2
      have h3 := h1 (q % 5) (by omega)
      rw [show 5 * (q / 5) + q % 5 = q by omega] at h3
      rw [h3, h2]
    · rw [Nat.zero_add]
      exact ih q hq

end Go.Proofs.YtoofcclcimkipaaDoor.J8
