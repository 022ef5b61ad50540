/-
  Plain facts: the reference's steps through a header's parameters come to the document's. No program in this text. Conditions: none.
-/
import Derived.Test.YtkmopneeafbeaaaDoorPtRUnt
import Derived.Test.YtkmopneeafbeaaaDoorF0RTrim
namespace Go.Proofs.YtkmopneeafbeaaaDoor.Pt
open Go F0

theorem ltr_blanks {b : List UInt8} (hb : ∀ x ∈ b, blk x = true) (a : List UInt8) : ltr (b ++ a) = ltr a := by
  induction b with
  | nil => rfl
  | cons x b ih => rw [List.cons_append, ltr_yes (hb x (by simp)), ih (fun y hy => hb y (by simp [hy]))]
theorem small_blanks {b : List UInt8} (hb : ∀ x ∈ b, blk x = true) (a : List UInt8) : smallL (b ++ a) = smallL a := by
  unfold smallL
  rw [← trim_eq, ltr_blanks hb, trim_eq]
theorem ltrL_eq (l : List UInt8) : ltrL l = ltr l := rfl
theorem blk_noEq {x : UInt8} (h : blk x = true) : isEq x = false := by
  rw [blk_eq, Bool.or_eq_true, beq_iff_eq, beq_iff_eq] at h
  rcases h with rfl | rfl <;> rfl
/-- Blanks that are gone by: from i0 to i. -/
def BlkTo (D : List UInt8) (i0 i : Nat) : Prop := i0 ≤ i ∧ i ≤ D.length ∧ ∃ b, D.drop i0 = b ++ D.drop i ∧ ∀ x ∈ b, blk x = true
theorem BlkTo.start (D : List UInt8) (i : Nat) (h : i ≤ D.length) : BlkTo D i i := ⟨Nat.le_refl _, h, [], rfl, by simp⟩
theorem BlkTo.step {D : List UInt8} {i0 i : Nat} (h : BlkTo D i0 i) (hi : i < D.length) (hb : blk D[i] = true) : BlkTo D i0 (i + 1) := by
  obtain ⟨h1, h2, b, h3, h4⟩ := h
  refine ⟨by omega, hi, b ++ [D[i]], ?_, ?_⟩
  · rw [h3, List.drop_eq_getElem_cons hi]; simp
  · intro x hx
    rcases List.mem_append.1 hx with hx | hx
    · exact h4 x hx
    · rw [List.mem_singleton] at hx; rw [hx]; exact hb
/-- Where no blank stands. -/
def NoBlk (D : List UInt8) (i : Nat) : Prop := ∀ h : i < D.length, blk D[i] = false
theorem BlkTo.ltr_ {D : List UInt8} {i0 i : Nat} (h : BlkTo D i0 i) (hn : NoBlk D i) : ltrL (D.drop i0) = D.drop i := by
  obtain ⟨h1, h2, b, h3, h4⟩ := h
  rw [ltrL_eq, h3, ltr_blanks h4]
  by_cases hi : i < D.length
  · rw [List.drop_eq_getElem_cons hi, ltr_no (hn hi)]
  · rw [List.drop_of_length_le (by omega)]; rfl
theorem mem_eqs {c : UInt8} : c ∈ ([61, 59] : List UInt8) ↔ isEq c = true := by
  unfold isEq
  rw [Bool.or_eq_true, beq_iff_eq, beq_iff_eq]
  simp
theorem noeqs {a : List UInt8} (h : ∀ x ∈ a, x ∉ ([61, 59] : List UInt8)) : ∀ x ∈ a, isEq x = false := fun x hx => by
  cases hq : isEq x
  · rfl
  · exact absurd (mem_eqs.2 hq) (h x hx)
theorem nosemi {a : List UInt8} (h : ∀ x ∈ a, x ∉ ([59] : List UInt8)) : ∀ x ∈ a, x ≠ 59 := fun x hx e => h x hx (by rw [e]; simp)
/-- What stands behind a place, if a semicolon is there. -/
def restO (D : List UInt8) (k : Nat) : Option (List UInt8) := if k < D.length then some (D.drop (k + 1)) else none
/-- The name up to a sign of equality, a semicolon, or the end. -/
structure NameTo (D : List UInt8) (k e : Nat) (nm : List UInt8) : Prop where
  lt : k < e
  le : e ≤ D.length
  pre : ∃ a, (∀ x ∈ a, isEq x = false) ∧ D.drop (k + 1) = a ++ D.drop e ∧ nm = smallL a
theorem NameTo.mk' {D : List UInt8} {k i e : Nat} {a : List UInt8} (hb : BlkTo D (k + 1) i) (hu : UntL D [61, 59] i e a) : NameTo D k e (smallL a) := by
  obtain ⟨h1, h2, b, h3, h4⟩ := hb
  have hge := hu.ge
  refine ⟨by omega, hu.le, b ++ a, ?_, ?_, (small_blanks h4 a).symm⟩
  · intro x hx
    rcases List.mem_append.1 hx with hx | hx
    · exact blk_noEq (h4 x hx)
    · exact noeqs hu.no x hx
  · rw [h3, hu.eq, List.append_assoc]
/-- A parameter that is read, and the place behind it. -/
def Nx (D : List UInt8) (k k' : Nat) (nm vl : List UInt8) : Prop := k < k' ∧ k' ≤ D.length ∧ (∀ h : k' < D.length, D[k'] = 59) ∧ nextL (D.drop (k + 1)) = ((nm, vl), restO D k')
theorem rest_end (D : List UInt8) : restO D D.length = none := by unfold restO; rw [if_neg (by omega)]
theorem rest_at {D : List UInt8} {k : Nat} (h : k < D.length) : restO D k = some (D.drop (k + 1)) := by unfold restO; rw [if_pos h]
theorem nx_end {D : List UInt8} {k e : Nat} {nm : List UInt8} (h : NameTo D k e nm) (he : e = D.length) : Nx D k e nm [] := by
  obtain ⟨h1, h2, a, h3, h4, rfl⟩ := h
  subst he
  refine ⟨h1, Nat.le_refl _, fun h => by omega, ?_⟩
  rw [List.drop_length, List.append_nil] at h4
  rw [h4, next_none h3, rest_end]
theorem nx_semi {D : List UInt8} {k e : Nat} {nm : List UInt8} (h : NameTo D k e nm) (he : e < D.length) (hc : D[e] = 59) : Nx D k e nm [] := by
  obtain ⟨h1, h2, a, h3, h4, rfl⟩ := h
  refine ⟨h1, h2, fun _ => hc, ?_⟩
  rw [List.drop_eq_getElem_cons he, hc] at h4
  rw [h4, next_semi _ h3, rest_at he]
theorem nx_empty {D : List UInt8} {k e i : Nat} {nm : List UInt8} (h : NameTo D k e nm) (he : e < D.length) (hc : D[e] = 61) (hb : BlkTo D (e + 1) i) (hi : i = D.length) : Nx D k D.length nm [] := by
  obtain ⟨h1, h2, a, h3, h4, rfl⟩ := h
  refine ⟨by omega, Nat.le_refl _, fun h => by omega, ?_⟩
  rw [List.drop_eq_getElem_cons he, hc] at h4
  have hl := hb.ltr_ (fun h => by omega)
  rw [hi, List.drop_length] at hl
  rw [h4, next_empty h3 hl, rest_end]
theorem nx_value {D : List UInt8} {k e i k' : Nat} {nm v : List UInt8} (h : NameTo D k e nm) (he : e < D.length) (hc : D[e] = 61) (hb : BlkTo D (e + 1) i) (hn : NoBlk D i) (hi : i < D.length) (hq : D[i] ≠ 34) (hu : UntL D [59] i k' v) : Nx D k k' nm (trimL v) := by
  obtain ⟨h1, h2, a, h3, h4, rfl⟩ := h
  have hge := hu.ge
  have hb1 := hb.1
  rw [List.drop_eq_getElem_cons he, hc] at h4
  have hl := hb.ltr_ hn
  have hs := nosemi hu.no
  rw [List.drop_eq_getElem_cons hi] at hl
  refine ⟨by omega, hu.le, fun h => by have := hu.at_ h; simpa using this, ?_⟩
  by_cases hk : k' = D.length
  · have hv := hu.end_ hk
    rw [List.drop_eq_getElem_cons hi] at hv
    have hs2 := hs
    rw [← hv] at hs2 ⊢
    rw [h4, next_last h3 hl hq hs2, hk, rest_end]
  · have hk2 : k' < D.length := by have := hu.le; omega
    have hv := hu.cons hk2
    have h59 : D[k'] = 59 := by have := hu.at_ hk2; simpa using this
    rw [List.drop_eq_getElem_cons hi, h59] at hv
    rw [h4, next_value h3 hl hq hv hs, rest_at hk2]
/-- What the quoted text tells up to a place. -/
def UnqTo (D : List UInt8) (i0 i : Nat) (v : List UInt8) : Prop := i0 ≤ i ∧ i ≤ D.length ∧ unqL (D.drop i0) = (v ++ (unqL (D.drop i)).1, (unqL (D.drop i)).2)
theorem UnqTo.start (D : List UInt8) (i : Nat) (h : i ≤ D.length) : UnqTo D i i [] := ⟨Nat.le_refl _, h, rfl⟩
theorem UnqTo.byte {D : List UInt8} {i0 i : Nat} {v : List UInt8} (h : UnqTo D i0 i v) (hi : i < D.length) (h1 : D[i] ≠ 34) (h2 : D[i] ≠ 92 ∨ i + 1 = D.length) : UnqTo D i0 (i + 1) (v ++ [D[i]]) := by
  obtain ⟨q1, q2, q3⟩ := h
  refine ⟨by omega, hi, ?_⟩
  rw [q3]
  have hd := List.drop_eq_getElem_cons hi
  rcases h2 with h2 | h2
  · rw [hd, unq_byte h1 h2]; simp
  · rw [hd, h2, List.drop_length, unq_one h1]; simp [unqL]
theorem UnqTo.esc {D : List UInt8} {i0 i : Nat} {v : List UInt8} (h : UnqTo D i0 i v) (hi : i + 1 < D.length) (h2 : D[i]'(by omega) = 92) : UnqTo D i0 (i + 2) (v ++ [D[i + 1]]) := by
  obtain ⟨q1, q2, q3⟩ := h
  refine ⟨by omega, hi, ?_⟩
  rw [q3]
  have hd := List.drop_eq_getElem_cons (show i < D.length by omega)
  rw [hd, h2, List.drop_eq_getElem_cons hi, unq_esc]
  simp
/-- The end of a quoted text: its mark, or the end of all. -/
theorem UnqTo.done {D : List UInt8} {i0 i : Nat} {v : List UInt8} (h : UnqTo D i0 i v) (he : ∀ hi : i < D.length, D[i] = 34) : unqL (D.drop i0) = (v, D.drop (min (i + 1) D.length)) := by
  obtain ⟨q1, q2, q3⟩ := h
  rw [q3]
  by_cases hi : i < D.length
  · rw [List.drop_eq_getElem_cons hi, he hi, unq_quote, Nat.min_eq_left hi]; simp
  · rw [Nat.min_eq_right (by omega), List.drop_length, List.drop_of_length_le (by omega)]; simp [unqL]
theorem nx_quote {D : List UInt8} {k e i i3 k' : Nat} {nm v a2 : List UInt8} (h : NameTo D k e nm) (he : e < D.length) (hc : D[e] = 61) (hb : BlkTo D (e + 1) i) (hi : i < D.length) (hq : D[i] = 34)
    (hv : UnqTo D (i + 1) i3 v) (hd : ∀ h : i3 < D.length, D[i3] = 34) (hu : UntL D [59] (min (i3 + 1) D.length) k' a2) : Nx D k k' nm v := by
  obtain ⟨h1, h2, a, h3, h4, rfl⟩ := h
  have hge := hu.ge
  have hb1 := hb.1
  have hv1 := hv.1
  rw [List.drop_eq_getElem_cons he, hc] at h4
  have hl := hb.ltr_ (fun _ => by rw [hq]; decide)
  rw [List.drop_eq_getElem_cons hi, hq] at hl
  have hw := hv.done hd
  refine ⟨by omega, hu.le, fun h => by have := hu.at_ h; simpa using this, ?_⟩
  rw [h4, next_quote h3 hl, hw]
  by_cases hk : k' = D.length
  · have hx := hu.end_ hk
    simp only
    rw [hx, cutL_none (nosemi hu.no), hk, rest_end]
    rfl
  · have hk2 : k' < D.length := by have := hu.le; omega
    have hx := hu.cons hk2
    have h59 : D[k'] = 59 := by have := hu.at_ hk2; simpa using this
    rw [h59] at hx
    simp only
    rw [hx, cutL_some _ (nosemi hu.no), rest_at hk2]
    rfl
/-- The parameters from a place on. -/
def parO (D : List UInt8) (k : Nat) : List Fl := match restO D k with
  | none => []
  | some r => paramsL r
theorem par_end (D : List UInt8) : parO D D.length = [] := by unfold parO; rw [rest_end]
theorem par_step {D : List UInt8} {k k' : Nat} {nm vl : List UInt8} (hk : k < D.length) (h : Nx D k k' nm vl) : parO D k = keepL (nm, vl) ++ parO D k' := by
  obtain ⟨h1, h2, h3, h4⟩ := h
  unfold parO
  rw [rest_at hk]
  show paramsL (D.drop (k + 1)) = _
  cases hr : restO D k' with
  | none => rw [hr] at h4; rw [params_last h4]; simp
  | some r => rw [hr] at h4; rw [params_next h4]
theorem values_par {D a : List UInt8} {k : Nat} (hu : UntL D [59] 0 k a) : valuesL D = (smallL a, parO D k) := by
  by_cases hk : k = D.length
  · have := hu.end_ hk
    rw [List.drop_zero] at this
    rw [hk, par_end, this, values_none (nosemi hu.no)]
  · have hk2 : k < D.length := by have := hu.le; omega
    have h59 : D[k] = 59 := by have := hu.at_ hk2; simpa using this
    have hx := hu.cons hk2
    rw [List.drop_zero, h59] at hx
    unfold parO
    rw [rest_at hk2]
    conv => lhs; rw [hx]
    rw [values_some _ (nosemi hu.no)]
end Go.Proofs.YtkmopneeafbeaaaDoor.Pt
