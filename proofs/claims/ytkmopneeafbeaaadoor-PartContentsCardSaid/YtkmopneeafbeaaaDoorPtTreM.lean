/-
  The law PartTrees returns true: the reference's header values, its parts and their comparison, walked; the law. Condition: the bound of the library's search is some number.
-/
import Derived.Test.YtkmopneeafbeaaaDoorRxIdx
import Derived.Test.YtkmopneeafbeaaaDoorPtPlain
import Derived.Test.YtkmopneeafbeaaaDoorF0RTrim
import Derived.Test.YtkmopneeafbeaaaDoorRfFold
import Derived.Test.YtkmopneeafbeaaaDoorBuf
import Derived.Test.YtkmopneeafbeaaaDoorBuf2
import Derived.Test.YtkmopneeafbeaaaDoorPtBx
import Derived.Test.YtkmopneeafbeaaaDoorPtPut8
import Derived.Test.YtkmopneeafbeaaaDoorPtMadeP
import Derived.Test.YtkmopneeafbeaaaDoorPtStep
import Derived.Test.YtkmopneeafbeaaaDoorPtSt
import Derived.Test.YtkmopneeafbeaaaDoorF0RMem
import Derived.Test.YtkmopneeafbeaaaDoorPtSizes
import Derived.Test.YtkmopneeafbeaaaDoorF0RSplit
import Derived.Test.YtkmopneeafbeaaaDoorF0RFirst
import Derived.Test.YtkmopneeafbeaaaDoorPtFin
import Derived.Test.YtkmopneeafbeaaaDoorPtIv
import Derived.Test.YtkmopneeafbeaaaDoorPtMem
import Derived.Test.YtkmopneeafbeaaaDoorF0RFs
import Derived.Test.YtkmopneeafbeaaaDoorPtTree
import Derived.Deep.CutBlock
import Derived.Deep.AppendLies
import Derived.Deep.LoopGhost
import Derived.Deep.RegionHeld3
import Derived.Deep.RegionLaw
namespace Go.Proofs.YtkmopneeafbeaaaDoor.Pt
open Go Go.RowKit Kit

theorem idx_byte (f : List UInt8) (hf : f = [59] ∨ f = [61, 59] ∨ f = [46]) (c : UInt8) : (Rx.idxFrom f [c] (f.length + 1) 0 < 0 ∧ c ∉ f) ∨ (¬ Rx.idxFrom f [c] (f.length + 1) 0 < 0 ∧ c ∈ f) := by
  by_cases h : c ∈ f
  · refine Or.inr ⟨?_, h⟩
    rcases hf with rfl | rfl | rfl
    · rw [List.mem_singleton] at h
      subst h
      decide
    · simp only [List.mem_cons, List.not_mem_nil, or_false] at h
      rcases h with rfl | rfl <;> decide
    · rw [List.mem_singleton] at h
      subst h
      decide
  · refine Or.inl ⟨?_, h⟩
    rw [Rx.one_none f c _ 0 (fun k hk _ e => h (by rw [← e]; exact List.getElem_mem hk))]
    decide
theorem ext_one (s : ByteArray) (k : Nat) (h : k < s.size) : (s.extract k (k + 1)).data.toList = [s[k]] := by
  rw [← Lib.toList_data, Lib.extract_toList, show k + 1 - k = 1 by omega, List.drop_eq_getElem_cons (by rw [← Lib.size_eq]; exact h)]
  rfl

set_option maxHeartbeats 1000000 in
set_option maxRecDepth 100000 in
theorem until_any (s : ByteArray) (f : List UInt8) (hf : f = [59] ∨ f = [61, 59] ∨ f = [46]) (i0 : Nat) (hi : i0 ≤ s.size) (w : World) (hs : s.size ≤ 1099511627776) :
    Calls Tryd.prog 22 #[.string s, .int .i64 (i0 : Int), .string ⟨f.toArray⟩] w fun e w' => w = w' ∧ ∃ k, i0 ≤ k ∧ k ≤ s.size ∧ e = .returned (.int .i64 (k : Int)) ∧ (∀ (j : Nat) (h : j < s.size), i0 ≤ j → j < k → s[j] ∉ f) ∧ ∀ h : k < s.size, s[k] ∈ f := by
  obtain ⟨F, hF⟩ : ∃ F : ByteArray, F = ⟨f.toArray⟩ := ⟨_, rfl⟩
  have hFl : F.data.toList = f := by rw [hF]
  have hFs : F.size ≤ 2 := by rw [Lib.size_eq, hFl]; rcases hf with rfl | rfl | rfl <;> simp
  rw [← hF]
  have HF := Lib.hid hf
  have HFL := Lib.hid hFl
  clear hF hFl hf
  go_enter Tryd.func22, Tryd.ntmps22
  go_wp2_with fail
  go_loop [1] (fun i => ∃ k : Nat, i0 ≤ k ∧ k ≤ s.size ∧ i = .int .i64 (k : Int) ∧ Hid (∀ (j : Nat) (h : j < s.size), i0 ≤ j → j < k → s[j] ∉ f)) (fun i => s.size - (intOf i).toNat)
  case atStart => exact ⟨i0, Nat.le_refl _, hi, rfl, Lib.hid (fun j _ h1 h2 => by omega)⟩
  case round =>
    obtain ⟨k, hk0, hk1, rfl, hno⟩ := hrel
    by_cases hlt : k < s.size
    · have g1 : (k : Int) < (s.size : Int) := by omega
      have HX := Lib.hid (ext_one s k hlt)
      obtain ⟨X, hX⟩ : ∃ X, s.extract k (k + 1) = X := ⟨_, rfl⟩
      rw [hX] at HX
      have hXs : X.size ≤ 1 := by rw [Lib.size_eq, HX.out]; simp
      have HC := Lib.hid (idx_byte f HF.out s[k])
      go_wp2_with fail
      refine (Rx.index_any F X 0 w (by omega) (by omega) (by omega)).mono ?_
      rintro e w1 ⟨rfl, rfl⟩
      have HJ := HC.out
      rw [← HX.out, ← HFL.out, ← Lib.size_eq] at HJ
      obtain ⟨J, hJ⟩ : ∃ J, Rx.idxFrom F.data.toList X.data.toList (F.size + 1) 0 = J := ⟨_, rfl⟩
      rw [hJ] at HJ ⊢
      rcases HJ with ⟨g2, hm⟩ | ⟨g2, hm⟩
      · have HN := Lib.hid hm
        clear hm hJ hX
        go_wp2_with fail
        go_round
        case rel => exact ⟨k + 1, by omega, by omega, by go_num, Lib.hid (fun j h h1 h2 => by
          by_cases e : j = k
          · subst e
            have := HN.out
            rw [HFL.out] at this
            exact this
          · exact hno.out j h h1 (by omega))⟩
        case measure => simp [intOf]; omega
      · have HN := Lib.hid hm
        clear hm hJ hX
        go_wp2_with fail
        go_ret
        refine ⟨rfl, k, hk0, hk1, rfl, hno.out, fun h => ?_⟩
        have := HN.out
        rw [HFL.out] at this
        exact this
    · have g1 : ¬ (k : Int) < (s.size : Int) := by omega
      go_wp2_with fail
      go_ret
      exact ⟨rfl, k, hk0, hk1, rfl, hno.out, fun h => absurd h hlt⟩
/-- The bytes from a place to another one. -/
theorem drop_span (l : List UInt8) (i k : Nat) (h : i ≤ k) : l.drop i = (l.take k).drop i ++ l.drop k := by
  conv => lhs; rw [← List.take_append_drop k l]
  by_cases hk : k ≤ l.length
  · rw [List.drop_append_of_le_length (by rw [List.length_take]; omega)]
  · rw [List.drop_of_length_le (show l.length ≤ k by omega), List.append_nil, List.append_nil]
theorem span_mem {l : List UInt8} {i k : Nat} {x : UInt8} (hk : k ≤ l.length) (h : x ∈ (l.take k).drop i) : ∃ (j : Nat) (hj : j < l.length), i ≤ j ∧ j < k ∧ x = l[j] := by
  obtain ⟨n, hn, rfl⟩ := List.getElem_of_mem h
  rw [List.length_drop, List.length_take] at hn
  exact ⟨i + n, by omega, by omega, by omega, by simp⟩
/-- What until tells, as lists. -/
structure UntL (D f : List UInt8) (i k : Nat) (a : List UInt8) : Prop where
  ge : i ≤ k
  le : k ≤ D.length
  eq : D.drop i = a ++ D.drop k
  len : a.length = k - i
  no : ∀ x ∈ a, x ∉ f
  at_ : ∀ h : k < D.length, D[k] ∈ f
  sp : a = (D.take k).drop i
theorem UntL.mk' {s : ByteArray} {f : List UInt8} {i k : Nat} (h1 : i ≤ k) (h2 : k ≤ s.size) (h3 : ∀ (j : Nat) (h : j < s.size), i ≤ j → j < k → s[j] ∉ f) (h4 : ∀ h : k < s.size, s[k] ∈ f) : UntL s.data.toList f i k ((s.data.toList.take k).drop i) := by
  have hl : k ≤ s.data.toList.length := by rw [← Lib.size_eq]; exact h2
  refine ⟨h1, hl, drop_span _ i k h1, by rw [List.length_drop, List.length_take]; omega, fun x hx => ?_, fun h => ?_, rfl⟩
  · obtain ⟨j, hj, q1, q2, rfl⟩ := span_mem hl hx
    exact h3 j (by rw [Lib.size_eq]; exact hj) q1 q2
  · exact h4 (by rw [Lib.size_eq]; exact h)
theorem UntL.end_ {D f a : List UInt8} {i k : Nat} (h : UntL D f i k a) (hk : k = D.length) : D.drop i = a := by
  rw [h.eq, hk, List.drop_length, List.append_nil]
theorem UntL.cons {D f a : List UInt8} {i k : Nat} (h : UntL D f i k a) (hk : k < D.length) : D.drop i = a ++ D[k] :: D.drop (k + 1) := by
  rw [h.eq, List.drop_eq_getElem_cons hk]
end Go.Proofs.YtkmopneeafbeaaaDoor.Pt
namespace Go.Proofs.YtkmopneeafbeaaaDoor.Pt
open Go F0

theorem ltr_blanks {b : List UInt8} (hb : ∀ x ∈ b, blk x = true) (a : List UInt8) : ltr (b ++ a) = ltr a := by
  induction b with
  | nil => rfl
  | cons x b ih => rw [List.cons_append, ltr_yes (hb x (by simp)), ih (fun y hy => hb y (by simp [hy]))]
theorem small_blanks {b : List UInt8} (hb : ∀ x ∈ b, blk x = true) (a : List UInt8) : smallL (b ++ a) = smallL a := by
  unfold smallL
  rw [← trim_eq, ltr_blanks hb, trim_eq]
theorem ltrL_eq (l : List UInt8) : ltrL l = ltr l := rfl
theorem blk_noEq {x : UInt8} (h : blk x = true) : isEq x = false := by
  rw [blk_eq, Bool.or_eq_true, beq_iff_eq, beq_iff_eq] at h
  rcases h with rfl | rfl <;> rfl
/-- Blanks that are gone by: from i0 to i. -/
def BlkTo (D : List UInt8) (i0 i : Nat) : Prop := i0 ≤ i ∧ i ≤ D.length ∧ ∃ b, D.drop i0 = b ++ D.drop i ∧ ∀ x ∈ b, blk x = true
theorem BlkTo.start (D : List UInt8) (i : Nat) (h : i ≤ D.length) : BlkTo D i i := ⟨Nat.le_refl _, h, [], rfl, by simp⟩
theorem BlkTo.step {D : List UInt8} {i0 i : Nat} (h : BlkTo D i0 i) (hi : i < D.length) (hb : blk D[i] = true) : BlkTo D i0 (i + 1) := by
  obtain ⟨h1, h2, b, h3, h4⟩ := h
  refine ⟨by omega, hi, b ++ [D[i]], ?_, ?_⟩
  · rw [h3, List.drop_eq_getElem_cons hi]; simp
  · intro x hx
    rcases List.mem_append.1 hx with hx | hx
    · exact h4 x hx
    · rw [List.mem_singleton] at hx; rw [hx]; exact hb
/-- Where no blank stands. -/
def NoBlk (D : List UInt8) (i : Nat) : Prop := ∀ h : i < D.length, blk D[i] = false
theorem BlkTo.ltr_ {D : List UInt8} {i0 i : Nat} (h : BlkTo D i0 i) (hn : NoBlk D i) : ltrL (D.drop i0) = D.drop i := by
  obtain ⟨h1, h2, b, h3, h4⟩ := h
  rw [ltrL_eq, h3, ltr_blanks h4]
  by_cases hi : i < D.length
  · rw [List.drop_eq_getElem_cons hi, ltr_no (hn hi)]
  · rw [List.drop_of_length_le (by omega)]; rfl
theorem mem_eqs {c : UInt8} : c ∈ ([61, 59] : List UInt8) ↔ isEq c = true := by
  unfold isEq
  rw [Bool.or_eq_true, beq_iff_eq, beq_iff_eq]
  simp
theorem noeqs {a : List UInt8} (h : ∀ x ∈ a, x ∉ ([61, 59] : List UInt8)) : ∀ x ∈ a, isEq x = false := fun x hx => by
  cases hq : isEq x
  · rfl
  · exact absurd (mem_eqs.2 hq) (h x hx)
theorem nosemi {a : List UInt8} (h : ∀ x ∈ a, x ∉ ([59] : List UInt8)) : ∀ x ∈ a, x ≠ 59 := fun x hx e => h x hx (by rw [e]; simp)
/-- What stands behind a place, if a semicolon is there. -/
def restO (D : List UInt8) (k : Nat) : Option (List UInt8) := if k < D.length then some (D.drop (k + 1)) else none
/-- The name up to a sign of equality, a semicolon, or the end. -/
structure NameTo (D : List UInt8) (k e : Nat) (nm : List UInt8) : Prop where
  lt : k < e
  le : e ≤ D.length
  pre : ∃ a, (∀ x ∈ a, isEq x = false) ∧ D.drop (k + 1) = a ++ D.drop e ∧ nm = smallL a
theorem NameTo.mk' {D : List UInt8} {k i e : Nat} {a : List UInt8} (hb : BlkTo D (k + 1) i) (hu : UntL D [61, 59] i e a) : NameTo D k e (smallL a) := by
  obtain ⟨h1, h2, b, h3, h4⟩ := hb
  have hge := hu.ge
  refine ⟨by omega, hu.le, b ++ a, ?_, ?_, (small_blanks h4 a).symm⟩
  · intro x hx
    rcases List.mem_append.1 hx with hx | hx
    · exact blk_noEq (h4 x hx)
    · exact noeqs hu.no x hx
  · rw [h3, hu.eq, List.append_assoc]
/-- A parameter that is read, and the place behind it. -/
def Nx (D : List UInt8) (k k' : Nat) (nm vl : List UInt8) : Prop := k < k' ∧ k' ≤ D.length ∧ (∀ h : k' < D.length, D[k'] = 59) ∧ nextL (D.drop (k + 1)) = ((nm, vl), restO D k')
theorem rest_end (D : List UInt8) : restO D D.length = none := by unfold restO; rw [if_neg (by omega)]
theorem rest_at {D : List UInt8} {k : Nat} (h : k < D.length) : restO D k = some (D.drop (k + 1)) := by unfold restO; rw [if_pos h]
theorem nx_end {D : List UInt8} {k e : Nat} {nm : List UInt8} (h : NameTo D k e nm) (he : e = D.length) : Nx D k e nm [] := by
  obtain ⟨h1, h2, a, h3, h4, rfl⟩ := h
  subst he
  refine ⟨h1, Nat.le_refl _, fun h => by omega, ?_⟩
  rw [List.drop_length, List.append_nil] at h4
  rw [h4, next_none h3, rest_end]
theorem nx_semi {D : List UInt8} {k e : Nat} {nm : List UInt8} (h : NameTo D k e nm) (he : e < D.length) (hc : D[e] = 59) : Nx D k e nm [] := by
  obtain ⟨h1, h2, a, h3, h4, rfl⟩ := h
  refine ⟨h1, h2, fun _ => hc, ?_⟩
  rw [List.drop_eq_getElem_cons he, hc] at h4
  rw [h4, next_semi _ h3, rest_at he]
theorem nx_empty {D : List UInt8} {k e i : Nat} {nm : List UInt8} (h : NameTo D k e nm) (he : e < D.length) (hc : D[e] = 61) (hb : BlkTo D (e + 1) i) (hi : i = D.length) : Nx D k D.length nm [] := by
  obtain ⟨h1, h2, a, h3, h4, rfl⟩ := h
  refine ⟨by omega, Nat.le_refl _, fun h => by omega, ?_⟩
  rw [List.drop_eq_getElem_cons he, hc] at h4
  have hl := hb.ltr_ (fun h => by omega)
  rw [hi, List.drop_length] at hl
  rw [h4, next_empty h3 hl, rest_end]
theorem nx_value {D : List UInt8} {k e i k' : Nat} {nm v : List UInt8} (h : NameTo D k e nm) (he : e < D.length) (hc : D[e] = 61) (hb : BlkTo D (e + 1) i) (hn : NoBlk D i) (hi : i < D.length) (hq : D[i] ≠ 34) (hu : UntL D [59] i k' v) : Nx D k k' nm (trimL v) := by
  obtain ⟨h1, h2, a, h3, h4, rfl⟩ := h
  have hge := hu.ge
  have hb1 := hb.1
  rw [List.drop_eq_getElem_cons he, hc] at h4
  have hl := hb.ltr_ hn
  have hs := nosemi hu.no
  rw [List.drop_eq_getElem_cons hi] at hl
  refine ⟨by omega, hu.le, fun h => by have := hu.at_ h; simpa using this, ?_⟩
  by_cases hk : k' = D.length
  · have hv := hu.end_ hk
    rw [List.drop_eq_getElem_cons hi] at hv
    have hs2 := hs
    rw [← hv] at hs2 ⊢
    rw [h4, next_last h3 hl hq hs2, hk, rest_end]
  · have hk2 : k' < D.length := by have := hu.le; omega
    have hv := hu.cons hk2
    have h59 : D[k'] = 59 := by have := hu.at_ hk2; simpa using this
    rw [List.drop_eq_getElem_cons hi, h59] at hv
    rw [h4, next_value h3 hl hq hv hs, rest_at hk2]
/-- What the quoted text tells up to a place. -/
def UnqTo (D : List UInt8) (i0 i : Nat) (v : List UInt8) : Prop := i0 ≤ i ∧ i ≤ D.length ∧ unqL (D.drop i0) = (v ++ (unqL (D.drop i)).1, (unqL (D.drop i)).2)
theorem UnqTo.start (D : List UInt8) (i : Nat) (h : i ≤ D.length) : UnqTo D i i [] := ⟨Nat.le_refl _, h, rfl⟩
theorem UnqTo.byte {D : List UInt8} {i0 i : Nat} {v : List UInt8} (h : UnqTo D i0 i v) (hi : i < D.length) (h1 : D[i] ≠ 34) (h2 : D[i] ≠ 92 ∨ i + 1 = D.length) : UnqTo D i0 (i + 1) (v ++ [D[i]]) := by
  obtain ⟨q1, q2, q3⟩ := h
  refine ⟨by omega, hi, ?_⟩
  rw [q3]
  have hd := List.drop_eq_getElem_cons hi
  rcases h2 with h2 | h2
  · rw [hd, unq_byte h1 h2]; simp
  · rw [hd, h2, List.drop_length, unq_one h1]; simp [unqL]
theorem UnqTo.esc {D : List UInt8} {i0 i : Nat} {v : List UInt8} (h : UnqTo D i0 i v) (hi : i + 1 < D.length) (h2 : D[i]'(by omega) = 92) : UnqTo D i0 (i + 2) (v ++ [D[i + 1]]) := by
  obtain ⟨q1, q2, q3⟩ := h
  refine ⟨by omega, hi, ?_⟩
  rw [q3]
  have hd := List.drop_eq_getElem_cons (show i < D.length by omega)
  rw [hd, h2, List.drop_eq_getElem_cons hi, unq_esc]
  simp
/-- The end of a quoted text: its mark, or the end of all. -/
theorem UnqTo.done {D : List UInt8} {i0 i : Nat} {v : List UInt8} (h : UnqTo D i0 i v) (he : ∀ hi : i < D.length, D[i] = 34) : unqL (D.drop i0) = (v, D.drop (min (i + 1) D.length)) := by
  obtain ⟨q1, q2, q3⟩ := h
  rw [q3]
  by_cases hi : i < D.length
  · rw [List.drop_eq_getElem_cons hi, he hi, unq_quote, Nat.min_eq_left hi]; simp
  · rw [Nat.min_eq_right (by omega), List.drop_length, List.drop_of_length_le (by omega)]; simp [unqL]
theorem nx_quote {D : List UInt8} {k e i i3 k' : Nat} {nm v a2 : List UInt8} (h : NameTo D k e nm) (he : e < D.length) (hc : D[e] = 61) (hb : BlkTo D (e + 1) i) (hi : i < D.length) (hq : D[i] = 34)
    (hv : UnqTo D (i + 1) i3 v) (hd : ∀ h : i3 < D.length, D[i3] = 34) (hu : UntL D [59] (min (i3 + 1) D.length) k' a2) : Nx D k k' nm v := by
  obtain ⟨h1, h2, a, h3, h4, rfl⟩ := h
  have hge := hu.ge
  have hb1 := hb.1
  have hv1 := hv.1
  rw [List.drop_eq_getElem_cons he, hc] at h4
  have hl := hb.ltr_ (fun _ => by rw [hq]; decide)
  rw [List.drop_eq_getElem_cons hi, hq] at hl
  have hw := hv.done hd
  refine ⟨by omega, hu.le, fun h => by have := hu.at_ h; simpa using this, ?_⟩
  rw [h4, next_quote h3 hl, hw]
  by_cases hk : k' = D.length
  · have hx := hu.end_ hk
    simp only
    rw [hx, cutL_none (nosemi hu.no), hk, rest_end]
    rfl
  · have hk2 : k' < D.length := by have := hu.le; omega
    have hx := hu.cons hk2
    have h59 : D[k'] = 59 := by have := hu.at_ hk2; simpa using this
    rw [h59] at hx
    simp only
    rw [hx, cutL_some _ (nosemi hu.no), rest_at hk2]
    rfl
/-- The parameters from a place on. -/
def parO (D : List UInt8) (k : Nat) : List Fl := match restO D k with
  | none => []
  | some r => paramsL r
theorem par_end (D : List UInt8) : parO D D.length = [] := by unfold parO; rw [rest_end]
theorem par_step {D : List UInt8} {k k' : Nat} {nm vl : List UInt8} (hk : k < D.length) (h : Nx D k k' nm vl) : parO D k = keepL (nm, vl) ++ parO D k' := by
  obtain ⟨h1, h2, h3, h4⟩ := h
  unfold parO
  rw [rest_at hk]
  show paramsL (D.drop (k + 1)) = _
  cases hr : restO D k' with
  | none => rw [hr] at h4; rw [params_last h4]; simp
  | some r => rw [hr] at h4; rw [params_next h4]
theorem values_par {D a : List UInt8} {k : Nat} (hu : UntL D [59] 0 k a) : valuesL D = (smallL a, parO D k) := by
  by_cases hk : k = D.length
  · have := hu.end_ hk
    rw [List.drop_zero] at this
    rw [hk, par_end, this, values_none (nosemi hu.no)]
  · have hk2 : k < D.length := by have := hu.le; omega
    have h59 : D[k] = 59 := by have := hu.at_ hk2; simpa using this
    have hx := hu.cons hk2
    rw [List.drop_zero, h59] at hx
    unfold parO
    rw [rest_at hk2]
    conv => lhs; rw [hx]
    rw [values_some _ (nosemi hu.no)]
end Go.Proofs.YtkmopneeafbeaaaDoor.Pt
namespace Go.Proofs.YtkmopneeafbeaaaDoor.Pt
open Go Go.RowKit Go.Joins Kit F0

theorem rfold2 (l : List UInt8) (w : World) (hs : l.length ≤ 140737488351232) :
    Calls Tryd.prog 23 #[.string ⟨l.toArray⟩] w fun e w' => e = .returned (.string ⟨(Tx.foldL l).toArray⟩) ∧ Below w.heap.size w w' := Rf.fold_call ⟨l.toArray⟩ w (by rw [Lib.size_mk]; omega)
theorem ext_sp (s : ByteArray) (k t : Nat) : (s.extract k t).data.toList = (s.data.toList.take t).drop k := by rw [← Lib.toList_data, Lib.extract_toList, List.drop_take]

theorem fset1 {w : World} {G : Nat} {a b : Value} (d : Value) (h : w.heap[G]? = some (.cells #[a, b] 44 (0, 0))) : (w.setCell ⟨G, 1, none⟩ d).heap[G]? = some (.cells #[a, d] 44 (0, 0)) := by
  simp [World.setCell, Array.getElem?_modify, h]

set_option maxHeartbeats 4000000 in
set_option maxRecDepth 100000 in
theorem rvalues_any (s : ByteArray) (w : World) (hs : s.size ≤ 1073741824) :
    Calls Tryd.prog 11 #[.string s] w fun e w' => ∃ v, e = .returned (.tuple #[sV (valuesL s.data.toList).1, v]) ∧ RowF w.heap.size v (valuesL s.data.toList).2 w' ∧ Below w.heap.size w w' := by
  obtain ⟨VL, hVL⟩ : ∃ VL, valuesL s.data.toList = VL := ⟨_, rfl⟩
  rw [hVL]
  have HVL := Lib.hid hVL
  have HSL := Lib.hid (Lib.size_eq s)
  clear hVL
  go_enter Tryd.func11, Tryd.ntmps11
  go_wp2_with fail
  refine (until_any s [59] (Or.inl rfl) 0 (Nat.zero_le _) w (by omega)).mono ?_
  rintro e w1 ⟨rfl, k0, hk0, hk1, rfl, hno, hat⟩
  have HU := Lib.hid (UntL.mk' hk0 hk1 hno hat)
  have HVP := Lib.hid (values_par HU.out)
  have HX := Lib.hid (ext_sp s 0 k0)
  clear hno hat
  have hk1' : (k0 : Int) ≤ (s.size : Int) := by omega
  go_wp2_with fail
  refine (rtrim_any (s.extract 0 k0) w (by rw [ByteArray.size_extract]; omega)).mono ?_
  rintro e w1 ⟨rfl, rfl⟩
  rw [HX.out, List.drop_zero]
  have HTL : Hid ((trimL (s.data.toList.take k0)).length ≤ 1073741824) := Lib.hid (by
    have h1 := trimL_le (s.data.toList.take k0)
    rw [List.length_take, ← Lib.size_eq] at h1
    omega)
  unfold sV
  go_wp2_with fail
  refine (rfold2 (trimL (s.data.toList.take k0)) w (by have := HTL.out; omega)).mono ?_
  rintro e w1 ⟨rfl, hb1⟩
  have HW : Hid (VL = (smallL (s.data.toList.take k0), parO s.data.toList k0)) := Lib.hid (by rw [← HVL.out, HVP.out, List.drop_zero])
  have HSM : Hid (Tx.foldL (trimL (s.data.toList.take k0)) = VL.1) := Lib.hid (by rw [HW.out]; rfl)
  rw [HSM.out]
  obtain ⟨W1, hW1⟩ : ∃ W1 : ByteArray, (⟨VL.1.toArray⟩ : ByteArray) = W1 := ⟨_, rfl⟩
  rw [hW1]
  have HB1 := Lib.hid hb1
  have H0 : Hid (k0 < s.size → s.data.toList[k0]? = some 59) := Lib.hid (fun h => by
    have h2 : k0 < s.data.toList.length := by rw [← Lib.size_eq]; exact h
    have := HU.out.at_ h2
    rw [List.mem_singleton] at this
    rw [List.getElem?_eq_getElem h2, this])
  have HPA : Hid ([] ++ parO s.data.toList k0 = VL.2) := Lib.hid (by rw [HW.out]; rfl)
  have HW1 := Lib.hid hW1
  clear hW1 hb1
  go_wp2_with fail
  go_loopw [4, 6] (fun kv fv wr => ∃ (k : Nat) (fs : List Fl), kv = .int .i64 (k : Int) ∧ k ≤ s.size ∧ fs.length ≤ k ∧ Hid (k < s.size → s.data.toList[k]? = some 59) ∧ Hid (fs ++ parO s.data.toList k = VL.2) ∧ RowF w.heap.size fv fs wr ∧ Below w.heap.size w wr) (fun kv _ _ => s.size - (intOf kv).toNat)
  case atStart => exact ⟨k0, [], rfl, hk1, Nat.zero_le _, H0, HPA, RowF.new _ _, HB1.out⟩
  case round =>
    obtain ⟨k, fs, rfl, hk, hfl, hsemi, hpar, hrow, hb⟩ := hrel
    obtain ⟨va, vc, rfl⟩ := hrow.form
    have HR := Lib.hid (And.intro hrow hb)
    clear hrow hb
    by_cases hlt : k < s.size
    · have g1 : (k : Int) < (s.size : Int) := by omega
      go_upto_block 2 with fail
      go_cut [7] from 24 to 41 (fun j wx => ∃ i : Nat, j = .int .i64 (i : Int) ∧ i ≤ s.size ∧ Hid (BlkTo s.data.toList (k + 1) i) ∧ Hid (NoBlk s.data.toList i) ∧ wr = wx)
      case first =>
        go_wp2_with fail
        go_loop [7] (fun j => ∃ i : Nat, j = .int .i64 (i : Int) ∧ i ≤ s.size ∧ Hid (BlkTo s.data.toList (k + 1) i)) (fun j => s.size - (intOf j).toNat)
        case atStart => exact ⟨k + 1, by go_num, (show k + 1 ≤ s.size by omega), Lib.hid (BlkTo.start _ _ (by rw [← Lib.size_eq]; exact (show k + 1 ≤ s.size by omega)))⟩
        case round =>
          obtain ⟨i, rfl, hi, hbk⟩ := hrel
          by_cases hil : i < s.size
          · have g3 : (i : Int) < (s.size : Int) := by omega
            have HIL : Hid (i < s.data.toList.length ∧ True) := Lib.hid ⟨by rw [← Lib.size_eq]; exact hil, trivial⟩
            have HBG : Hid (s.data.toList[i]'(HIL.out.1) = s[i]) := Lib.hid (Kit.byte_get s i hil)
            cases hbc : blk s[i]
            · have HNB : Hid (NoBlk s.data.toList i) := Lib.hid (fun h => by rw [HBG.out]; exact hbc)
              rw [blk_eq] at hbc
              have n1 : s[i].toNat ≠ 32 := fun e => by rw [show s[i] = 32 from UInt8.toNat_inj.1 e] at hbc; cases hbc
              have n2 : s[i].toNat ≠ 9 := fun e => by rw [show s[i] = 9 from UInt8.toNat_inj.1 e] at hbc; cases hbc
              have q1 : ((s[i].toNat : Int) == 32) = false := by rw [beq_eq_false_iff_ne]; omega
              have q2 : ((s[i].toNat : Int) == 9) = false := by rw [beq_eq_false_iff_ne]; omega
              have q3 : ¬ (s[i].toNat : Int) = 32 := by omega
              clear hbc n1 n2
              go_wp2_with fail
              go_meet
              exact ⟨i, rfl, hi, hbk, HNB, rfl⟩
            · have HBK : Hid (BlkTo s.data.toList (k + 1) (i + 1)) := Lib.hid (hbk.out.step HIL.out.1 (by rw [HBG.out]; exact hbc))
              rw [blk_eq, Bool.or_eq_true, beq_iff_eq, beq_iff_eq] at hbc
              by_cases h32 : s[i] = 32
              · have q1 : ((s[i].toNat : Int) == 32) = true := by rw [h32]; rfl
                have q3 : (s[i].toNat : Int) = 32 := by rw [h32]; rfl
                clear hbc h32
                go_wp2_with fail
                go_round
                case rel => exact ⟨i + 1, by go_num, by omega, HBK⟩
                case measure => simp [intOf]; omega
              · have h9 : s[i] = 9 := by
                  rcases hbc with e | e
                  · exact absurd e h32
                  · exact e
                have n1 : s[i].toNat ≠ 32 := fun e => h32 (UInt8.toNat_inj.1 e)
                have q1 : ((s[i].toNat : Int) == 32) = false := by rw [beq_eq_false_iff_ne]; omega
                have q2 : ((s[i].toNat : Int) == 9) = true := by rw [h9]; rfl
                have q3 : ¬ (s[i].toNat : Int) = 32 := by omega
                clear h32 hbc n1 h9
                go_wp2_with fail
                go_round
                case rel => exact ⟨i + 1, by go_num, by omega, HBK⟩
                case measure => simp [intOf]; omega
          · have g3 : ¬ (i : Int) < (s.size : Int) := by omega
            have HNB : Hid (NoBlk s.data.toList i) := Lib.hid (fun h => by rw [← Lib.size_eq] at h; exact absurd h hil)
            go_wp2_with fail
            go_meet
            exact ⟨i, rfl, hi, hbk, HNB, rfl⟩
      case rest =>
        obtain ⟨i, rfl, hi, HBK, HNB, rfl⟩ := hcut
        have HIK : Hid (k + 1 ≤ i) := Lib.hid HBK.out.1
        go_wp2_with fail
        refine (until_any s [61, 59] (Or.inr (Or.inl rfl)) i hi wr (by omega)).mono ?_
        rintro e w2 ⟨rfl, e0, he0, he1, rfl, hno, hat⟩
        have HU := Lib.hid (UntL.mk' he0 he1 hno hat)
        have HX := Lib.hid (ext_sp s i e0)
        have HNM := Lib.hid (NameTo.mk' HBK.out HU.out)
        have HAT : Hid (∀ h : e0 < s.size, s[e0] = 61 ∨ s[e0] = 59) := Lib.hid (fun h => by have := hat h; simpa using this)
        clear hno hat
        have hie : (i : Int) ≤ (e0 : Int) := by omega
        have hes : (e0 : Int) ≤ (s.size : Int) := by omega
        obtain ⟨X, hX⟩ : ∃ X, s.extract i e0 = X := ⟨_, rfl⟩
        rw [hX] at HX
        have hXs : X.size ≤ 1073741824 := by rw [← hX, ByteArray.size_extract]; omega
        obtain ⟨A, hA⟩ : ∃ A, (s.data.toList.take e0).drop i = A := ⟨_, rfl⟩
        rw [hA] at HX HNM
        clear hA
        go_wp2_with fail
        refine (rtrim_any X wr (by omega)).mono ?_
        rintro e w2 ⟨rfl, rfl⟩
        rw [HX.out]
        have HTL : Hid ((trimL A).length ≤ 1073741824) := Lib.hid (by
          have h1 := trimL_le A
          rw [← HX.out, ← Lib.size_eq] at h1
          rw [← HX.out]
          omega)
        unfold sV
        go_wp2_with fail
        refine (rfold2 (trimL A) wr (by have := HTL.out; omega)).mono ?_
        rintro e w2 ⟨rfl, hb2⟩
        obtain ⟨nm, hnm⟩ : ∃ nm, Tx.foldL (trimL A) = nm := ⟨_, rfl⟩
        have HNM2 : Hid (NameTo s.data.toList k e0 nm) := Lib.hid (by rw [← hnm]; exact HNM.out)
        rw [hnm]
        clear hnm hX
        have HB2 := Lib.hid hb2
        clear hb2 HNM HTL
        have HBLK := Lib.hid (Kit.fresh_block w2 #[.string ⟨nm.toArray⟩, .string ⟨#[]⟩] 44)
        have HBA : Hid (Below w2.heap.size w2 (w2.alloc (.cells #[.string ⟨nm.toArray⟩, .string ⟨#[]⟩] 44))) := Lib.hid ((Below.refl _ w2).alloc (Nat.le_refl _) _)
        obtain ⟨W3, hW3⟩ : ∃ W3, w2.alloc (.cells #[.string ⟨nm.toArray⟩, .string ⟨#[]⟩] 44) = W3 := ⟨_, rfl⟩
        rw [hW3] at HBLK HBA
        have HW3 := Lib.hid hW3
        clear hW3
        go_upto_region 11 with fail
        rw [HW3.out]
        obtain ⟨G, hG⟩ : ∃ G, w2.heap.size = G := ⟨_, rfl⟩
        rw [hG] at HBLK HBA ⊢
        have HG := Lib.hid hG
        clear hG
        have hke : k < e0 := HNM2.out.lt
        go_cut [62] from 53 to 61 (fun tv wx => ∃ B : Bool, tv = .bool B ∧ Hid (B = true → ∃ h : e0 < s.size, s[e0] = 61) ∧ Hid (B = false → ∀ h : e0 < s.size, s[e0] = 59) ∧ W3 = wx)
        case first =>
          by_cases hel : e0 < s.size
          · have g2 : (e0 : Int) < (s.size : Int) := by omega
            rcases HAT.out hel with h61 | h59
            · have q1 : ((s[e0].toNat : Int) == 61) = true := by rw [h61]; rfl
              have q2 : (s[e0].toNat : Int) = 61 := by rw [h61]; rfl
              have HH := Lib.hid h61
              clear h61
              go_wp2_with fail
              go_meet
              exact ⟨true, rfl, Lib.hid (fun _ => ⟨hel, HH.out⟩), Lib.hid (fun h => by cases h), rfl⟩
            · have q1 : ((s[e0].toNat : Int) == 61) = false := by rw [h59]; rfl
              have q2 : ¬ (s[e0].toNat : Int) = 61 := by rw [h59]; decide
              have HH := Lib.hid h59
              clear h59
              go_wp2_with fail
              go_meet
              exact ⟨false, rfl, Lib.hid (fun h => by cases h), Lib.hid (fun _ _ => HH.out), rfl⟩
          · have g2 : ¬ (e0 : Int) < (s.size : Int) := by omega
            go_wp2_with fail
            go_meet
            exact ⟨false, rfl, Lib.hid (fun h => by cases h), Lib.hid (fun _ h => absurd h hel), rfl⟩
        case rest =>
        obtain ⟨B, rfl, HBT, HBF, rfl⟩ := hcut
        go_upto_if 62 with fail
        go_cut [4, 7, 10] from 63 to 144 (fun kv _ _ wx => ∃ (k2 : Nat) (vl : List UInt8), kv = .int .i64 (k2 : Int) ∧ k < k2 ∧ k2 ≤ s.size ∧ Hid (Nx s.data.toList k k2 nm vl) ∧ Hid (wx.heap[G]? = some (.cells #[.string ⟨nm.toArray⟩, .string ⟨vl.toArray⟩] 44 (0, 0))) ∧ Hid (Below G w2 wx))
        case first =>
          cases B
          · by_cases hel : e0 < s.size
            · have HEL : Hid (e0 < s.data.toList.length ∧ True) := Lib.hid ⟨by rw [← Lib.size_eq]; exact hel, trivial⟩
              have HE59 : Hid (s.data.toList[e0]'(HEL.out.1) = 59) := Lib.hid (by rw [Kit.byte_get s e0 hel]; exact HBF.out rfl hel)
              go_wp2_with fail
              go_meet
              exact ⟨e0, [], rfl, hke, he1, Lib.hid (nx_semi HNM2.out HEL.out.1 HE59.out), HBLK, HBA⟩
            · have HEE : Hid (e0 = s.data.toList.length) := Lib.hid (by rw [← Lib.size_eq]; omega)
              go_wp2_with fail
              go_meet
              exact ⟨e0, [], rfl, hke, he1, Lib.hid (nx_end HNM2.out HEE.out), HBLK, HBA⟩
          · obtain ⟨hel, h61⟩ := HBT.out rfl
            have g2 : (e0 : Int) < (s.size : Int) := by omega
            have HEL : Hid (e0 < s.data.toList.length ∧ True) := Lib.hid ⟨by rw [← Lib.size_eq]; exact hel, trivial⟩
            have HE61 : Hid (s.data.toList[e0]'(HEL.out.1) = 61) := Lib.hid (by rw [Kit.byte_get s e0 hel]; exact h61)
            clear h61
            go_upto_block 4 with fail
            go_cut [7] from 65 to 82 (fun j wx => ∃ i : Nat, j = .int .i64 (i : Int) ∧ i ≤ s.size ∧ Hid (BlkTo s.data.toList (e0 + 1) i) ∧ Hid (NoBlk s.data.toList i) ∧ W3 = wx)
            case first =>
              go_wp2_with fail
              go_loop [7] (fun j => ∃ i : Nat, j = .int .i64 (i : Int) ∧ i ≤ s.size ∧ Hid (BlkTo s.data.toList (e0 + 1) i)) (fun j => s.size - (intOf j).toNat)
              case atStart => exact ⟨e0 + 1, by go_num, (show e0 + 1 ≤ s.size by omega), Lib.hid (BlkTo.start _ _ (by rw [← Lib.size_eq]; exact (show e0 + 1 ≤ s.size by omega)))⟩
              case round =>
                obtain ⟨i, rfl, hi, hbk⟩ := hrel
                by_cases hil : i < s.size
                · have g3 : (i : Int) < (s.size : Int) := by omega
                  have HIL : Hid (i < s.data.toList.length ∧ True) := Lib.hid ⟨by rw [← Lib.size_eq]; exact hil, trivial⟩
                  have HBG : Hid (s.data.toList[i]'(HIL.out.1) = s[i]) := Lib.hid (Kit.byte_get s i hil)
                  cases hbc : blk s[i]
                  · have HNB : Hid (NoBlk s.data.toList i) := Lib.hid (fun h => by rw [HBG.out]; exact hbc)
                    rw [blk_eq] at hbc
                    have n1 : s[i].toNat ≠ 32 := fun e => by rw [show s[i] = 32 from UInt8.toNat_inj.1 e] at hbc; cases hbc
                    have n2 : s[i].toNat ≠ 9 := fun e => by rw [show s[i] = 9 from UInt8.toNat_inj.1 e] at hbc; cases hbc
                    have q1 : ((s[i].toNat : Int) == 32) = false := by rw [beq_eq_false_iff_ne]; omega
                    have q2 : ((s[i].toNat : Int) == 9) = false := by rw [beq_eq_false_iff_ne]; omega
                    have q3 : ¬ (s[i].toNat : Int) = 32 := by omega
                    clear hbc n1 n2
                    go_wp2_with fail
                    go_meet
                    exact ⟨i, rfl, hi, hbk, HNB, rfl⟩
                  · have HBK : Hid (BlkTo s.data.toList (e0 + 1) (i + 1)) := Lib.hid (hbk.out.step HIL.out.1 (by rw [HBG.out]; exact hbc))
                    rw [blk_eq, Bool.or_eq_true, beq_iff_eq, beq_iff_eq] at hbc
                    by_cases h32 : s[i] = 32
                    · have q1 : ((s[i].toNat : Int) == 32) = true := by rw [h32]; rfl
                      have q3 : (s[i].toNat : Int) = 32 := by rw [h32]; rfl
                      clear hbc h32
                      go_wp2_with fail
                      go_round
                      case rel => exact ⟨i + 1, by go_num, by omega, HBK⟩
                      case measure => simp [intOf]; omega
                    · have h9 : s[i] = 9 := by
                        rcases hbc with e | e
                        · exact absurd e h32
                        · exact e
                      have n1 : s[i].toNat ≠ 32 := fun e => h32 (UInt8.toNat_inj.1 e)
                      have q1 : ((s[i].toNat : Int) == 32) = false := by rw [beq_eq_false_iff_ne]; omega
                      have q2 : ((s[i].toNat : Int) == 9) = true := by rw [h9]; rfl
                      have q3 : ¬ (s[i].toNat : Int) = 32 := by omega
                      clear h32 hbc n1 h9
                      go_wp2_with fail
                      go_round
                      case rel => exact ⟨i + 1, by go_num, by omega, HBK⟩
                      case measure => simp [intOf]; omega
                · have g3 : ¬ (i : Int) < (s.size : Int) := by omega
                  have HNB : Hid (NoBlk s.data.toList i) := Lib.hid (fun h => by rw [← Lib.size_eq] at h; exact absurd h hil)
                  go_wp2_with fail
                  go_meet
                  exact ⟨i, rfl, hi, hbk, HNB, rfl⟩
            case rest =>
              obtain ⟨i2, rfl, hi2, HBK2, HNB2, rfl⟩ := hcut
              have HIE : Hid (e0 + 1 ≤ i2) := Lib.hid HBK2.out.1
              obtain ⟨hit, hhit⟩ : ∃ b : Bool, decide (∃ h : i2 < s.size, s[i2] = 34) = b := ⟨_, rfl⟩
              cases hit
              · have hno34 : ∀ h : i2 < s.size, s[i2] ≠ 34 := fun h e => by
                  have := of_decide_eq_false hhit
                  exact this ⟨h, e⟩
                have HN34 := Lib.hid hno34
                clear hhit
                have HWAY : Hid (∀ (k2 : Nat) (hk2 : UntL s.data.toList [59] i2 k2 ((s.data.toList.take k2).drop i2)), Nx s.data.toList k k2 nm (trimL ((s.data.toList.take k2).drop i2))) := Lib.hid (fun k2 hk2 => by
                  by_cases h : i2 < s.size
                  · have h2 : i2 < s.data.toList.length := by rw [← Lib.size_eq]; exact h
                    exact nx_value HNM2.out HEL.out.1 HE61.out HBK2.out HNB2.out h2 (by rw [Kit.byte_get s i2 h]; exact HN34.out h) hk2
                  · have h2 : i2 = s.data.toList.length := by rw [← Lib.size_eq]; omega
                    have h3 : k2 = s.data.toList.length := by have a1 := hk2.ge; have a2 := hk2.le; omega
                    have h4 : (s.data.toList.take k2).drop i2 = [] := List.drop_of_length_le (by rw [List.length_take]; omega)
                    rw [h4, h3]
                    exact nx_empty HNM2.out HEL.out.1 HE61.out HBK2.out h2)
                have HSTEP : Hid (∀ (k2 : Nat), UntL s.data.toList [59] i2 k2 ((s.data.toList.take k2).drop i2) → k < k2) := Lib.hid (fun k2 hk2 => by
                  have a1 := hk2.ge
                  have a2 := HIE.out
                  omega)
                by_cases hil2 : i2 < s.size
                · have g4 : (i2 : Int) < (s.size : Int) := by omega
                  have n1 : s[i2].toNat ≠ 34 := fun e => hno34 hil2 (UInt8.toNat_inj.1 e)
                  have q3 : ((s[i2].toNat : Int) == 34) = false := by rw [beq_eq_false_iff_ne]; omega
                  have q4 : ¬ (s[i2].toNat : Int) = 34 := by omega
                  clear n1 hno34
                  go_wp2_with fail
                  refine (until_any s [59] (Or.inl rfl) i2 hi2 W3 (by omega)).mono ?_
                  rintro e w4 ⟨rfl, k2, hk20, hk21, rfl, hno, hat⟩
                  have HU2 := Lib.hid (UntL.mk' hk20 hk21 hno hat)
                  have HX2 := Lib.hid (ext_sp s i2 k2)
                  clear hno hat
                  have hk2a : (i2 : Int) ≤ (k2 : Int) := by omega
                  have hk2b : (k2 : Int) ≤ (s.size : Int) := by omega
                  go_wp2_with fail
                  refine (rtrim_any (s.extract i2 k2) W3 (by rw [ByteArray.size_extract]; omega)).mono ?_
                  rintro e w4 ⟨rfl, rfl⟩
                  rw [HX2.out]
                  obtain ⟨vl, hvl⟩ : ∃ vl, trimL ((s.data.toList.take k2).drop i2) = vl := ⟨_, rfl⟩
                  have HNX := Lib.hid (HWAY.out k2 HU2.out)
                  rw [hvl] at HNX ⊢
                  clear hvl
                  have hkk := HSTEP.out k2 HU2.out
                  have HBL := Lib.hid (fset1 (.string ⟨vl.toArray⟩) HBLK.out)
                  have HBW := Lib.hid (HBA.out.setCell (p := ⟨G, 1, none⟩) (Nat.le_refl _) (.string ⟨vl.toArray⟩))
                  have c1 : W3.cell? ⟨G, 1, none⟩ = some (.string ⟨#[]⟩) := by rw [Lib.cell_of_heap HBLK.out]; rfl
                  have f1 := Lib.frozen_of_heap HBLK.out 1
                  unfold sV
                  go_wp2_with fail
                  go_meet
                  exact ⟨k2, vl, rfl, hkk, hk21, HNX, HBL, HBW⟩
                · have g4 : ¬ (i2 : Int) < (s.size : Int) := by omega
                  clear hno34
                  go_wp2_with fail
                  refine (until_any s [59] (Or.inl rfl) i2 hi2 W3 (by omega)).mono ?_
                  rintro e w4 ⟨rfl, k2, hk20, hk21, rfl, hno, hat⟩
                  have HU2 := Lib.hid (UntL.mk' hk20 hk21 hno hat)
                  have HX2 := Lib.hid (ext_sp s i2 k2)
                  clear hno hat
                  have hk2a : (i2 : Int) ≤ (k2 : Int) := by omega
                  have hk2b : (k2 : Int) ≤ (s.size : Int) := by omega
                  go_wp2_with fail
                  refine (rtrim_any (s.extract i2 k2) W3 (by rw [ByteArray.size_extract]; omega)).mono ?_
                  rintro e w4 ⟨rfl, rfl⟩
                  rw [HX2.out]
                  obtain ⟨vl, hvl⟩ : ∃ vl, trimL ((s.data.toList.take k2).drop i2) = vl := ⟨_, rfl⟩
                  have HNX := Lib.hid (HWAY.out k2 HU2.out)
                  rw [hvl] at HNX ⊢
                  clear hvl
                  have hkk := HSTEP.out k2 HU2.out
                  have HBL := Lib.hid (fset1 (.string ⟨vl.toArray⟩) HBLK.out)
                  have HBW := Lib.hid (HBA.out.setCell (p := ⟨G, 1, none⟩) (Nat.le_refl _) (.string ⟨vl.toArray⟩))
                  have c1 : W3.cell? ⟨G, 1, none⟩ = some (.string ⟨#[]⟩) := by rw [Lib.cell_of_heap HBLK.out]; rfl
                  have f1 := Lib.frozen_of_heap HBLK.out 1
                  unfold sV
                  go_wp2_with fail
                  go_meet
                  exact ⟨k2, vl, rfl, hkk, hk21, HNX, HBL, HBW⟩
              · obtain ⟨hil2, h34⟩ := of_decide_eq_true hhit
                clear hhit
                have g4 : (i2 : Int) < (s.size : Int) := by omega
                have q3 : ((s[i2].toNat : Int) == 34) = true := by rw [h34]; rfl
                have q4 : (s[i2].toNat : Int) = 34 := by rw [h34]; rfl
                have HI2 : Hid (i2 < s.data.toList.length ∧ True) := Lib.hid ⟨by rw [← Lib.size_eq]; exact hil2, trivial⟩
                have H34 : Hid (s.data.toList[i2]'(HI2.out.1) = 34) := Lib.hid (by rw [Kit.byte_get s i2 hil2]; exact h34)
                clear h34
                go_upto_block 6 with fail
                go_cut [7, 10] from 95 to 125 (fun j bv wx => ∃ (i3 : Nat) (l : List UInt8), j = .int .i64 (i3 : Int) ∧ i3 ≤ s.size ∧ Hid (i2 + 1 ≤ i3) ∧ Hid (UnqTo s.data.toList (i2 + 1) i3 l) ∧ Hid (∀ h : i3 < s.data.toList.length, s.data.toList[i3] = 34) ∧ Buf W3 bv l wx)
                case first =>
                  go_wp2_with fail
                  go_loopw [7, 10] (fun j bv wr => ∃ (i : Nat) (l : List UInt8), j = .int .i64 (i : Int) ∧ i ≤ s.size ∧ l.length ≤ i ∧ Hid (UnqTo s.data.toList (i2 + 1) i l) ∧ Buf W3 bv l wr) (fun j _ _ => s.size - (intOf j).toNat)
                  case atStart => exact ⟨i2 + 1, [], by go_num, hil2, Nat.zero_le _, Lib.hid (UnqTo.start _ _ (by rw [← Lib.size_eq]; exact hil2)), Buf.empty (Below.refl _ _)⟩
                  case round =>
                    obtain ⟨i, l, rfl, hi, hll, hun, hB⟩ := hrel
                    clear q3 q4
                    have HGE : Hid (i2 + 1 ≤ i) := Lib.hid hun.out.1
                    by_cases hil : i < s.size
                    · have g3 : (i : Int) < (s.size : Int) := by omega
                      have HIL : Hid (i < s.data.toList.length ∧ True) := Lib.hid ⟨by rw [← Lib.size_eq]; exact hil, trivial⟩
                      have HBG : Hid (s.data.toList[i]'(HIL.out.1) = s[i]) := Lib.hid (Kit.byte_get s i hil)
                      by_cases h34 : s[i] = 34
                      · have HD : Hid (∀ h : i < s.data.toList.length, s.data.toList[i] = 34) := Lib.hid (fun h => by rw [Kit.byte_get s i hil]; exact h34)
                        have q3 : ((s[i].toNat : Int) != 34) = false := by rw [h34]; rfl
                        have q4 : (s[i].toNat : Int) = 34 := by rw [h34]; rfl
                        clear h34
                        go_wp2_with fail
                        go_meet
                        exact ⟨i, l, rfl, hi, HGE, hun, HD, hB⟩
                      · have n1 : s[i].toNat ≠ 34 := fun e => h34 (UInt8.toNat_inj.1 e)
                        have H34 : Hid (s.data.toList[i]'(HIL.out.1) ≠ 34) := Lib.hid (by rw [HBG.out]; exact h34)
                        have q3 : ((s[i].toNat : Int) != 34) = true := by simp only [bne_iff_ne, ne_eq]; omega
                        have q4 : ¬ (s[i].toNat : Int) = 34 := by omega
                        clear h34 n1
                        by_cases h92 : s[i] = 92
                        · by_cases hn : i + 1 < s.size
                          · have g5 : (i : Int) + 1 < (s.size : Int) := by omega
                            have HNL : Hid (i + 1 < s.data.toList.length ∧ True) := Lib.hid ⟨by rw [← Lib.size_eq]; exact hn, trivial⟩
                            have HN1 : Hid (UnqTo s.data.toList (i2 + 1) (i + 2) (l ++ [s[i + 1]])) := Lib.hid (by
                              have := hun.out.esc HNL.out.1 (by rw [HBG.out]; exact h92)
                              rw [Kit.byte_get s (i + 1) hn] at this
                              exact this)
                            have q5 : ((s[i].toNat : Int) == 92) = true := by rw [h92]; rfl
                            have q6 : (s[i].toNat : Int) = 92 := by rw [h92]; rfl
                            clear h92
                            have hl5 : l.length + 1 ≤ 140737488355328 := by omega
                            go_wp2_with (at_builtin; refine Buf.app rfl _ _ rfl W3 _ _ _ hB _ [s[i + 1]] 1 1 rfl rfl rfl rfl hl5 ?_)
                            intro v2 w4 hB2
                            clear hB
                            go_wp2_with fail
                            go_roundw
                            case rel => exact ⟨i + 2, l ++ [s[i + 1]], by go_num, by omega, by rw [List.length_append, List.length_singleton]; omega, HN1, hB2⟩
                            case measure => simp [intOf]; omega
                          · have g5 : ¬ (i : Int) + 1 < (s.size : Int) := by omega
                            have HN1 : Hid (UnqTo s.data.toList (i2 + 1) (i + 1) (l ++ [s[i]])) := Lib.hid (by
                              have := hun.out.byte HIL.out.1 H34.out (Or.inr (by rw [← Lib.size_eq]; omega))
                              rw [HBG.out] at this
                              exact this)
                            have q5 : ((s[i].toNat : Int) == 92) = true := by rw [h92]; rfl
                            have q6 : (s[i].toNat : Int) = 92 := by rw [h92]; rfl
                            clear h92
                            have hl5 : l.length + 1 ≤ 140737488355328 := by omega
                            go_wp2_with (at_builtin; refine Buf.app rfl _ _ rfl W3 _ _ _ hB _ [s[i]] 1 1 rfl ?pc2 rfl rfl hl5 ?_)
                            case pc2 => simp [Lib.byteCells, q6]
                            intro v2 w4 hB2
                            clear hB
                            go_wp2_with fail
                            go_roundw
                            case rel => exact ⟨i + 1, l ++ [s[i]], by go_num, by omega, by rw [List.length_append, List.length_singleton]; omega, HN1, hB2⟩
                            case measure => simp [intOf]; omega
                        · have HN1 : Hid (UnqTo s.data.toList (i2 + 1) (i + 1) (l ++ [s[i]])) := Lib.hid (by
                            have := hun.out.byte HIL.out.1 H34.out (Or.inl (by rw [HBG.out]; exact h92))
                            rw [HBG.out] at this
                            exact this)
                          have n2 : s[i].toNat ≠ 92 := fun e => h92 (UInt8.toNat_inj.1 e)
                          have q5 : ((s[i].toNat : Int) == 92) = false := by rw [beq_eq_false_iff_ne]; omega
                          have q6 : ¬ (s[i].toNat : Int) = 92 := by omega
                          clear h92 n2
                          have hl5 : l.length + 1 ≤ 140737488355328 := by omega
                          go_wp2_with (at_builtin; refine Buf.app rfl _ _ rfl W3 _ _ _ hB _ [s[i]] 1 1 rfl rfl rfl rfl hl5 ?_)
                          intro v2 w4 hB2
                          clear hB
                          go_wp2_with fail
                          go_roundw
                          case rel => exact ⟨i + 1, l ++ [s[i]], by go_num, by omega, by rw [List.length_append, List.length_singleton]; omega, HN1, hB2⟩
                          case measure => simp [intOf]; omega
                    · have g3 : ¬ (i : Int) < (s.size : Int) := by omega
                      have HD : Hid (∀ h : i < s.data.toList.length, s.data.toList[i] = 34) := Lib.hid (fun h => by rw [← Lib.size_eq] at h; exact absurd h hil)
                      go_wp2_with fail
                      go_meet
                      exact ⟨i, l, rfl, hi, HGE, hun, HD, hB⟩
                case rest =>
                  clear q3 q4
                  obtain ⟨i3, vl, rfl, hi3, HI3, HUN, HD34, hB⟩ := hcut
                  obtain ⟨m, hm⟩ : ∃ m, min (i3 + 1) s.size = m := ⟨_, rfl⟩
                  have hms : m ≤ s.size := by omega
                  have HM : Hid (min (i3 + 1) s.data.toList.length = m) := Lib.hid (by rw [← Lib.size_eq]; exact hm)
                  have HMI : Hid (min ((i3 : Int) + 1) (s.size : Int) = (m : Int)) := Lib.hid (by omega)
                  have HM3 : Hid (i2 + 1 ≤ m) := Lib.hid (by have := HI3.out; omega)
                  have hmin : ∀ (ts : Array TypeId) (t : TypeId) (W : World), (Builtin.min_ ts t #[.int .i64 ((i3 : Int) + 1), .int .i64 (s.size : Int)]).run Tryd.prog W = .ok (.int .i64 (m : Int)) W := fun ts t W => by
                    have h9 := HMI.out
                    simp [Builtin.min_, Builtin.min2]
                    split <;> omega
                  have hstr := hB.string
                  have HGL : Hid (G < W3.heap.size) := Lib.hid (Array.getElem?_eq_some_iff.1 HBLK.out).1
                  have hblk4 := (hB.below.block G HGL.out).trans HBLK.out
                  have HBL := Lib.hid (fset1 (.string ⟨vl.toArray⟩) hblk4)
                  have HBW := Lib.hid ((HBA.out.trans (hB.below.mono (Nat.le_of_lt HGL.out))).setCell (p := ⟨G, 1, none⟩) (Nat.le_refl _) (.string ⟨vl.toArray⟩))
                  have c1 : wc.cell? ⟨G, 1, none⟩ = some (.string ⟨#[]⟩) := by rw [Lib.cell_of_heap hblk4]; rfl
                  have f1 := Lib.frozen_of_heap hblk4 1
                  clear hm hblk4 hB
                  go_wp2_with fail
                  refine (until_any s [59] (Or.inl rfl) m hms _ (by omega)).mono ?_
                  rintro e w4 ⟨rfl, k2, hk20, hk21, rfl, hno, hat⟩
                  have HU2 := Lib.hid (UntL.mk' hk20 hk21 hno hat)
                  clear hno hat
                  have HNX : Hid (Nx s.data.toList k k2 nm vl) := Lib.hid (nx_quote HNM2.out HEL.out.1 HE61.out HBK2.out HI2.out.1 H34.out HUN.out HD34.out (by rw [HM.out]; exact HU2.out))
                  have hkk : k < k2 := by have := HIE.out; have := HM3.out; omega
                  go_wp2_with fail
                  go_meet
                  exact ⟨k2, vl, rfl, hkk, hk21, HNX, HBL, HBW⟩
        case rest =>
          obtain ⟨k2, vl, rfl, hkk, hk2, HNX, HBL, HBW⟩ := hcut
          have HHS : Hid (k < s.data.toList.length ∧ True) := Lib.hid ⟨by rw [← Lib.size_eq]; exact hlt, trivial⟩
          have HPS := Lib.hid (par_step HHS.out.1 HNX.out)
          have HSE : Hid (k2 < s.size → s.data.toList[k2]? = some 59) := Lib.hid (fun h => by
            have h2 : k2 < s.data.toList.length := by rw [← Lib.size_eq]; exact h
            rw [List.getElem?_eq_getElem h2, HNX.out.2.2.1 h2])
          have HBB4 : Hid (Below w.heap.size w wc) := Lib.hid (by
            have h1 := HB2.out
            have h2 := HBW.out
            rw [← HG.out] at h2
            exact HR.out.2.trans ((h1.trans (h2.mono h1.size)).mono HR.out.2.size))
          have HROW4 : Hid (RowF w.heap.size (.slice va fs.length vc) fs wc) := Lib.hid ((HR.out.1.below HB2.out).below (by rw [HG.out]; exact HBW.out))
          have c0 : wc.cell? ⟨G, 0, none⟩ = some (.string ⟨nm.toArray⟩) := by rw [Lib.cell_of_heap HBL.out]; rfl
          have c1 : wc.cell? ⟨G, 1, none⟩ = some (.string ⟨vl.toArray⟩) := by rw [Lib.cell_of_heap HBL.out]; rfl
          cases nm with
          | nil =>
            have HQ : Hid (fs ++ parO s.data.toList k2 = VL.2) := Lib.hid (by rw [← hpar.out, HPS.out]; rfl)
            clear hpar
            go_wp2_with fail
            go_roundw
            case rel => exact ⟨k2, fs, rfl, hk2, by omega, HSE, HQ, HROW4.out, HBB4.out⟩
            case measure => simp [intOf]; omega
          | cons c nr =>
            have HQ : Hid ((fs ++ [(c :: nr, vl)]) ++ parO s.data.toList k2 = VL.2) := Lib.hid (by rw [← hpar.out, HPS.out]; simp [keepL])
            clear hpar
            have hfl2 : fs.length ≤ 1099511627776 := by omega
            have hblk5 : (wc.alloc (.cells #[.string ⟨(c :: nr).toArray⟩, .string ⟨vl.toArray⟩] 44)).heap[wc.heap.size]? = some (.cells #[sV ((c :: nr, vl) : Fl).1, sV ((c :: nr, vl) : Fl).2] 44 (0, 0)) := Kit.fresh_block _ _ _
            have hrow5 : RowF w.heap.size (.slice va fs.length vc) fs (wc.alloc (.cells #[.string ⟨(c :: nr).toArray⟩, .string ⟨vl.toArray⟩] 44)) := HROW4.out.below ((Below.refl _ _).alloc (Nat.le_refl _) _)
            have hB5 : w.heap.size ≤ (wc.alloc (.cells #[.string ⟨(c :: nr).toArray⟩, .string ⟨vl.toArray⟩] 44)).heap.size := Nat.le_trans HBB4.out.size (by simp)
            go_wp2_with (at_builtin; refine RowF.app rfl _ _ rfl w.heap.size _ (.slice va fs.length vc) fs hrow5 ((c :: nr, vl) : Fl) wc.heap.size 1 hblk5 rfl rfl hfl2 hB5 ?_)
            intro g c5 w5 hrow6 hg5 hat5
            have hb5 : Below w.heap.size w w5 := (HBB4.out.alloc HBB4.out.size _).grown hg5 hB5 (fun j hj => (hrow5.block hj).1)
            have H6 := Lib.hid (And.intro hrow6 hb5)
            clear hrow5 hrow6 hg5 hat5 hb5 hblk5 hB5
            go_wp2_with fail
            go_roundw
            case rel => exact ⟨k2, fs ++ [((c :: nr, vl) : Fl)], rfl, hk2, by rw [List.length_append, List.length_singleton]; omega, HSE, HQ, H6.out.1, H6.out.2⟩
            case measure => simp [intOf]; omega
    · have g1 : ¬ (k : Int) < (s.size : Int) := by omega
      have hke : k = s.data.toList.length := by rw [← Lib.size_eq]; omega
      have HF : Hid (fs = VL.2) := Lib.hid (by rw [← hpar.out, hke, par_end, List.append_nil])
      clear hke
      go_wp2_with fail
      go_ret2
      refine ⟨.slice va fs.length vc, ?_, ?_, HR.out.2⟩
      · rw [← HW1.out]; rfl
      · rw [← HF.out]; exact HR.out.1
end Go.Proofs.YtkmopneeafbeaaaDoor.Pt
namespace Go.Proofs.YtkmopneeafbeaaaDoor.Pt
open Go Go.RowKit Go.Joins Kit F0

def newP (w : World) : World := w.alloc (.cells zeroC.toArray 31)
theorem newP_size (w : World) : (newP w).heap.size = w.heap.size + 1 := by simp [newP]
set_option maxHeartbeats 4000000 in
set_option maxRecDepth 100000 in
/-- A new variable of type Part, as a step of a region that draws. -/
theorem step_new8 {ops : Array Oper} {o : Oper} {a : Act} {K : Act → World → Prop} {R : Exit → Act → World → Prop} {E : Prop} (hgd : o.guard = none) (ho : o.op = .alloc 31) (hty : o.type = 0) (W : World) (n : Nat) (hn : W.heap.size = n)
    (k : K (a.put o.dst (.pointer (some ⟨n, 0, none⟩))) (newP W)) :
    if Region.wanted o (yielded ops a.tmps) = true then Oper.wp Tryd.prog o a W K R else E := by
  have hw : Region.wanted o (yielded ops a.tmps) = true := by unfold Region.wanted; rw [hgd]
  rw [if_pos hw]
  clear hw
  subst hn
  obtain ⟨dst, op, type, pos, after, guard⟩ := o
  subst ho hgd hty
  unfold newP zeroC at k
  go_simp
  exact k
/-- A block that holds a part that is nothing yet. -/
def Zx (g : Nat) (w : World) : Prop := Bx g (.string ⟨#[]⟩) (.slice none 0 0) (.string ⟨#[]⟩) (.bool false) (.int .i64 0) (.int .i64 0) (.int .i64 0) (.slice none 0 0) w
theorem Zx.cells {g : Nat} {w : World} (h : Zx g w) : ∀ j, j < 8 → w.cell? ⟨g, 0 + j, none⟩ = zeroC[j]? ∧ w.frozen? ⟨g, 0 + j, none⟩ = false := fun j hj => by
  refine ⟨?_, Bx.free h _⟩
  have : j = 0 ∨ j = 1 ∨ j = 2 ∨ j = 3 ∨ j = 4 ∨ j = 5 ∨ j = 6 ∨ j = 7 := by omega
  rcases this with rfl | rfl | rfl | rfl | rfl | rfl | rfl | rfl
  · exact Bx.p0 h
  · exact Bx.p1 h
  · exact Bx.p2 h
  · exact Bx.p3 h
  · exact Bx.p4 h
  · exact Bx.p5 h
  · exact Bx.p6 h
  · exact Bx.p7 h
theorem put8_far {W : World} {g k : Nat} (d0 d1 d2 d3 d4 d5 d6 d7 : Value) (h : k ≠ g) : (put8 W g 0 d0 d1 d2 d3 d4 d5 d6 d7).heap[k]? = W.heap[k]? := by
  unfold put8
  rw [Below.heap_setCell _ _ _ _ h, Below.heap_setCell _ _ _ _ h, Below.heap_setCell _ _ _ _ h, Below.heap_setCell _ _ _ _ h, Below.heap_setCell _ _ _ _ h, Below.heap_setCell _ _ _ _ h, Below.heap_setCell _ _ _ _ h, Below.heap_setCell _ _ _ _ h]
theorem put8_bx {W : World} {g : Nat} {c0 c1 c2 c3 c4 c5 c6 c7 : Value} (h : Bx g c0 c1 c2 c3 c4 c5 c6 c7 W) (d0 d1 d2 d3 d4 d5 d6 d7 : Value) : Bx g d0 d1 d2 d3 d4 d5 d6 d7 (put8 W g 0 d0 d1 d2 d3 d4 d5 d6 d7) := h.setAll d0 d1 d2 d3 d4 d5 d6 d7
theorem put8_below {n : Nat} {w W : World} {g : Nat} (h : Below n w W) (hg : n ≤ g) (d0 d1 d2 d3 d4 d5 d6 d7 : Value) : Below n w (put8 W g 0 d0 d1 d2 d3 d4 d5 d6 d7) :=
  (((((((h.setCell (p := ⟨g, 0, none⟩) hg d0).setCell (p := ⟨g, 1, none⟩) hg d1).setCell (p := ⟨g, 2, none⟩) hg d2).setCell (p := ⟨g, 3, none⟩) hg d3).setCell (p := ⟨g, 4, none⟩) hg d4).setCell (p := ⟨g, 5, none⟩) hg d5).setCell (p := ⟨g, 6, none⟩) hg d6).setCell (p := ⟨g, 7, none⟩) hg d7
/-- Three such blocks. -/
structure Z3 (W5 W : World) (x y z : Nat) : Prop where
  xy : x ≠ y
  xz : x ≠ z
  yz : y ≠ z
  bx : Zx x W
  by_ : Zx y W
  bz : Zx z W
  lx : W5.heap.size ≤ x
  ly : W5.heap.size ≤ y
  lz : W5.heap.size ≤ z
  below : Below W5.heap.size W5 W
theorem newP_zx (w : World) : Zx w.heap.size (newP w) := Bx.made w _ _ _ _ _ _ _ _
theorem newP_same {w : World} {g : Nat} (h : Zx g w) : Zx g (newP w) := h.same (Below.heap_alloc _ _ _ h.lt)
theorem z3_made (W5 : World) : Z3 W5 (newP (newP (newP W5.drew))) W5.heap.size (W5.heap.size + 1) (W5.heap.size + 2) := by
  have h1 : Zx W5.heap.size (newP W5.drew) := newP_zx W5.drew
  have h2 : Zx (W5.heap.size + 1) (newP (newP W5.drew)) := by
    have := newP_zx (newP W5.drew)
    rw [newP_size] at this
    exact this
  have h3 : Zx (W5.heap.size + 2) (newP (newP (newP W5.drew))) := by
    have := newP_zx (newP (newP W5.drew))
    rw [newP_size, newP_size] at this
    exact this
  have b : Below W5.heap.size W5 (newP (newP (newP W5.drew))) := by
    have b1 : Below W5.heap.size W5 (newP W5.drew) := ((Below.refl _ W5).drew).alloc (Nat.le_refl _) _
    have b2 : Below W5.heap.size W5 (newP (newP W5.drew)) := b1.alloc b1.size _
    exact b2.alloc b2.size _
  exact ⟨by omega, by omega, by omega, newP_same (newP_same h1), newP_same h2, h3, Nat.le_refl _, by omega, by omega, b⟩
theorem Z3.swap1 {W5 W : World} {x y z : Nat} (h : Z3 W5 W x y z) : Z3 W5 W y x z := ⟨h.xy.symm, h.yz, h.xz, h.by_, h.bx, h.bz, h.ly, h.lx, h.lz, h.below⟩
theorem Z3.swap2 {W5 W : World} {x y z : Nat} (h : Z3 W5 W x y z) : Z3 W5 W x z y := ⟨h.xz, h.xy, h.yz.symm, h.bx, h.bz, h.by_, h.lx, h.lz, h.ly, h.below⟩
/-- Three blocks that are filled, one behind the other. -/
theorem Z3.fill {W5 W : World} {x y z : Nat} (h : Z3 W5 W x y z) (a0 a1 a2 a3 a4 a5 a6 a7 b0 b1 b2 b3 b4 b5 b6 b7 c0 c1 c2 c3 c4 c5 c6 c7 : Value) :
    Zx y (put8 W x 0 a0 a1 a2 a3 a4 a5 a6 a7) ∧ Zx z (put8 (put8 W x 0 a0 a1 a2 a3 a4 a5 a6 a7) y 0 b0 b1 b2 b3 b4 b5 b6 b7) ∧ Below W5.heap.size W5 (put8 W x 0 a0 a1 a2 a3 a4 a5 a6 a7) ∧ Below W5.heap.size W5 (put8 (put8 W x 0 a0 a1 a2 a3 a4 a5 a6 a7) y 0 b0 b1 b2 b3 b4 b5 b6 b7) ∧
    Below W5.heap.size W5 (put8 (put8 (put8 W x 0 a0 a1 a2 a3 a4 a5 a6 a7) y 0 b0 b1 b2 b3 b4 b5 b6 b7) z 0 c0 c1 c2 c3 c4 c5 c6 c7) ∧
    Bx x a0 a1 a2 a3 a4 a5 a6 a7 (put8 (put8 (put8 W x 0 a0 a1 a2 a3 a4 a5 a6 a7) y 0 b0 b1 b2 b3 b4 b5 b6 b7) z 0 c0 c1 c2 c3 c4 c5 c6 c7) ∧
    Bx y b0 b1 b2 b3 b4 b5 b6 b7 (put8 (put8 (put8 W x 0 a0 a1 a2 a3 a4 a5 a6 a7) y 0 b0 b1 b2 b3 b4 b5 b6 b7) z 0 c0 c1 c2 c3 c4 c5 c6 c7) ∧
    Bx z c0 c1 c2 c3 c4 c5 c6 c7 (put8 (put8 (put8 W x 0 a0 a1 a2 a3 a4 a5 a6 a7) y 0 b0 b1 b2 b3 b4 b5 b6 b7) z 0 c0 c1 c2 c3 c4 c5 c6 c7) := by
  have hy : Zx y (put8 W x 0 a0 a1 a2 a3 a4 a5 a6 a7) := h.by_.same (put8_far _ _ _ _ _ _ _ _ h.xy.symm)
  have hz1 : Zx z (put8 W x 0 a0 a1 a2 a3 a4 a5 a6 a7) := h.bz.same (put8_far _ _ _ _ _ _ _ _ h.xz.symm)
  have hz : Zx z (put8 (put8 W x 0 a0 a1 a2 a3 a4 a5 a6 a7) y 0 b0 b1 b2 b3 b4 b5 b6 b7) := hz1.same (put8_far _ _ _ _ _ _ _ _ h.yz.symm)
  have l1 := put8_below h.below h.lx a0 a1 a2 a3 a4 a5 a6 a7
  have l2 := put8_below l1 h.ly b0 b1 b2 b3 b4 b5 b6 b7
  have l3 := put8_below l2 h.lz c0 c1 c2 c3 c4 c5 c6 c7
  have x1 := put8_bx h.bx a0 a1 a2 a3 a4 a5 a6 a7
  have x2 : Bx x a0 a1 a2 a3 a4 a5 a6 a7 (put8 (put8 W x 0 a0 a1 a2 a3 a4 a5 a6 a7) y 0 b0 b1 b2 b3 b4 b5 b6 b7) := x1.same (put8_far _ _ _ _ _ _ _ _ h.xy)
  have y1 := put8_bx hy b0 b1 b2 b3 b4 b5 b6 b7
  exact ⟨hy, hz, l1, l2, l3, x2.same (put8_far _ _ _ _ _ _ _ _ h.xz), y1.same (put8_far _ _ _ _ _ _ _ _ h.yz), put8_bx hz c0 c1 c2 c3 c4 c5 c6 c7⟩
/-- Three variables that are made with what they hold, one behind the other. -/
theorem bx3_0 (W5 : World) (o2 o3 : Obj) (a0 a1 a2 a3 a4 a5 a6 a7 : Value) : Bx W5.heap.size a0 a1 a2 a3 a4 a5 a6 a7 (((W5.alloc (.cells #[a0, a1, a2, a3, a4, a5, a6, a7] 31)).alloc o2).alloc o3).drew :=
  (((Bx.made W5 a0 a1 a2 a3 a4 a5 a6 a7).below ((Below.refl _ _).alloc (Nat.le_refl _) o2)).below ((Below.refl _ _).alloc (Nat.le_refl _) o3)).drew
theorem bx3_1 (W5 : World) (o1 o3 : Obj) (a0 a1 a2 a3 a4 a5 a6 a7 : Value) : Bx (W5.heap.size + 1) a0 a1 a2 a3 a4 a5 a6 a7 (((W5.alloc o1).alloc (.cells #[a0, a1, a2, a3, a4, a5, a6, a7] 31)).alloc o3).drew :=
  ((Bx.madeAt (w := W5.alloc o1) (by simp) a0 a1 a2 a3 a4 a5 a6 a7).below ((Below.refl _ _).alloc (Nat.le_refl _) o3)).drew
theorem bx3_2 (W5 : World) (o1 o2 : Obj) (a0 a1 a2 a3 a4 a5 a6 a7 : Value) : Bx (W5.heap.size + 1 + 1) a0 a1 a2 a3 a4 a5 a6 a7 (((W5.alloc o1).alloc o2).alloc (.cells #[a0, a1, a2, a3, a4, a5, a6, a7] 31)).drew :=
  (Bx.madeAt (w := (W5.alloc o1).alloc o2) (by simp) a0 a1 a2 a3 a4 a5 a6 a7).drew
theorem below3 (W5 : World) (o1 o2 o3 : Obj) : Below W5.heap.size W5 (((W5.alloc o1).alloc o2).alloc o3).drew :=
  ((((Below.refl _ W5).alloc (Nat.le_refl _) o1).alloc (by simp) o2).alloc (by simp; omega) o3).drew
end Go.Proofs.YtkmopneeafbeaaaDoor.Pt
namespace Go.Proofs.YtkmopneeafbeaaaDoor.Pt
open Go Go.RowKit Go.Joins Kit F0

theorem rtrL_eq (l : List UInt8) : rtrL l = rtr l := rfl

set_option maxHeartbeats 2000000 in
set_option maxRecDepth 100000 in
theorem rtail_any (s : ByteArray) (w : World) (hs : s.size ≤ 1099511627776) :
    Calls Tryd.prog 49 #[.string s] w fun e w' => e = .returned (sV (rtrL s.data.toList)) ∧ w = w' := by
  go_enter Tryd.func49, Tryd.ntmps49
  go_wp2_with fail
  go_loop [0] (fun v => ∃ T : ByteArray, v = .string T ∧ T.size ≤ s.size ∧ Hid (rtr T.data.toList = rtrL s.data.toList)) (fun v => Lib.strSize v)
  case atStart => exact ⟨s, rfl, Nat.le_refl _, Lib.hid rfl⟩
  case round =>
    obtain ⟨T, rfl, hT, ht⟩ := hrel
    by_cases k0 : T.size = 0
    · have kte := toList_nil k0
      have hend : Hid (rtrL s.data.toList = T.data.toList) := Lib.hid (by rw [← ht.out, List.length_eq_zero_iff.1 (show T.data.toList.length = 0 by rw [← Lib.size_eq]; exact k0)]; rfl)
      go_wp2_with fail
      go_ret
      rw [hend.out]
      exact ⟨rfl, rfl⟩
    · have kte := toList_isEmpty k0
      obtain ⟨c, r, hcr, hc, hx⟩ := drop_last T (by omega)
      have hlt : T.size - 1 < T.size := by omega
      have hc' := hc hlt
      have HX := Lib.hid hx
      have hxs : (T.extract 0 (T.size - 1)).size = T.size - 1 := by rw [ByteArray.size_extract]; omega
      have hk1 : ((T.size : Int) - 1).toNat = T.size - 1 := by omega
      have hpos : (1 : Int) ≤ (T.size : Int) := by omega
      clear hx
      cases hb : blk c
      · have hend : Hid (rtrL s.data.toList = T.data.toList) := Lib.hid (by rw [← ht.out, hcr, rtr_no hb])
        rw [blk_eq] at hb
        have hb1 : c ≠ 32 := fun e => by rw [e] at hb; cases hb
        have hb2 : c ≠ 9 := fun e => by rw [e] at hb; cases hb
        have hn1 : c.toNat ≠ 32 := fun e => hb1 (UInt8.toNat_inj.1 e)
        have hn2 : c.toNat ≠ 9 := fun e => hb2 (UInt8.toNat_inj.1 e)
        have q1 : ((c.toNat : Int) == 32) = false := by rw [beq_eq_false_iff_ne]; omega
        have q2 : ((c.toNat : Int) == 9) = false := by rw [beq_eq_false_iff_ne]; omega
        have q3 : ¬ (c.toNat : Int) = 32 := by omega
        clear hb hb1 hb2 hn1 hn2 hcr
        go_wp2_with fail
        go_ret
        rw [hend.out]
        exact ⟨rfl, rfl⟩
      · have hnx : Hid (rtr (T.extract 0 (T.size - 1)).data.toList = rtrL s.data.toList) := Lib.hid (by rw [HX.out, ← ht.out, hcr, rtr_yes hb])
        rw [blk_eq] at hb
        clear hcr
        by_cases h32 : c = 32
        · subst h32
          go_wp2_with fail
          go_round
          case rel => exact ⟨_, rfl, by rw [hxs]; omega, hnx⟩
          case measure => rw [Lib.strSize_string, Lib.strSize_string, hxs]; omega
        · have hb2 : c = 9 := by
            rw [Bool.or_eq_true, beq_iff_eq, beq_iff_eq] at hb
            rcases hb with e | e
            · exact absurd e h32
            · exact e
          subst hb2
          clear h32
          go_wp2_with fail
          go_round
          case rel => exact ⟨_, rfl, by rw [hxs]; omega, hnx⟩
          case measure => rw [Lib.strSize_string, Lib.strSize_string, hxs]; omega

/-! ### back -/
theorem span_one (D : List UInt8) (f q : Nat) (hf : f ≤ q) (hq : q < D.length) : (D.take (q + 1)).drop f = (D.take q).drop f ++ [D[q]] := by
  rw [List.take_succ_eq_append_getElem hq, List.drop_append_of_le_length (by rw [List.length_take]; omega)]
theorem span_len2 (D : List UInt8) (f q : Nat) (hq : q ≤ D.length) : ((D.take q).drop f).length = q - f := by
  rw [List.length_drop, List.length_take]
  omega
theorem back_same (D : List UInt8) (f : Nat) : backL D f f = f := by
  unfold backL
  rw [show (D.take f).drop f = [] from List.drop_of_length_le (by rw [List.length_take]; omega)]
  rfl
theorem back_no (D : List UInt8) (f q : Nat) (hf : f ≤ q) (hq : q < D.length) (h : D[q] ≠ 10) : backL D f (q + 1) = q + 1 := by
  have hs : Lib.hasSuffix ((D.take q).drop f ++ [D[q]]) [10] = false := by
    unfold Lib.hasSuffix
    rw [Bool.eq_false_iff]
    intro e
    rw [List.isSuffixOf_iff_suffix] at e
    obtain ⟨t, ht⟩ := e
    have := congrArg List.getLast? ht
    simp at this
    exact h this.symm
  unfold backL woEnd
  rw [span_one D f q hf hq, hs, if_neg (by decide), List.length_append, span_len2 D f q (by omega)]
  simp
  omega
theorem back_lf (D : List UInt8) (f q : Nat) (hf : f ≤ q) (hq : q < D.length) (h : D[q] = 10) : backL D f (q + 1) = f + (chopL ((D.take q).drop f)).length := by
  unfold backL woEnd
  rw [span_one D f q hf hq, h, hasSuffix_snoc, trimSuffix_snoc, if_pos rfl]
theorem back_lf0 (D : List UInt8) (f : Nat) (hq : f < D.length) (h : D[f] = 10) : backL D f (f + 1) = f := by
  rw [back_lf D f f (Nat.le_refl _) hq h, show (D.take f).drop f = [] from List.drop_of_length_le (by rw [List.length_take]; omega)]
  rfl
theorem back_crlf (D : List UInt8) (f q : Nat) (hf : f ≤ q) (hq : q + 1 < D.length) (h : D[q + 1] = 10) (h2 : D[q] = 13) : backL D f (q + 2) = q := by
  rw [back_lf D f (q + 1) (by omega) hq h, span_one D f q hf (by omega), h2, chopL_cr, span_len2 D f q (by omega)]
  omega
theorem back_lf1 (D : List UInt8) (f q : Nat) (hf : f ≤ q) (hq : q + 1 < D.length) (h : D[q + 1] = 10) (h2 : D[q] ≠ 13) : backL D f (q + 2) = q + 1 := by
  rw [back_lf D f (q + 1) (by omega) hq h, span_one D f q hf (by omega), chopL_other (by simpa using h2), List.length_append, span_len2 D f q (by omega)]
  simp
  omega

set_option maxHeartbeats 2000000 in
set_option maxRecDepth 100000 in
theorem rback_any (s : ByteArray) (f p : Nat) (hfp : f ≤ p) (hp : p ≤ s.size) (w : World) (hs : s.size ≤ 1099511627776) :
    Calls Tryd.prog 50 #[.string s, .int .i64 (p : Int), .int .i64 (f : Int)] w fun e w' => e = .returned (.int .i64 (backL s.data.toList f p : Int)) ∧ w = w' := by
  have HSL := Lib.hid (Lib.size_eq s)
  by_cases hpf : p = f
  · subst hpf
    rw [back_same]
    go_enter Tryd.func50, Tryd.ntmps50
    go_wp2_with fail
    go_ret
    exact ⟨rfl, rfl⟩
  · obtain ⟨q, rfl⟩ : ∃ q, p = q + 1 := ⟨p - 1, by omega⟩
    have hq : q < s.size := by omega
    have HQL : Hid (q < s.data.toList.length ∧ True) := Lib.hid ⟨by rw [← HSL.out]; exact hq, trivial⟩
    have HBQ : Hid (s.data.toList[q]'(HQL.out.1) = s[q]) := Lib.hid (Kit.byte_get s q hq)
    have g1 : (f : Int) < ((q + 1 : Nat) : Int) := by omega
    have g1' : (f : Int) < (q : Int) + 1 := by omega
    by_cases h10 : s[q] = 10
    · have q1 : ((s[q].toNat : Int) == 10) = true := by rw [h10]; rfl
      by_cases hqf : q = f
      · subst hqf
        have HR : Hid (backL s.data.toList q (q + 1) = q) := Lib.hid (back_lf0 _ _ HQL.out.1 (by rw [HBQ.out]; exact h10))
        rw [HR.out]
        have g2 : ¬ (q : Int) < (q : Int) := by omega
        clear h10 HBQ
        go_enter Tryd.func50, Tryd.ntmps50
        go_wp2_with fail
        go_ret
        exact ⟨ret_int (by omega), rfl⟩
      · obtain ⟨r, rfl⟩ : ∃ r, q = r + 1 := ⟨q - 1, by omega⟩
        have hr : r < s.size := by omega
        have HRL : Hid (r < s.data.toList.length ∧ True) := Lib.hid ⟨by rw [← HSL.out]; exact hr, trivial⟩
        have HBR : Hid (s.data.toList[r]'(HRL.out.1) = s[r]) := Lib.hid (Kit.byte_get s r hr)
        have g2 : (f : Int) < (r : Int) + 1 := by omega
        by_cases h13 : s[r] = 13
        · have q2 : ((s[r].toNat : Int) == 13) = true := by rw [h13]; rfl
          have HR : Hid (backL s.data.toList f (r + 1 + 1) = r) := Lib.hid (back_crlf _ f r (by omega) HQL.out.1 (by rw [HBQ.out]; exact h10) (by rw [HBR.out]; exact h13))
          rw [HR.out]
          clear h10 HBQ HBR h13
          go_enter Tryd.func50, Tryd.ntmps50
          go_wp2_with fail
          go_ret
          exact ⟨ret_int (by omega), rfl⟩
        · have n2 : s[r].toNat ≠ 13 := fun e => h13 (UInt8.toNat_inj.1 e)
          have q2 : ((s[r].toNat : Int) == 13) = false := by rw [beq_eq_false_iff_ne]; omega
          have HR : Hid (backL s.data.toList f (r + 1 + 1) = r + 1) := Lib.hid (back_lf1 _ f r (by omega) HQL.out.1 (by rw [HBQ.out]; exact h10) (by rw [HBR.out]; exact h13))
          rw [HR.out]
          clear h10 HBQ HBR h13 n2
          go_enter Tryd.func50, Tryd.ntmps50
          go_wp2_with fail
          go_ret
          exact ⟨ret_int (by omega), rfl⟩
    · have n1 : s[q].toNat ≠ 10 := fun e => h10 (UInt8.toNat_inj.1 e)
      have q1 : ((s[q].toNat : Int) == 10) = false := by rw [beq_eq_false_iff_ne]; omega
      have HR : Hid (backL s.data.toList f (q + 1) = q + 1) := Lib.hid (back_no _ f q (by omega) HQL.out.1 (by rw [HBQ.out]; exact h10))
      rw [HR.out]
      clear h10 HBQ n1
      go_enter Tryd.func50, Tryd.ntmps50
      go_wp2_with fail
      go_ret
      exact ⟨ret_int (by omega), rfl⟩

theorem cutL_no {d : UInt8} : ∀ {l a r : List UInt8} (_ : cutL d l = some (a, r)), ∀ x ∈ a, x ≠ d
  | [], _, _, h, _, _ => by cases h
  | c :: l, a, r, h, x, hx => by
    rw [cutL] at h
    split at h
    · injection h with h
      injection h with h1 h2
      subst h1
      cases hx
    · rename_i hc
      cases hq : cutL d l with
      | none => rw [hq] at h; cases h
      | some y =>
        obtain ⟨a', r'⟩ := y
        rw [hq] at h
        injection h with h
        injection h with h1 h2
        subst h1
        rcases List.mem_cons.1 hx with rfl | hx
        · exact hc
        · exact cutL_no hq x hx
/-! ### typed -/
theorem rtyped_none {w : List UInt8} (h : ∀ x ∈ w, x ≠ 47) : typedL w = false := by unfold typedL; rw [cutL_none h]
theorem rtyped_some {a r : List UInt8} (h : ∀ x ∈ a, x ≠ 47) : typedL (a ++ 47 :: r) = (!a.isEmpty && !r.isEmpty && (cutL 47 r).isNone) := by unfold typedL; rw [cutL_some r h]
theorem cut_no {r : List UInt8} : ∀ (_ : cutL 47 r = none), ∀ x ∈ r, x ≠ 47 := by
  induction r with
  | nil => intro _ x hx; cases hx
  | cons c r ih =>
    intro h x hx
    rw [cutL] at h
    split at h
    · cases h
    · rename_i hc
      cases hq : cutL 47 r with
      | some y => rw [hq] at h; cases h
      | none =>
        rcases List.mem_cons.1 hx with rfl | hx'
        · exact hc
        · exact ih hq x hx'
theorem cut_isNone (r : List UInt8) : (cutL 47 r).isNone = true ↔ ∀ x ∈ r, x ≠ 47 := by
  constructor
  · intro h
    cases hq : cutL 47 r with
    | none => exact cut_no hq
    | some y => rw [hq] at h; cases h
  · intro h
    rw [cutL_none h]
    rfl
/-- Where a byte stands behind a beginning. -/
theorem idx_behind (a r : List UInt8) : (Rx.idxFrom (a ++ 47 :: r) [47] ((a ++ 47 :: r).length + 1) (a.length + 1) < 0 ∧ (cutL 47 r).isNone = true) ∨ (¬ Rx.idxFrom (a ++ 47 :: r) [47] ((a ++ 47 :: r).length + 1) (a.length + 1) < 0 ∧ (cutL 47 r).isNone = false) := by
  cases hq : cutL 47 r with
  | none =>
    refine Or.inl ⟨?_, rfl⟩
    have hn := cut_no hq
    rw [Rx.one_none _ _ _ _ (fun k hk hle => ?_)]
    · decide
    · obtain ⟨d, rfl⟩ : ∃ d, k = a.length + 1 + d := ⟨k - (a.length + 1), by omega⟩
      have hk' : d < r.length := by rw [List.length_append, List.length_cons] at hk; omega
      have : (a ++ 47 :: r)[a.length + 1 + d] = r[d] := by
        rw [List.getElem_append_right (by omega)]
        simp [show a.length + 1 + d - a.length = d + 1 by omega]
      rw [this]
      exact hn _ (List.getElem_mem hk')
  | some y =>
    obtain ⟨b, c⟩ := y
    refine Or.inr ⟨?_, rfl⟩
    have hr := cut_len hq
    have hb : ∀ x ∈ b, x ≠ 47 := cutL_no hq
    subst hr
    have hlen : (a ++ 47 :: (b ++ 47 :: c)).length = a.length + b.length + c.length + 2 := by simp; omega
    rw [Rx.one_some _ 47 (a.length + 1 + b.length) (by omega) (by
      rw [List.getElem_append_right (by omega)]
      simp [show a.length + 1 + b.length - a.length = b.length + 1 by omega]) _ _ (by omega) (fun k hk hle hlt => by
      obtain ⟨d, rfl⟩ : ∃ d, k = a.length + 1 + d := ⟨k - (a.length + 1), by omega⟩
      have hd : d < b.length := by omega
      have : (a ++ 47 :: (b ++ 47 :: c))[a.length + 1 + d] = b[d] := by
        rw [List.getElem_append_right (by omega)]
        simp [show a.length + 1 + d - a.length = d + 1 by omega, List.getElem_append_left hd]
      rw [this]
      exact hb _ (List.getElem_mem hd)) (by omega)]
    omega

set_option maxHeartbeats 2000000 in
set_option maxRecDepth 100000 in
theorem rtyped_any (s : ByteArray) (w : World) (hs : s.size ≤ 1073741824) :
    Calls Tryd.prog 47 #[.string s] w fun e w' => e = .returned (.bool (typedL s.data.toList)) ∧ w = w' := by
  have HSL := Lib.hid (Lib.size_eq s)
  go_enter Tryd.func47, Tryd.ntmps47
  go_wp2_with fail
  refine (Rx.index_one s 47 w (by omega)).mono ?_
  rintro e w1 ⟨rfl, ⟨rfl, hno⟩ | ⟨a, r, hl, ha, rfl⟩⟩
  · have HR : Hid (typedL s.data.toList = false) := Lib.hid (rtyped_none hno)
    clear hno
    go_wp2_with fail
    go_ret
    rw [HR.out]
    exact ⟨rfl, rfl⟩
  · have HR : Hid (typedL s.data.toList = (!a.isEmpty && !r.isEmpty && (cutL 47 r).isNone)) := Lib.hid (by rw [hl]; exact rtyped_some ha)
    have HSZ : Hid (s.size = a.length + 1 + r.length) := Lib.hid (by rw [HSL.out, hl, List.length_append, List.length_cons]; omega)
    have HIX := Lib.hid (idx_behind a r)
    have HLL := Lib.hid hl
    have gsz : (s.size : Int) = (a.length : Int) + 1 + (r.length : Int) := by have := HSZ.out; omega
    have HGS := Lib.hid gsz
    clear hl ha gsz
    cases a with
    | nil =>
      go_wp2_with fail
      go_ret
      rw [HR.out]
      exact ⟨rfl, rfl⟩
    | cons c a =>
      obtain ⟨A, hA⟩ : ∃ A, (c :: a).length = A := ⟨_, rfl⟩
      rw [hA]
      rw [hA] at HGS HSZ HIX
      have hA1 : (0 : Int) < (A : Int) := by rw [← hA, List.length_cons]; omega
      have hAs : A ≤ 1073741824 := by have := HSZ.out; omega
      clear hA
      by_cases hr : r = []
      · subst hr
        have g2 : ¬ (A : Int) < (s.size : Int) - 1 := by have := HGS.out; simp only [List.length_nil] at this; omega
        go_wp2_with fail
        go_ret
        rw [HR.out]
        simp
      · have hrl : 0 < r.length := List.length_pos_iff.2 hr
        have g2 : (A : Int) < (s.size : Int) - 1 := by have := HGS.out; omega
        have HRE : Hid (r.isEmpty = false) := Lib.hid (by cases r with | nil => exact absurd rfl hr | cons _ _ => rfl)
        clear hr hrl
        go_wp2_with fail
        refine (Rx.index_any s ⟨#[47]⟩ (A + 1) w (by omega) (by show 1 ≤ _; omega) (by omega)).mono ?_
        rintro e w1 ⟨rfl, rfl⟩
        have HJ := HIX.out
        rw [← HLL.out, ← Lib.size_eq] at HJ
        rw [show (ByteArray.mk #[47]).data.toList = [47] from rfl]
        obtain ⟨J, hJ⟩ : ∃ J, Rx.idxFrom s.data.toList [47] (s.size + 1) (A + 1) = J := ⟨_, rfl⟩
        rw [hJ] at HJ ⊢
        rcases HJ with ⟨g3, hn⟩ | ⟨g3, hn⟩
        · have HN := Lib.hid hn
          clear hn hJ
          go_wp2_with fail
          go_ret
          rw [HR.out, HRE.out, HN.out]
          exact ⟨rfl, rfl⟩
        · have HN := Lib.hid hn
          clear hn hJ
          go_wp2_with fail
          go_ret
          rw [HR.out, HRE.out, HN.out]
          simp
          exact g3
end Go.Proofs.YtkmopneeafbeaaaDoor.Pt
namespace Go.Proofs.YtkmopneeafbeaaaDoor.Pt
open Go Go.RowKit Go.Joins Kit F0

/-- The counter: the text, and how many parts there are. -/
def Ct (s : ByteArray) (C n : Nat) (w : World) : Prop := w.heap[C]? = some (.cells #[.string s, .int .i64 (n : Int)] 51 (0, 0))
namespace Ct
variable {s : ByteArray} {C n : Nat} {w w' : World}
theorem lt (h : Ct s C n w) : C < w.heap.size := (Array.getElem?_eq_some_iff.1 h).1
theorem c0 (h : Ct s C n w) : w.cell? ⟨C, 0, none⟩ = some (.string s) := by rw [Lib.cell_of_heap h]; rfl
theorem c1 (h : Ct s C n w) : w.cell? ⟨C, 1, none⟩ = some (.int .i64 (n : Int)) := by rw [Lib.cell_of_heap h]; rfl
theorem free (h : Ct s C n w) (o : Nat) : w.frozen? ⟨C, o, none⟩ = false := Lib.frozen_of_heap h o
theorem same (h : Ct s C n w) (k : w'.heap[C]? = w.heap[C]?) : Ct s C n w' := k.trans h
theorem below (h : Ct s C n w) (k : Below w.heap.size w w') : Ct s C n w' := h.same (k.block C h.lt)
theorem set (h : Ct s C n w) (m : Nat) : Ct s C m (w.setCell ⟨C, 1, none⟩ (.int .i64 (m : Int))) := by
  unfold Ct at h ⊢
  simp [World.setCell, Array.getElem?_modify, h]
end Ct
/-- What a call keeps. -/
structure Rp (s : ByteArray) (C n R P : Nat) (c0 c1 c2 c3 c4 c5 c6 c7 : Value) (w W : World) : Prop where
  ct : Ct s C n W
  zr : Zx R W
  bp : Bx P c0 c1 c2 c3 c4 c5 c6 c7 W
  st : Step C w W
  hR : w.heap.size ≤ R
  hP : w.heap.size ≤ P
  ne : R ≠ P
  hC : C < w.heap.size
namespace Rp
variable {s : ByteArray} {C n R P : Nat} {c0 c1 c2 c3 c4 c5 c6 c7 : Value} {w W W' : World}
theorem below (h : Rp s C n R P c0 c1 c2 c3 c4 c5 c6 c7 w W) (k : Below W.heap.size W W') : Rp s C n R P c0 c1 c2 c3 c4 c5 c6 c7 w W' :=
  ⟨h.ct.below k, h.zr.same (k.block R h.zr.lt), h.bp.below k, h.st.trans (Step.of_below k), h.hR, h.hP, h.ne, h.hC⟩
theorem neC (h : Rp s C n R P c0 c1 c2 c3 c4 c5 c6 c7 w W) : C ≠ P := by have := h.hC; have := h.hP; omega
theorem put (h : Rp s C n R P c0 c1 c2 c3 c4 c5 c6 c7 w W) (o : Nat) (v : Value) {d0 d1 d2 d3 d4 d5 d6 d7 : Value} (hb : Bx P d0 d1 d2 d3 d4 d5 d6 d7 (W.setCell ⟨P, o, none⟩ v)) : Rp s C n R P d0 d1 d2 d3 d4 d5 d6 d7 w (W.setCell ⟨P, o, none⟩ v) :=
  ⟨h.ct.same (Below.heap_setCell _ _ _ _ h.neC), h.zr.same (Below.heap_setCell _ _ _ _ h.ne), hb, h.st.setNew h.hP o v, h.hR, h.hP, h.ne, h.hC⟩
theorem set0 (h : Rp s C n R P c0 c1 c2 c3 c4 c5 c6 c7 w W) (v : Value) : Rp s C n R P v c1 c2 c3 c4 c5 c6 c7 w (W.setCell ⟨P, 0, none⟩ v) := h.put 0 v (h.bp.set0 v)
theorem set1 (h : Rp s C n R P c0 c1 c2 c3 c4 c5 c6 c7 w W) (v : Value) : Rp s C n R P c0 v c2 c3 c4 c5 c6 c7 w (W.setCell ⟨P, 1, none⟩ v) := h.put 1 v (h.bp.set1 v)
theorem set2 (h : Rp s C n R P c0 c1 c2 c3 c4 c5 c6 c7 w W) (v : Value) : Rp s C n R P c0 c1 v c3 c4 c5 c6 c7 w (W.setCell ⟨P, 2, none⟩ v) := h.put 2 v (h.bp.set2 v)
theorem set3 (h : Rp s C n R P c0 c1 c2 c3 c4 c5 c6 c7 w W) (v : Value) : Rp s C n R P c0 c1 c2 v c4 c5 c6 c7 w (W.setCell ⟨P, 3, none⟩ v) := h.put 3 v (h.bp.set3 v)
theorem set7 (h : Rp s C n R P c0 c1 c2 c3 c4 c5 c6 c7 w W) (v : Value) : Rp s C n R P c0 c1 c2 c3 c4 c5 c6 v w (W.setCell ⟨P, 7, none⟩ v) := h.put 7 v (h.bp.set7 v)
end Rp
theorem Rp.call {s : ByteArray} {C n m R P : Nat} {c0 c1 c2 c3 c4 c5 c6 c7 : Value} {w W W' : World} (h : Rp s C n R P c0 c1 c2 c3 c4 c5 c6 c7 w W) (k : Step C W W') (hc : Ct s C m W') : Rp s C m R P c0 c1 c2 c3 c4 c5 c6 c7 w W' :=
  ⟨hc, h.zr.same (k.block R h.zr.lt (by have := h.hR; have := h.hC; omega)), h.bp.same (k.block P h.bp.lt (by have := h.hP; have := h.hC; omega)), h.st.trans k, h.hR, h.hP, h.ne, h.hC⟩
theorem Rp.grown {s : ByteArray} {C n R P : Nat} {c0 c1 c2 c3 c4 c5 c6 c7 : Value} {w W W' : World} {row : Option Nat} (h : Rp s C n R P c0 c1 c2 c3 c4 c5 c6 c7 w W) (hRP : R < P) (hg : W.grownBy W' row) (hr : ∀ r, row = some r → P < r) : Rp s C n R P c0 c1 c2 c3 c4 c5 c6 c7 w W' :=
  ⟨h.ct.same (hg.block C h.ct.lt (fun e => by have := hr C e.symm; have := h.hC; have := h.hP; omega)), h.zr.same (hg.block R h.zr.lt (fun e => by have := hr R e.symm; omega)), h.bp.same (hg.block P h.bp.lt (fun e => by have := hr P e.symm; omega)),
    h.st.grown hg (fun r e => by have := hr r e; have := h.hP; omega), h.hR, h.hP, h.ne, h.hC⟩
/-- append of a part, as a step of a region that draws. -/
theorem Kids.step8 {ops : Array Oper} {o : Oper} {a : Act} {K : Act → World → Prop} {R : Exit → Act → World → Prop} {E : Prop} (hgd : o.guard = none) (sl x : Operand)
    (ho : o.op = .call { callee := .builtin .append, args := #[sl, x], argTypes := #[29, 29] })
    (B : Nat) (w : World) (v : Value) (kids : List P) (hK : Kids B v kids w) (j : P) (c0 c1 c2 c3 c4 c5 c6 c7 : Value) (hj : PartAt (fun k => B ≤ k ∧ v.ownBlock ≠ some k) w j (.agg #[c0, c1, c2, c3, c4, c5, c6, c7]))
    (b cap : Nat) (fr : Nat × Nat) (hblk : w.heap[b]? = some (.cells #[c0, c1, c2, c3, c4, c5, c6, c7] 31 fr)) (hs : a.eval sl = v) (hx : a.eval x = .slice (some ⟨b, 0, none⟩) 1 cap) (hlen : kids.length ≤ 65536) (hsz : B ≤ w.heap.size)
    (h : ∀ g c w', Kids B (.slice (some ⟨g, 0, none⟩) (kids.length + 1) c) (kids ++ [j]) w' → w.grownBy w' v.ownBlock → K (a.put o.dst (.slice (some ⟨g, 0, none⟩) (kids.length + 1) c)) w') :
    if Region.wanted o (yielded ops a.tmps) = true then Oper.wp Tryd.prog o a w K R else E := by
  obtain ⟨i0, hi, hz0, hz1, hz2⟩ := info_parts infoP
  obtain ⟨cs, hown, hkids⟩ := hK
  have h1 := part_one hj
  refine step_append_lies w hgd sl x 29 ho B 31 i0 _ 8 112 Tryd.underlying29 hi hz0 hz1 hz2 rfl (by decide) v kids.length cs hs hown ⟨b, 0, none⟩ 1 cap [c0, c1, c2, c3, c4, c5, c6, c7] hx rfl ?_ h1 (by decide) ?_ ?_ hsz w.heap.size rfl ?_
  · intro k u hk
    exact World.news_of_block hblk k u hk
  · unfold maxLen; omega
  · omega
  · intro g c w' ho' hg hat _
    have hkk : Kept (fun k => B ≤ k ∧ v.ownBlock ≠ some k) (fun k => B ≤ k ∧ (Value.slice (some ⟨g, 0, none⟩) (kids.length + 1) c).ownBlock ≠ some k) w w' := kept_block fun k _ _ _ hk hb => by
      have hl := (Array.getElem?_eq_some_iff.1 hb).1
      refine ⟨⟨hk.1, fun e => ?_⟩, hg.block k hl (fun e => hk.2 e.symm)⟩
      simp only [Value.ownBlock, Option.some.injEq] at e
      subst e
      rcases hat with hat | hat
      · exact hk.2 hat
      · omega
    refine h g c w' ⟨cs ++ [c0, c1, c2, c3, c4, c5, c6, c7], by rw [List.length_append]; exact ho', kids_snoc (PartAt.keep hkk hj) (KidsAt.keep hkk hkids)⟩ hg
/-- What stands when the part is told. -/
theorem Rp.fin {s : ByteArray} {C n R B a f b : Nat} {ty en : List UInt8} {ab : Bool} {ps : List Fl} {ks : List P} {qa ka : Option Addr} {qc kc : Nat} {w W : World}
    (h : Rp s C n R B (.string ⟨ty.toArray⟩) (.slice qa ps.length qc) (.string ⟨en.toArray⟩) (.bool ab) (.int .i64 (a : Int)) (.int .i64 (f : Int)) (.int .i64 (b : Int)) (.slice ka ks.length kc) w W) (hRP : R < B)
    (hps : CellsAt (fun g => B < g) W ps.length (.slice qa ps.length qc) (fC ps)) {KB : Nat} (hKB : B < KB) (hks : Kids KB (.slice ka ks.length kc) ks W) :
    Bx R (.string ⟨ty.toArray⟩) (.slice qa ps.length qc) (.string ⟨en.toArray⟩) (.bool ab) (.int .i64 (a : Int)) (.int .i64 (f : Int)) (.int .i64 (b : Int)) (.slice ka ks.length kc) (finW W R (.string ⟨ty.toArray⟩) (.slice qa ps.length qc) (.string ⟨en.toArray⟩) (.bool ab) (.int .i64 (a : Int)) (.int .i64 (f : Int)) (.int .i64 (b : Int)) (.slice ka ks.length kc)) ∧
    PartAt (fun g => w.heap.size ≤ g) (finW W R (.string ⟨ty.toArray⟩) (.slice qa ps.length qc) (.string ⟨en.toArray⟩) (.bool ab) (.int .i64 (a : Int)) (.int .i64 (f : Int)) (.int .i64 (b : Int)) (.slice ka ks.length kc)) (.mk ty ps en ab a f b ks)
      (.agg #[.string ⟨ty.toArray⟩, .slice qa ps.length qc, .string ⟨en.toArray⟩, .bool ab, .int .i64 (a : Int), .int .i64 (f : Int), .int .i64 (b : Int), .slice ka ks.length kc]) ∧
    Ct s C n (finW W R (.string ⟨ty.toArray⟩) (.slice qa ps.length qc) (.string ⟨en.toArray⟩) (.bool ab) (.int .i64 (a : Int)) (.int .i64 (f : Int)) (.int .i64 (b : Int)) (.slice ka ks.length kc)) ∧
    Step C w (finW W R (.string ⟨ty.toArray⟩) (.slice qa ps.length qc) (.string ⟨en.toArray⟩) (.bool ab) (.int .i64 (a : Int)) (.int .i64 (f : Int)) (.int .i64 (b : Int)) (.slice ka ks.length kc)) := by
  have h0 := h.hR
  have h1 := h.hC
  have hk : ∀ Q : Nat → Prop, (∀ g, Q g → B < g) → Kept Q (fun g => w.heap.size ≤ g) W (finW W R (.string ⟨ty.toArray⟩) (.slice qa ps.length qc) (.string ⟨en.toArray⟩) (.bool ab) (.int .i64 (a : Int)) (.int .i64 (f : Int)) (.int .i64 (b : Int)) (.slice ka ks.length kc)) :=
    fun Q hQ => finW_kept W R _ _ _ _ _ _ _ _ (fun g hg => by have := hQ g hg; exact ⟨by omega, by omega⟩)
  refine ⟨Bx.setAll h.zr _ _ _ _ _ _ _ _, ?_, h.ct.same (finW_other _ _ _ _ _ _ _ _ _ _ C (by omega)), ?_⟩
  · rw [PartAt]
    obtain ⟨cs, k1, k2⟩ := hks.read (fun g => B < g) (fun g hg => Nat.lt_of_lt_of_le hKB hg)
    exact ⟨_, _, rfl, hps.keep (hk _ (fun g hg => hg)), cs, k1.keep (hk _ (fun g hg => hg)), KidsAt.keep (hk _ (fun g hg => hg)) k2⟩
  · unfold finW
    exact (((((((h.st.setNew h.hR 0 _).setNew h.hR 1 _).setNew h.hR 2 _).setNew h.hR 3 _).setNew h.hR 4 _).setNew h.hR 5 _).setNew h.hR 6 _).setNew h.hR 7 _
theorem rowL_at0 {B : Nat} {v : Value} {ls : List Tl} {w : World} (h : RowL B v ls w) (k : Nat) (hk : k < ls.length) : ∃ g cap, v = .slice (some ⟨g, 0, none⟩) ls.length cap ∧ g < w.heap.size ∧ w.cell? ⟨g, k * 3, none⟩ = some (.int .i64 (ls[k].1 : Int)) ∧ w.cell? ⟨g, k * 3 + 1, none⟩ = some (sV ls[k].2.1) ∧ w.cell? ⟨g, k * 3 + 2, none⟩ = some (.int .i64 (ls[k].2.2 : Int)) := by
  obtain ⟨g, cap, hv, hc⟩ := Rw.cells h (by omega)
  obtain ⟨q1, q2⟩ := lC_at ls k hk
  have q0 : ∀ (l : List Tl) (k : Nat) (h : k < l.length), (lC l)[k * 3]? = some (.int .i64 (l[k].1 : Int)) := by
    intro l
    induction l with
    | nil => intro k h; simp at h
    | cons x l ih =>
      intro k h
      cases k with
      | zero => rfl
      | succ k =>
        have := ih k (by simpa using h)
        rw [lC, show (k + 1) * 3 = k * 3 + 3 by omega]
        simpa using this
  have hz : w.cell? ⟨g, k * 3, none⟩ = some (.int .i64 (ls[k].1 : Int)) := by rw [(hc (k * 3) (by omega)).1, q0 ls k hk]
  exact ⟨g, cap, hv, cell_lt hz, hz, by rw [(hc (k * 3 + 1) (by omega)).1, q1], by rw [(hc (k * 3 + 2) (by omega)).1, q2]⟩
/-- What stands behind the call's beginning. -/
theorem rp_made {s : ByteArray} {C n : Nat} {w : World} (h : Ct s C n w) (y : Int) (hy : y = ((n + 1 : Nat) : Int)) : Ct s C (n + 1) ((newP w).setCell ⟨C, 1, none⟩ (.int .i64 y)) ∧ Zx w.heap.size ((newP w).setCell ⟨C, 1, none⟩ (.int .i64 y)) ∧ Step C w ((newP w).setCell ⟨C, 1, none⟩ (.int .i64 y)) := by
  subst hy
  have h1 : Ct s C n (newP w) := h.below ((Below.refl _ w).alloc (Nat.le_refl _) _)
  have h2 : Step C w (newP w) := (Step.refl C w).alloc _
  refine ⟨h1.set (n + 1), (newP_zx w).same (Below.heap_setCell _ _ _ _ (by show w.heap.size ≠ C; have := h.lt; omega)), h2.set _ _⟩
theorem rp_begin {s : ByteArray} {C n R : Nat} {w W : World} {c0 c1 c2 c3 c4 c5 c6 c7 : Value} (hc : Ct s C n W) (hz : Zx R W) (hs : Step C w W) (hR : w.heap.size ≤ R) (hC : C < w.heap.size) :
    Rp s C n R W.heap.size c0 c1 c2 c3 c4 c5 c6 c7 w (W.alloc (.cells #[c0, c1, c2, c3, c4, c5, c6, c7] 31)) :=
  ⟨hc.below ((Below.refl _ W).alloc (Nat.le_refl _) _), hz.same (Below.heap_alloc _ _ _ hz.lt), Bx.made W _ _ _ _ _ _ _ _, hs.alloc _, hR, hs.size, by have := hz.lt; omega, hC⟩
end Go.Proofs.YtkmopneeafbeaaaDoor.Pt
namespace Go.Proofs.YtkmopneeafbeaaaDoor.Pt
open Go F0

abbrev Rd := Nat → Nat → Nat → P × Nat
theorem foldK_full (rd : Rd) : ∀ (l : List (Nat × Nat)) (m : Nat) (_ : ¬ m < 30), foldK rd l m = ([], m)
  | [], m, _ => by rw [foldK]
  | (f, e) :: r, m, h => by rw [foldK, if_neg h]
def afterK (rd : Rd) (bd s : List UInt8) (b : Nat) (o : Option Nat) (p : Nat) (l : List Tl) (m : Nat) : List P × Nat := foldK rd (kidsG bd s b o p (l.map (·.2))) m
/-- A kid more, if there may be one. -/
def kidS (rd : Rd) (f e : Nat) (ks : List P) (m : Nat) : List P × Nat := if m < 30 then (ks ++ [(rd f e (m + 1)).1], (rd f e (m + 1)).2) else (ks, m)
/-- What is read so far, and what is left. -/
def InvK (TOT : List P × Nat) (rd : Rd) (bd s : List UInt8) (b : Nat) (ks : List P) (o : Option Nat) (p : Nat) (l : List Tl) (m : Nat) : Prop :=
  TOT = (ks ++ (afterK rd bd s b o p l m).1, (afterK rd bd s b o p l m).2)
variable {TOT : List P × Nat} {rd : Rd} {bd s : List UInt8} {b : Nat} {ks : List P} {o : Option Nat} {p m : Nat} {l : List Tl} {x : Tl} {f : Nat}
theorem fold_kid (f e : Nat) (r : List (Nat × Nat)) : (ks ++ (foldK rd ((f, e) :: r) m).1, (foldK rd ((f, e) :: r) m).2) = ((kidS rd f e ks m).1 ++ (foldK rd r (kidS rd f e ks m).2).1, (foldK rd r (kidS rd f e ks m).2).2) := by
  unfold kidS
  rw [foldK]
  split
  · simp
  · rename_i h
    simp only
    rw [foldK_full rd r m h]
theorem fold_kid1 (f e : Nat) : (ks ++ (foldK rd [(f, e)] m).1, (foldK rd [(f, e)] m).2) = kidS rd f e ks m := by
  unfold kidS
  rw [foldK]
  split <;> simp [foldK]
theorem inv_other (h : InvK TOT rd bd s b ks o p (x :: l) m) (h1 : isMark bd x.2.1 = false) (h2 : isLast bd x.2.1 = false) : InvK TOT rd bd s b ks o x.2.2 l m := by
  obtain ⟨at_, t, nx⟩ := x
  unfold InvK afterK at h ⊢
  rw [List.map_cons, kidsG, h1, h2] at h
  exact h
theorem inv_mark0 (h : InvK TOT rd bd s b ks none p (x :: l) m) (h1 : isMark bd x.2.1 = true) : InvK TOT rd bd s b ks (some x.2.2) x.2.2 l m := by
  obtain ⟨at_, t, nx⟩ := x
  unfold InvK afterK at h ⊢
  rw [List.map_cons, kidsG, h1] at h
  exact h
theorem inv_mark1 (h : InvK TOT rd bd s b ks (some f) p (x :: l) m) (h1 : isMark bd x.2.1 = true) : InvK TOT rd bd s b (kidS rd f (backL s f p) ks m).1 (some x.2.2) x.2.2 l (kidS rd f (backL s f p) ks m).2 := by
  obtain ⟨at_, t, nx⟩ := x
  unfold InvK afterK at h ⊢
  rw [List.map_cons, kidsG, h1] at h
  rw [h]
  exact fold_kid f (backL s f p) _
theorem inv_last0 (h : InvK TOT rd bd s b ks none p (x :: l) m) (h1 : isMark bd x.2.1 = false) (h2 : isLast bd x.2.1 = true) : TOT = (ks, m) := by
  obtain ⟨at_, t, nx⟩ := x
  unfold InvK afterK at h
  rw [List.map_cons, kidsG, h1, h2] at h
  rw [h]
  simp [foldK]
theorem inv_last1 (h : InvK TOT rd bd s b ks (some f) p (x :: l) m) (h1 : isMark bd x.2.1 = false) (h2 : isLast bd x.2.1 = true) : TOT = kidS rd f (backL s f p) ks m := by
  obtain ⟨at_, t, nx⟩ := x
  unfold InvK afterK at h
  rw [List.map_cons, kidsG, h1, h2] at h
  rw [h]
  exact fold_kid1 f (backL s f p)
theorem inv_end0 (h : InvK TOT rd bd s b ks none p [] m) : TOT = (ks, m) := by
  unfold InvK afterK at h
  rw [List.map_nil, kidsG] at h
  rw [h]
  simp [foldK]
theorem inv_end1 (h : InvK TOT rd bd s b ks (some f) p [] m) : TOT = kidS rd f b ks m := by
  unfold InvK afterK at h
  rw [List.map_nil, kidsG] at h
  rw [h]
  exact fold_kid1 f b
end Go.Proofs.YtkmopneeafbeaaaDoor.Pt
namespace Go.Proofs.YtkmopneeafbeaaaDoor.Pt
open Go Go.RowKit Go.Joins Kit F0

theorem rfirst_call (v : Value) (fs : List Fl) (name : ByteArray) (w : World) (hv : FAt w v fs) (hsz : ∀ f ∈ fs, f.1.length ≤ 1073741824 ∧ f.2.length ≤ 1073741824) (hn : name.size ≤ 1073741824) (hc : fs.length ≤ 1073741824) :
    Calls Tryd.prog 46 #[v, .string name] w fun e w' => e = .returned (.tuple #[sV (fvL fs name.data.toList), .bool (fstL fs name.data.toList).isSome]) ∧ Below w.heap.size w w' := by
  refine (rfirst_any v fs name w hv (fun f hf => ⟨Nat.le_trans (hsz f hf).1 (by omega), Nat.le_trans (hsz f hf).2 (by omega)⟩) (by omega) (by omega)).mono ?_
  rintro e w' ⟨rfl, hb⟩
  refine ⟨?_, hb⟩
  have h : firstL fs name.data.toList = fstL fs name.data.toList := rfl
  rw [h]
  unfold fvL
  cases fstL fs name.data.toList <;> rfl
theorem pform {Q : Nat → Prop} {w : World} {j : P} {c0 c1 c2 c3 c4 c5 c6 c7 : Value} (h : PartAt Q w j (.agg #[c0, c1, c2, c3, c4, c5, c6, c7])) :
    ∃ x0 a1 l1 m1 x2 x3 x4 x5 x6 a7 m7, c0 = .string x0 ∧ c1 = .slice a1 l1 m1 ∧ c2 = .string x2 ∧ c3 = .bool x3 ∧ c4 = .int .i64 x4 ∧ c5 = .int .i64 x5 ∧ c6 = .int .i64 x6 ∧ c7 = .slice a7 j.kids.length m7 := by
  obtain ⟨ap, mp, ak, mk, e, _⟩ := part_cells h
  injection e with e
  injection e with e
  injection e with e0 e
  injection e with e1 e
  injection e with e2 e
  injection e with e3 e
  injection e with e4 e
  injection e with e5 e
  injection e with e6 e
  injection e with e7 e
  exact ⟨_, _, _, _, _, _, _, _, _, _, _, e0, e1, e2, e3, e4, e5, e6, e7⟩
def fromI : Option Nat → Int
  | none => -1
  | some f => (f : Int)
/-- What part answers. -/
def RPartOk (s : ByteArray) (d : Nat) : Prop := ∀ (a b n C : Nat) (w : World), a ≤ b → b ≤ s.size → n ≤ 29 → Ct s C n w →
  Calls Tryd.prog 27 #[.pointer (some ⟨C, 0, none⟩), .int .i64 (a : Int), .int .i64 (b : Int), .int .i64 (6 - (d : Int))] w fun e w' =>
    ∃ c0 c1 c2 c3 c4 c5 c6 c7, e = .returned (.agg #[c0, c1, c2, c3, c4, c5, c6, c7]) ∧ PartAt (fun g => w.heap.size ≤ g) w' (readL s.data.toList d a b (n + 1)).1 (.agg #[c0, c1, c2, c3, c4, c5, c6, c7]) ∧ Ct s C (readL s.data.toList d a b (n + 1)).2 w' ∧ Step C w w'

set_option maxHeartbeats 8000000 in
set_option maxRecDepth 100000 in
theorem rpart_in (s : ByteArray) (hs : s.size ≤ 32768) (d : Nat) (hd : d ≤ 6) (ih : ∀ d', d = d' + 1 → RPartOk s d') : RPartOk s d := by
  intro a b n C w hab hbs hn hCt
  have HIH := Lib.hid ih
  have hbl : b ≤ s.data.toList.length := by rw [← Lib.size_eq]; exact hbs
  have hsz1 := head_sizes (s := s.data.toList) (a := a) hbl
  have hts := type_sizes (s := s.data.toList) (a := a) hbl
  have hin := split_in (s := s.data.toList) hab hbl
  obtain ⟨H, hH⟩ : ∃ H, headL s.data.toList a b = H := ⟨_, rfl⟩
  rw [hH] at hsz1 hts hin
  obtain ⟨fs, body⟩ := H
  have HH := Lib.hid hH
  have HTS := Lib.hid hts
  have hsl : s.data.toList.length ≤ 32768 := by rw [← Lib.size_eq]; exact hs
  have hsz : ∀ f ∈ fs, f.1.length ≤ 1073741824 ∧ f.2.length ≤ 1073741824 := fun f hf => by have := hsz1.1 f hf; omega
  have hcn : fs.length ≤ 1073741824 := by have := hsz1.2; simp only at this; omega
  have HSZ := Lib.hid (And.intro hsz hcn)
  have hbd1 : a ≤ body := hin.1
  have hbd2 : body ≤ b := hin.2
  have HCT := Lib.hid hCt
  have HMK := Lib.hid (rp_made hCt ((n : Int) + 1) (by omega))
  have HSL := Lib.hid hsl
  clear ih hH hts hsz1 hin hsz hcn hsl hbl
  have hW0 : w.alloc (.cells #[.string ⟨#[]⟩, .slice none 0 0, .string ⟨#[]⟩, .bool false, .int .i64 0, .int .i64 0, .int .i64 0, .slice none 0 0] 31) = newP w := rfl
  have hC0 : Ct s C n (newP w) := hCt.below ((Below.refl _ w).alloc (Nat.le_refl _) _)
  have k0 := hC0.c0
  have k1 := hC0.c1
  have kf := hC0.free 1
  have hn1 : (n : Int) ≤ 29 := by omega
  have hCw := hCt.lt
  clear hCt hC0
  go_enter Tryd.func27, Tryd.ntmps27
  go_upto_region 2 with fail
  clear k0 k1 kf hW0
  obtain ⟨W1, hW1⟩ : ∃ W1, (newP w).setCell ⟨C, 1, none⟩ (.int .i64 ((n : Int) + 1)) = W1 := ⟨_, rfl⟩
  rw [hW1] at HMK ⊢
  clear hW1
  have k0 := HMK.out.1.c0
  go_wp2_with fail
  refine (rsplit_some s a b W1 hs hab hbs).mono ?_
  rintro e w2 ⟨v, rfl, hrow, hb2⟩
  rw [show splitL a b ((s.data.toList.take b).drop a) = (fs, body) from HH.out] at hrow ⊢
  have HR2 := Lib.hid hrow.at
  obtain ⟨va, vc, rfl, _⟩ := hrow.at.form
  have HC2 := Lib.hid (HMK.out.1.below hb2)
  have HZ2 := Lib.hid (HMK.out.2.1.same (hb2.block _ HMK.out.2.1.lt))
  have HS2 := Lib.hid (HMK.out.2.2.trans (Step.of_below hb2))
  have HRP := Lib.hid (rp_begin (c0 := .string ⟨#[116, 101, 120, 116, 47, 112, 108, 97, 105, 110]⟩) (c1 := .slice none 0 0) (c2 := .string ⟨#[55, 98, 105, 116]⟩) (c3 := .bool false) (c4 := .int .i64 (a : Int)) (c5 := .int .i64 (body : Int)) (c6 := .int .i64 (b : Int)) (c7 := .slice none 0 0) HC2.out HZ2.out HS2.out (Nat.le_refl _) hCw)
  have HB3 : Hid (Below w2.heap.size w2 (w2.alloc (.cells #[.string ⟨#[116, 101, 120, 116, 47, 112, 108, 97, 105, 110]⟩, .slice none 0 0, .string ⟨#[55, 98, 105, 116]⟩, .bool false, .int .i64 (a : Int), .int .i64 (body : Int), .int .i64 (b : Int), .slice none 0 0] 31))) := Lib.hid ((Below.refl _ w2).alloc (Nat.le_refl _) _)
  obtain ⟨W3, hW3⟩ : ∃ W3, w2.alloc (.cells #[.string ⟨#[116, 101, 120, 116, 47, 112, 108, 97, 105, 110]⟩, .slice none 0 0, .string ⟨#[55, 98, 105, 116]⟩, .bool false, .int .i64 (a : Int), .int .i64 (body : Int), .int .i64 (b : Int), .slice none 0 0] 31) = W3 := ⟨_, rfl⟩
  rw [hW3] at HRP HB3
  have HW3 := Lib.hid hW3
  clear hW3 hrow hb2 k0
  go_upto_region 4 with fail
  rw [HW3.out]
  obtain ⟨P, hP⟩ : ∃ P, w2.heap.size = P := ⟨_, rfl⟩
  obtain ⟨R, hR⟩ : ∃ R, w.heap.size = R := ⟨_, rfl⟩
  rw [hP, hR] at HRP
  rw [hP] at HB3
  rw [hP]
  (try rw [hR])
  have HF3 : Hid (∀ W, Below P w2 W → FAt W (.slice va fs.length vc) fs) := Lib.hid (fun W h => HR2.out.below (by rw [hP]; exact h))
  have HPR := Lib.hid (And.intro hP hR)
  clear hP hR
  have HF4 : Hid (Calls Tryd.prog 46 #[.slice va fs.length vc, .string ⟨#[67, 111, 110, 116, 101, 110, 116, 45, 84, 121, 112, 101]⟩] W3 fun e w' => e = .returned (.tuple #[sV (fvL fs ctypeT), .bool (fstL fs ctypeT).isSome]) ∧ Below W3.heap.size W3 w') :=
    Lib.hid (rfirst_call _ fs ⟨#[67, 111, 110, 116, 101, 110, 116, 45, 84, 121, 112, 101]⟩ W3 (HF3.out W3 HB3.out) HSZ.out.1 (by decide) HSZ.out.2)
  go_wp2_with fail
  refine (HF4.out).mono ?_
  rintro e w4 ⟨rfl, hb4⟩
  have HRP4 := Lib.hid (HRP.out.below hb4)
  have HB4 := Lib.hid (HB3.out.trans (hb4.mono (Nat.le_of_lt HRP.out.bp.lt)))
  have HVL : Hid ((fvL fs ctypeT).length ≤ 1073741824) := Lib.hid (fv_len HSZ.out.1 ctypeT)
  have HTY : Hid (typeL fs = if typedL (valuesL (fvL fs ctypeT)).1 then valuesL (fvL fs ctypeT) else (plainT, [])) := Lib.hid rfl
  have HOK : Hid ((fstL fs ctypeT).isSome = false → typedL (valuesL (fvL fs ctypeT)).1 = false) := Lib.hid (fun h => by
    have h2 : fvL fs ctypeT = [] := by unfold fvL; cases hx : fstL fs ctypeT with | none => rfl | some f => rw [hx] at h; cases h
    rw [h2]; decide)
  obtain ⟨X, hX⟩ : ∃ X, fvL fs ctypeT = X := ⟨_, rfl⟩
  rw [hX] at HVL HTY HOK ⊢
  obtain ⟨ok, hok⟩ : ∃ ok, (fstL fs ctypeT).isSome = ok := ⟨_, rfl⟩
  rw [hok] at HOK ⊢
  have HXX := Lib.hid hX
  clear hX hok hb4
  unfold sV
  go_wp2_with fail
  refine (rvalues_any ⟨X.toArray⟩ w4 (by rw [Lib.size_mk]; exact HVL.out)).mono ?_
  rintro e w5 ⟨pv, rfl, hrow5, hb5⟩
  rw [show (ByteArray.mk X.toArray).data.toList = X from rfl] at hrow5 ⊢
  obtain ⟨pa, pc, rfl⟩ := hrow5.form
  have HXL := Lib.hid (values_len X)
  obtain ⟨V, hV⟩ : ∃ V, valuesL X = V := ⟨_, rfl⟩
  rw [hV] at hrow5 HTY HOK HXL ⊢
  obtain ⟨V1, V2⟩ := V
  have HVV := Lib.hid hV
  have HRP' : Hid (R < P) := Lib.hid (by have h1 := HRP.out.hP; have h2 := HPR.out.2; have h3 := HRP.out.ne; omega)
  have HLP : Hid (R ≤ P) := Lib.hid (by have := HRP.out.hP; have := HPR.out.2; omega)
  have HRP5 := Lib.hid (HRP4.out.below hb5)
  have HB5 := Lib.hid (HB4.out.trans (hb5.mono (Nat.le_of_lt HRP4.out.bp.lt)))
  have HCV : Hid (CellsAt (fun g => P < g) w5 V2.length (.slice pa V2.length pc) (fC V2)) := Lib.hid (cells_own hrow5 (fun g hg => Nat.lt_of_lt_of_le HRP4.out.bp.lt hg))
  obtain ⟨T, hT⟩ : ∃ T, typedL V1 = T := ⟨_, rfl⟩
  simp only [hT] at HTY HOK
  have HTT := Lib.hid hT
  have hv1 : V1.length ≤ 1073741824 := Nat.le_trans HXL.out.1 HVL.out
  clear hV hT hb5 hrow5
  unfold sV
  go_upto_region 6 with fail
  go_cut [59] from 55 to 58 (fun tv wx => tv = .bool T ∧ w5 = wx)
  case first =>
    cases ok
    · have HT0 : Hid (T = false) := Lib.hid (HOK.out rfl)
      go_wp2_with fail
      go_meet
      exact ⟨by rw [HT0.out], rfl⟩
    · go_wp2_with fail
      refine (rtyped_any ⟨V1.toArray⟩ w5 (by rw [Lib.size_mk]; exact hv1)).mono ?_
      rintro e w6 ⟨rfl, rfl⟩
      rw [show (ByteArray.mk V1.toArray).data.toList = V1 from rfl, HTT.out]
      go_wp2_with fail
      go_meet
      exact ⟨rfl, rfl⟩
  case rest =>
  obtain ⟨rfl, rfl⟩ := hcut
  go_upto_if 59 with fail
  obtain ⟨TY, hTY⟩ : ∃ TY, typeL fs = TY := ⟨_, rfl⟩
  rw [hTY] at HTY HTS
  obtain ⟨ty, ps⟩ := TY
  have HTYP := Lib.hid hTY
  clear hTY
  go_cut [] from 60 to 63 (fun wx => ∃ qa qc, Hid (Rp s C (n + 1) R P (.string ⟨ty.toArray⟩) (.slice qa ps.length qc) (.string ⟨#[55, 98, 105, 116]⟩) (.bool false) (.int .i64 (a : Int)) (.int .i64 (body : Int)) (.int .i64 (b : Int)) (.slice none 0 0) w wx) ∧ Hid (Below P w2 wx) ∧ Hid (CellsAt (fun g => P < g) wx ps.length (.slice qa ps.length qc) (fC ps)))
  case first =>
    cases T
    · have hty : Hid ((ty, ps) = (plainT, [])) := Lib.hid (by rw [HTY.out]; rfl)
      obtain ⟨rfl, rfl⟩ := Prod.mk.inj hty.out
      go_wp2_with fail
      go_meet
      exact ⟨none, 0, HRP5, HB5, Lib.hid (Or.inl ⟨⟨none, 0, rfl⟩, rfl, rfl⟩)⟩
    · have hty : Hid ((ty, ps) = (V1, V2)) := Lib.hid (by rw [HTY.out]; rfl)
      obtain ⟨rfl, rfl⟩ := Prod.mk.inj hty.out
      have u0 := HRP5.out.bp.p0
      have u1 := HRP5.out.bp.p1
      have e0 := HRP5.out.bp.free 0
      have e1 := HRP5.out.bp.free 1
      have HN := Lib.hid ((HRP5.out.set0 (.string ⟨ty.toArray⟩)).set1 (.slice pa ps.length pc))
      have HNB := Lib.hid ((HB5.out.setCell (p := ⟨P, 0, none⟩) (Nat.le_refl _) (.string ⟨ty.toArray⟩)).setCell (p := ⟨P, 1, none⟩) (Nat.le_refl _) (.slice pa ps.length pc))
      have HNC := Lib.hid ((HCV.out.keep (kept_set (g := P) (o := 0) (v := .string ⟨ty.toArray⟩) (Nat.lt_irrefl _))).keep (kept_set (g := P) (o := 1) (v := .slice pa ps.length pc) (Nat.lt_irrefl _)))
      go_wp2_with fail
      go_meet
      exact ⟨pa, pc, HN, HNB, HNC⟩
  case rest =>
  obtain ⟨qa, qc, HR6, HB6, HC6⟩ := hcut
  have HF7 : Hid (Calls Tryd.prog 46 #[.slice va fs.length vc, .string ⟨#[67, 111, 110, 116, 101, 110, 116, 45, 84, 114, 97, 110, 115, 102, 101, 114, 45, 69, 110, 99, 111, 100, 105, 110, 103]⟩] wc fun e w' => e = .returned (.tuple #[sV (fvL fs cencT), .bool (fstL fs cencT).isSome]) ∧ Below wc.heap.size wc w') :=
    Lib.hid (rfirst_call _ fs ⟨#[67, 111, 110, 116, 101, 110, 116, 45, 84, 114, 97, 110, 115, 102, 101, 114, 45, 69, 110, 99, 111, 100, 105, 110, 103]⟩ wc (HF3.out wc HB6.out) HSZ.out.1 (by decide) HSZ.out.2)
  clear HCV HRP5 HB5 HVV HXL HTY HOK HTT HRP4 HB4 hv1
  go_wp2_with fail
  refine (HF7.out).mono ?_
  rintro e w7 ⟨rfl, hb7⟩
  have HR7 := Lib.hid (HR6.out.below hb7)
  have HB7 := Lib.hid (HB6.out.trans (hb7.mono (Nat.le_of_lt HR6.out.bp.lt)))
  have HC7 := Lib.hid (HC6.out.keep (kept_below hb7))
  have HEN : Hid (encL fs = if (fstL fs cencT).isSome then smallL (fvL fs cencT) else bit7) := Lib.hid (by unfold encL fvL; cases fstL fs cencT <;> rfl)
  have HVE : Hid ((fvL fs cencT).length ≤ 1073741824) := Lib.hid (fv_len HSZ.out.1 cencT)
  obtain ⟨ev, hev⟩ : ∃ ev, fvL fs cencT = ev := ⟨_, rfl⟩
  rw [hev] at HEN HVE ⊢
  obtain ⟨ok2, hok2⟩ : ∃ ok, (fstL fs cencT).isSome = ok := ⟨_, rfl⟩
  rw [hok2] at HEN ⊢
  obtain ⟨EN, hEN⟩ : ∃ EN, encL fs = EN := ⟨_, rfl⟩
  rw [hEN] at HEN
  have HENC := Lib.hid hEN
  clear hev hok2 hb7 hEN HF7
  unfold sV
  go_upto_if 69 with fail
  go_cut [] from 69 to 73 (fun wx => Hid (Rp s C (n + 1) R P (.string ⟨ty.toArray⟩) (.slice qa ps.length qc) (.string ⟨EN.toArray⟩) (.bool false) (.int .i64 (a : Int)) (.int .i64 (body : Int)) (.int .i64 (b : Int)) (.slice none 0 0) w wx) ∧ Hid (Below P w2 wx) ∧ Hid (CellsAt (fun g => P < g) wx ps.length (.slice qa ps.length qc) (fC ps)))
  case first =>
    cases ok2
    · have hen : EN = bit7 := by rw [HEN.out]; rfl
      subst hen
      go_wp2_with fail
      go_meet
      exact ⟨HR7, HB7, HC7⟩
    · have HES : Hid (Tx.foldL (trimL ev) = EN) := Lib.hid (by rw [HEN.out]; rfl)
      have HTL : Hid ((trimL ev).length ≤ 1073741824) := Lib.hid (Nat.le_trans (trimL_le ev) HVE.out)
      go_wp2_with fail
      refine (rtrim_any ⟨ev.toArray⟩ w7 (by rw [Lib.size_mk]; have := HVE.out; omega)).mono ?_
      rintro e w8 ⟨rfl, rfl⟩
      rw [show (ByteArray.mk ev.toArray).data.toList = ev from rfl]
      unfold sV
      go_wp2_with fail
      refine (rfold2 (trimL ev) w7 (by have := HTL.out; omega)).mono ?_
      rintro e w8 ⟨rfl, hb8⟩
      rw [HES.out]
      have HR8 := Lib.hid (HR7.out.below hb8)
      have HB8 := Lib.hid (HB7.out.trans (hb8.mono (Nat.le_of_lt HR7.out.bp.lt)))
      have HC8 := Lib.hid (HC7.out.keep (kept_below hb8))
      have u2 := HR8.out.bp.p2
      have e2 := HR8.out.bp.free 2
      clear hb8
      go_wp2_with fail
      go_meet
      exact ⟨Lib.hid (HR8.out.set2 _), Lib.hid (HB8.out.setCell (p := ⟨P, 2, none⟩) (Nat.le_refl _) _), Lib.hid (HC8.out.keep (kept_set (g := P) (o := 2) (Nat.lt_irrefl _)))⟩
  case rest =>
  obtain ⟨HR9, HB9, HC9⟩ := hcut
  clear HR6 HB6 HC6 HR7 HB7 HC7 HEN HVE
  have HF9 : Hid (Calls Tryd.prog 46 #[.slice va fs.length vc, .string ⟨#[67, 111, 110, 116, 101, 110, 116, 45, 68, 105, 115, 112, 111, 115, 105, 116, 105, 111, 110]⟩] wc fun e w' => e = .returned (.tuple #[sV (fvL fs cdispT), .bool (fstL fs cdispT).isSome]) ∧ Below wc.heap.size wc w') :=
    Lib.hid (rfirst_call _ fs ⟨#[67, 111, 110, 116, 101, 110, 116, 45, 68, 105, 115, 112, 111, 115, 105, 116, 105, 111, 110]⟩ wc (HF3.out wc HB9.out) HSZ.out.1 (by decide) HSZ.out.2)
  go_wp2_with fail
  refine (HF9.out).mono ?_
  rintro e w10 ⟨rfl, hb10⟩
  have HR10 := Lib.hid (HR9.out.below hb10)
  have HB10 := Lib.hid (HB9.out.trans (hb10.mono (Nat.le_of_lt HR9.out.bp.lt)))
  have HC10 := Lib.hid (HC9.out.keep (kept_below hb10))
  have HVD : Hid ((fvL fs cdispT).length ≤ 1073741824) := Lib.hid (fv_len HSZ.out.1 cdispT)
  have HAT : Hid (attL fs = ((valuesL (fvL fs cdispT)).1 == attachT)) := Lib.hid rfl
  obtain ⟨dv, hdv⟩ : ∃ dv, fvL fs cdispT = dv := ⟨_, rfl⟩
  rw [hdv] at HVD HAT ⊢
  clear hdv hb10 HF9
  unfold sV
  go_wp2_with fail
  refine (rvalues_any ⟨dv.toArray⟩ w10 (by rw [Lib.size_mk]; exact HVD.out)).mono ?_
  rintro e w11 ⟨dpv, rfl, hdrow, hb11⟩
  rw [show (ByteArray.mk dv.toArray).data.toList = dv from rfl] at hdrow ⊢
  obtain ⟨da, dc, rfl⟩ := hdrow.form
  obtain ⟨dl, hdl⟩ : ∃ dl, (valuesL dv).2 = dl := ⟨_, rfl⟩
  rw [hdl]
  obtain ⟨WD, hWD⟩ : ∃ WD, (valuesL dv).1 = WD := ⟨_, rfl⟩
  rw [hWD] at HAT ⊢
  have HR11 := Lib.hid (HR10.out.below hb11)
  have HB11 := Lib.hid (HB10.out.trans (hb11.mono (Nat.le_of_lt HR10.out.bp.lt)))
  have HC11 := Lib.hid (HC10.out.keep (kept_below hb11))
  clear hb11 hdrow hdl hWD
  obtain ⟨ab, hq⟩ : ∃ ab, (WD == [97, 116, 116, 97, 99, 104, 109, 101, 110, 116]) = ab := ⟨_, rfl⟩
  have HAB : Hid (attL fs = ab) := Lib.hid (by rw [HAT.out, ← hq]; rfl)
  have u3 := HR11.out.bp.p3
  have e3 := HR11.out.bp.free 3
  have HR12 := Lib.hid (HR11.out.set3 (.bool ab))
  have HB12 := Lib.hid (HB11.out.setCell (p := ⟨P, 3, none⟩) (Nat.le_refl _) (.bool ab))
  have HC12 := Lib.hid (HC11.out.keep (kept_set (g := P) (o := 3) (v := .bool ab) (Nat.lt_irrefl _)))
  obtain ⟨W12, hW12⟩ : ∃ W12, w11.setCell ⟨P, 3, none⟩ (.bool ab) = W12 := ⟨_, rfl⟩
  rw [hW12] at HR12 HB12 HC12
  have HW12 := Lib.hid hW12
  clear hW12 HR9 HB9 HC9 HR10 HB10 HC10 HAT
  unfold sV
  go_upto_region 15 with fail
  rw [HW12.out]
  clear hq u3 e3 HW12 HR11 HB11 HC11
  have HPSZ : Hid ((∀ f ∈ ps, f.1.length ≤ 1073741824 ∧ f.2.length ≤ 1073741824) ∧ ps.length ≤ 1073741824 ∧ ty.length ≤ 1073741824) := Lib.hid (by
    have h1 := HTS.out
    have h2 := HSL.out
    exact ⟨fun f hf => by have := h1.2.2 f hf; omega, by omega, by omega⟩)
  have HF12 : Hid (Calls Tryd.prog 46 #[.slice qa ps.length qc, .string ⟨#[98, 111, 117, 110, 100, 97, 114, 121]⟩] W12 fun e w' => e = .returned (.tuple #[sV (fvL ps boundT), .bool (fstL ps boundT).isSome]) ∧ Below W12.heap.size W12 w') :=
    Lib.hid (rfirst_call _ ps ⟨#[98, 111, 117, 110, 100, 97, 114, 121]⟩ W12 (cells_fields HC12.out) HPSZ.out.1 (by decide) HPSZ.out.2.1)
  have u1 := HR12.out.bp.p1
  go_wp2_with fail
  refine (HF12.out).mono ?_
  rintro e w13 ⟨rfl, hb13⟩
  have HR13 := Lib.hid (HR12.out.below hb13)
  have HB13 := Lib.hid (HB12.out.trans (hb13.mono (Nat.le_of_lt HR12.out.bp.lt)))
  have HC13 := Lib.hid (HC12.out.keep (kept_below hb13))
  have HMK1 : Hid (markL ty ps = if Lib.hasPrefix ty multiT then (if (fvL ps boundT).isEmpty then none else some (fvL ps boundT)) else none) := Lib.hid (by
    unfold markL fvL
    cases fstL ps boundT <;> rfl)
  have HMO : Hid ((fstL ps boundT).isSome = false → fvL ps boundT = []) := Lib.hid (fun h => by unfold fvL; cases hx : fstL ps boundT with | none => rfl | some f => rw [hx] at h; cases h)
  have HMKL : Hid ((fvL ps boundT).length ≤ 32768) := Lib.hid (by
    have h1 := HTS.out
    have h2 := HSL.out
    exact Nat.le_trans (fv_len h1.2.2 boundT) h2)
  obtain ⟨MK, hMK⟩ : ∃ MK, fvL ps boundT = MK := ⟨_, rfl⟩
  rw [hMK] at HMK1 HMO HMKL ⊢
  obtain ⟨ok3, hok3⟩ : ∃ ok, (fstL ps boundT).isSome = ok := ⟨_, rfl⟩
  rw [hok3] at HMO ⊢
  have HHAS : Hid (hasL s.data.toList a b = markL ty ps) := Lib.hid (by unfold hasL; rw [HH.out, HTYP.out])
  have HPART : Hid (∀ l, partL s.data.toList a b l = .mk ty ps EN ab a body b l) := Lib.hid (fun l => by unfold partL; rw [HH.out, HTYP.out, HENC.out, HAB.out])
  clear hMK hok3 hb13 HF12 HR12 HB12 HC12 u1
  unfold sV
  have u0 := HR13.out.bp.p0
  go_upto_region 16 with fail
  go_cut [114] from 93 to 113 (fun tv wx => ∃ LF : Bool, tv = .bool LF ∧ Hid (LF = true → d = 0 ∨ markL ty ps = none) ∧ Hid (LF = false → 0 < d ∧ markL ty ps = some MK ∧ MK ≠ []) ∧ w13 = wx)
  case first =>
    have htl : (ByteArray.mk ty.toArray).size = ty.length := by rw [Lib.size_mk]
    by_cases hd0 : d = 0
    · have g1 : (6 : Int) ≤ 6 - (d : Int) := by omega
      go_wp2_with fail
      go_meet
      exact ⟨true, rfl, Lib.hid (fun _ => Or.inl hd0), Lib.hid (fun h => by cases h), rfl⟩
    · have g1 : ¬ (6 : Int) ≤ 6 - (d : Int) := by omega
      by_cases hl10 : ty.length < 10
      · have g2 : (ty.length : Int) < 10 := by omega
        have HN : Hid (markL ty ps = none) := Lib.hid (by
          rw [HMK1.out, if_neg]
          intro h
          unfold Lib.hasPrefix at h
          rw [List.isPrefixOf_iff_prefix] at h
          have := h.length_le
          rw [show multiT.length = 10 from rfl] at this
          omega)
        go_wp2_with fail
        go_meet
        exact ⟨true, rfl, Lib.hid (fun _ => Or.inr HN.out), Lib.hid (fun h => by cases h), rfl⟩
      · have g2 : ¬ (ty.length : Int) < 10 := by omega
        have g2' : (10 : Int) ≤ (ty.length : Int) := by omega
        have HX10 : Hid (((ByteArray.mk ty.toArray).extract 0 10).data.toList = ty.take 10) := Lib.hid (by rw [ext_sp]; simp)
        obtain ⟨X10, hX10⟩ : ∃ X10, (ByteArray.mk ty.toArray).extract 0 10 = X10 := ⟨_, rfl⟩
        rw [hX10] at HX10
        have HPX : Hid (Lib.hasPrefix ty multiT = true ↔ ty.take 10 = multiT) := Lib.hid (by
          unfold Lib.hasPrefix
          rw [List.isPrefixOf_iff_prefix]
          constructor
          · rintro ⟨r, rfl⟩
            rfl
          · intro h
            exact ⟨ty.drop 10, by rw [← h, List.take_append_drop]⟩)
        by_cases hpx : ty.take 10 = multiT
        · have q1 : (X10.toList != [109, 117, 108, 116, 105, 112, 97, 114, 116, 47]) = false := by rw [Lib.toList_data, HX10.out, hpx]; rfl
          have q1' : X10.toList = [109, 117, 108, 116, 105, 112, 97, 114, 116, 47] := by rw [Lib.toList_data, HX10.out, hpx]; rfl
          have HP1 : Hid (Lib.hasPrefix ty multiT = true) := Lib.hid (HPX.out.2 hpx)
          clear hpx
          cases ok3
          · have HN : Hid (markL ty ps = none) := Lib.hid (by rw [HMK1.out, HMO.out rfl]; simp)
            go_wp2_with fail
            go_meet
            exact ⟨true, rfl, Lib.hid (fun _ => Or.inr HN.out), Lib.hid (fun h => by cases h), rfl⟩
          · cases MK with
            | nil =>
              have HN : Hid (markL ty ps = none) := Lib.hid (by rw [HMK1.out]; simp)
              go_wp2_with fail
              go_meet
              exact ⟨true, rfl, Lib.hid (fun _ => Or.inr HN.out), Lib.hid (fun h => by cases h), rfl⟩
            | cons mc mr =>
              have HN : Hid (markL ty ps = some (mc :: mr)) := Lib.hid (by rw [HMK1.out, HP1.out]; rfl)
              go_wp2_with fail
              go_meet
              exact ⟨false, rfl, Lib.hid (fun h => by cases h), Lib.hid (fun _ => ⟨by omega, HN.out, by simp⟩), rfl⟩
        · have q1 : (X10.toList != [109, 117, 108, 116, 105, 112, 97, 114, 116, 47]) = true := by
            rw [Lib.toList_data, HX10.out, bne_iff_ne]
            exact hpx
          have q1' : ¬ X10.toList = [109, 117, 108, 116, 105, 112, 97, 114, 116, 47] := by
            rw [Lib.toList_data, HX10.out]
            exact hpx
          have HN : Hid (markL ty ps = none) := Lib.hid (by
            rw [HMK1.out, if_neg]
            intro h
            exact hpx (HPX.out.1 h))
          clear hpx
          go_wp2_with fail
          go_meet
          exact ⟨true, rfl, Lib.hid (fun _ => Or.inr HN.out), Lib.hid (fun h => by cases h), rfl⟩
  case rest =>
  obtain ⟨LF, rfl, HLT, HLF, rfl⟩ := hcut
  cases LF
  · obtain ⟨hd0, hmk, hmk0⟩ := HLF.out rfl
    obtain ⟨d', hd'⟩ : ∃ d', d = d' + 1 := ⟨d - 1, by omega⟩
    obtain ⟨TOT, hTOT⟩ : ∃ TOT, foldK (readL s.data.toList d') (kidsL MK s.data.toList body b) (n + 1) = TOT := ⟨_, rfl⟩
    have HRD : Hid (readL s.data.toList d a b (n + 1) = (.mk ty ps EN ab a body b TOT.1, TOT.2)) := Lib.hid (by
      rw [hd', read_kids (bd := MK) (by rw [HHAS.out, hmk]), HPART.out, HH.out]
      simp only
      rw [hTOT])
    have HTOT := Lib.hid hTOT
    have HD' := Lib.hid hd'
    have HREC : Hid (RPartOk s d') := Lib.hid (HIH.out d' hd')
    obtain ⟨MB, hMB⟩ : ∃ MB : ByteArray, (⟨MK.toArray⟩ : ByteArray) = MB := ⟨_, rfl⟩
    have HMB : Hid (MB.data.toList = MK) := Lib.hid (by rw [← hMB])
    have hmbs : MB.size ≤ 32768 := by rw [← hMB, Lib.size_mk]; exact HMKL.out
    rw [hMB]
    clear hTOT hd' hmk hmk0 HLT HLF hMB u0
    have k0 := HR13.out.ct.c0
    go_wp2_with fail
    refine (rlines_chain s body b w13 (by omega) hbd2 hbs).mono ?_
    rintro e w14 ⟨v, ls, rfl, hrow, hls, hb14, kend, hch⟩
    obtain ⟨la, lc, rfl⟩ := Rw.form hrow
    have HR14 := Lib.hid (HR13.out.below hb14)
    have HC14 : Hid (CellsAt (fun g => P < g ∧ g < w14.heap.size) w14 ps.length (.slice qa ps.length qc) (fC ps)) := Lib.hid ((HC13.out.keep (kept_below hb14)).keep (kept_block fun g cs t f hg hb => ⟨⟨hg, (Array.getElem?_eq_some_iff.1 hb).1⟩, rfl⟩))
    have HROW := Lib.hid hrow
    have HSEG : Hid (((s.data.toList.take b).drop body).length = b - body) := Lib.hid (by rw [List.length_drop, List.length_take, ← Lib.size_eq]; omega)
    have HLN : Hid (ls.length ≤ 32769) := Lib.hid (by
      have h1 := congrArg List.length hls
      rw [List.length_map] at h1
      have h2 := linesG_count ((s.data.toList.take b).drop body) [] body
      rw [HSEG.out] at h2
      unfold linesL at h1
      omega)
    have HTX : Hid (∀ x ∈ ls, x.2.1.length ≤ 32768) := Lib.hid (fun x hx => by
      have h1 : x.2 ∈ linesL body ((s.data.toList.take b).drop body) := by rw [← hls]; exact List.mem_map_of_mem hx
      have h2 := (linesG_le _ _ _ _ h1).2
      rw [HSEG.out] at h2
      simp at h2
      omega)
    have HINV : Hid (InvK TOT (readL s.data.toList d') MK s.data.toList b [] none body (ls.drop 0) (n + 1)) := Lib.hid (by
      unfold InvK afterK
      rw [List.drop_zero, hls, ← HTOT.out]
      rfl)
    have HRI : Hid (Rise b body ((ls.drop 0).map (·.2))) := Lib.hid (by
      rw [List.drop_zero, hls]
      exact lines_rise hbd2 (by rw [← Lib.size_eq]; exact hbs))
    have HCH : Hid (Chain body (ls.drop 0) kend) := Lib.hid hch
    have hKP : P < w14.heap.size := HR14.out.bp.lt
    obtain ⟨KB, hKB⟩ : ∃ KB, w14.heap.size = KB := ⟨_, rfl⟩
    obtain ⟨LB, hLB⟩ : ∃ LB, w13.heap.size = LB := ⟨_, rfl⟩
    have HLB : Hid (C < LB ∧ P < LB ∧ ∀ g, (Value.slice la ls.length lc).ownBlock = some g → g < KB) := Lib.hid ⟨by have := HR13.out.hC; have := HR13.out.st.size; omega, by have := HR13.out.bp.lt; omega, fun g hg => by
      have := (Rw.block HROW.out hg).2
      obtain ⟨cur, hc⟩ := this
      rw [← hKB]
      exact (Array.getElem?_eq_some_iff.1 hc).1⟩
    rw [hKB] at HC14 hKP
    rw [hLB] at HROW
    obtain ⟨N, hN⟩ : ∃ N, ls.length = N := ⟨_, rfl⟩
    rw [hN] at HROW HLB HLN ⊢
    have HN := Lib.hid hN
    have hKBs : KB ≤ w14.heap.size := by omega
    clear hrow hls hb14 hch hKB hLB hN k0
    have hn32 : (N : Int) ≤ 32769 := by have := HLN.out; omega
    go_wp2_with fail
    go_loopg [19, 20] (N + 1) (fun g fv iv wr => ∃ (i p m : Nat) (o : Option Nat) (ks : List Pt.P) (ka : Option Addr) (kc : Nat), g = N + 1 - i ∧ i ≤ N ∧ iv = .int .i64 (i : Int) ∧ fv = .int .i64 (fromI o) ∧ p ≤ b ∧ Hid (body ≤ p) ∧ Hid (∀ f, o = some f → body ≤ f ∧ f ≤ p) ∧ ks.length ≤ m ∧ m ≤ 30 ∧
      Hid (InvK TOT (readL s.data.toList d') MK s.data.toList b ks o p (ls.drop i) m) ∧ Hid (Chain p (ls.drop i) kend) ∧ Hid (Rise b p ((ls.drop i).map (·.2))) ∧ Hid (Rp s C m R P (.string ⟨ty.toArray⟩) (.slice qa ps.length qc) (.string ⟨EN.toArray⟩) (.bool ab) (.int .i64 (a : Int)) (.int .i64 (body : Int)) (.int .i64 (b : Int)) (.slice ka ks.length kc) w wr) ∧ Hid (CellsAt (fun g => P < g ∧ g < KB) wr ps.length (.slice qa ps.length qc) (fC ps)) ∧
      Hid (Kids KB (.slice ka ks.length kc) ks wr) ∧ Hid (RowL LB (.slice la N lc) ls wr) ∧ KB ≤ wr.heap.size)
    case atStart => exact ⟨0, body, n + 1, none, [], none, 0, rfl, Nat.zero_le _, rfl, rfl, hbd2, Lib.hid (Nat.le_refl _), Lib.hid (fun f h => by cases h), Nat.zero_le _, by omega, HINV, HCH, HRI, HR14, HC14, Lib.hid (kids_empty _ _), HROW, hKBs⟩
    case round =>
      obtain ⟨i, p, m, o, ks, ka, kc, rfl, hi, rfl, rfl, hpb, HPB, HO, hkm, hm30, HI, HCI, HRI2, HRP2, HC2', HK2, HL2, hKw⟩ := hrel
      clear HINV HRI HCH HR14 HC14 HROW hKBs
      have g0 : (i : Int) ≤ (N : Int) := by omega
      go_upto_if 132 with fail
      go_cut [21, 22] from 129 to 151 (fun ev _ wx => ∃ E : Bool, ev = .bool E ∧ Hid ((∃ x, i < N ∧ ls.drop i = x :: ls.drop (i + 1) ∧ x.2.1.length ≤ 32768 ∧ (E = false → isMark MK x.2.1 = true) ∧ (E = true → isMark MK x.2.1 = false ∧ isLast MK x.2.1 = true)) ∨ (i = N ∧ E = false)) ∧ wr = wx)
      case first =>
        by_cases hlt : i < N
        · have g1 : (i : Int) < (N : Int) := by omega
          have hil : i < ls.length := by rw [HN.out]; exact hlt
          obtain ⟨gl, cap, hv, hgl, r0, r1, r2⟩ := rowL_at0 HL2.out i hil
          injection hv with e1 e2 e3
          subst e1
          obtain ⟨x, hx⟩ : ∃ x, ls[i] = x := ⟨_, rfl⟩
          rw [hx] at r0 r1 r2
          have HDR : Hid (ls.drop i = x :: ls.drop (i + 1)) := Lib.hid (by rw [← hx]; exact List.drop_eq_getElem_cons hil)
          have HXT : Hid (x.2.1.length ≤ 32768) := Lib.hid (HTX.out x (by rw [← hx]; exact List.getElem_mem hil))
          clear hx hil e2 e3
          unfold sV at r1
          go_wp2_with fail
          refine (rtail_any ⟨x.2.1.toArray⟩ wr (by rw [Lib.size_mk]; have := HXT.out; omega)).mono ?_
          rintro e w15 ⟨rfl, rfl⟩
          rw [show (ByteArray.mk x.2.1.toArray).data.toList = x.2.1 from rfl]
          obtain ⟨TT, hTT⟩ : ∃ TT : ByteArray, (⟨(rtrL x.2.1).toArray⟩ : ByteArray) = TT := ⟨_, rfl⟩
          have HTL : Hid (TT.data.toList = rtrL x.2.1) := Lib.hid (by rw [← hTT])
          unfold sV
          rw [hTT]
          clear hTT
          obtain ⟨MKb, hMKb⟩ : ∃ B, isMark MK x.2.1 = B := ⟨_, rfl⟩
          obtain ⟨LSb, hLSb⟩ : ∃ B, isLast MK x.2.1 = B := ⟨_, rfl⟩
          have HQ1 : Hid (((TT.data.toList == [45, 45] ++ MB.data.toList ++ [45, 45]) = LSb)) := Lib.hid (by rw [HTL.out, HMB.out, ← hLSb]; rfl)
          have HQ2 : Hid (((TT.data.toList == [45, 45] ++ MB.data.toList) = MKb)) := Lib.hid (by rw [HTL.out, HMB.out, ← hMKb]; rfl)
          have HM1 := Lib.hid hMKb
          have HL1 := Lib.hid hLSb
          clear hMKb hLSb
          obtain ⟨LM, hLM⟩ : ∃ LM : ByteArray, (⟨#[45, 45]⟩ : ByteArray) ++ MB = LM := ⟨_, rfl⟩
          obtain ⟨LL, hLL⟩ : ∃ LL : ByteArray, LM ++ ⟨#[45, 45]⟩ = LL := ⟨_, rfl⟩
          have hlms : LM.size = 2 + MB.size := by rw [← hLM, ByteArray.size_append]; rfl
          have q1 : (TT.toList == LL.toList) = LSb := by rw [← HQ1.out, Lib.toList_data, Lib.toList_data, ← hLL, ← hLM]; simp
          have q2 : (TT.toList == LM.toList) = MKb := by rw [← HQ2.out, Lib.toList_data, Lib.toList_data, ← hLM]; simp
          have q3 : (TT.toList != LM.toList) = !MKb := by rw [← q2]; rfl
          cases MKb
          · cases LSb
            · have HIN := HI.out
              have HCN := HCI.out
              have HRN := HRI2.out
              rw [HDR.out] at HIN HCN HRN
              have HIN2 := Lib.hid (inv_other HIN HM1.out HL1.out)
              have HCN2 : Hid (x.1 = p ∧ Chain x.2.2 (ls.drop (i + 1)) kend) := Lib.hid HCN
              have HRN2 : Hid (p ≤ x.2.2 ∧ x.2.2 ≤ b ∧ Rise b x.2.2 ((ls.drop (i + 1)).map (·.2))) := Lib.hid HRN
              clear HIN HCN HRN
              go_wp2_with fail
              go_roundg (N + 1 - (i + 1))
              case measure => omega
              case rel => exact ⟨i + 1, x.2.2, m, o, ks, ka, kc, rfl, by omega, by go_num, rfl, HRN2.out.2.1, Lib.hid (by have := HPB.out; have := HRN2.out.1; omega), Lib.hid (fun f h => by have := HO.out f h; have := HRN2.out.1; omega), hkm, hm30, HIN2, Lib.hid HCN2.out.2, Lib.hid HRN2.out.2.2, HRP2, HC2', HK2, HL2, hKw⟩
            · go_wp2_with fail
              go_meet
              have hkind : (true = false → isMark MK x.2.1 = true) ∧ (true = true → isMark MK x.2.1 = false ∧ isLast MK x.2.1 = true) := ⟨fun h => absurd h (by decide), fun _ => ⟨HM1.out, HL1.out⟩⟩
              exact ⟨true, rfl, Lib.hid (Or.inl ⟨x, hlt, HDR.out, HXT.out, hkind⟩), rfl⟩
          · have hls : LSb = false := by rw [← HL1.out]; exact mark_not_last HM1.out
            subst hls
            go_wp2_with fail
            go_meet
            have hkind : (false = false → isMark MK x.2.1 = true) ∧ (false = true → isMark MK x.2.1 = false ∧ isLast MK x.2.1 = true) := ⟨fun _ => HM1.out, fun h => absurd h (by decide)⟩
            exact ⟨false, rfl, Lib.hid (Or.inl ⟨x, hlt, HDR.out, HXT.out, hkind⟩), rfl⟩
        · have g1 : ¬ (i : Int) < (N : Int) := by omega
          go_wp2_with fail
          go_meet
          exact ⟨false, rfl, Lib.hid (Or.inr ⟨by omega, rfl⟩), rfl⟩
      case rest =>
        obtain ⟨E, rfl, HE, rfl⟩ := hcut
        have gE : fromI o = (match o with | none => (-1 : Int) | some f => (f : Int)) := by cases o <;> rfl
        clear gE
        go_upto_if 153 with fail
        go_cut [23] from 154 to 187 (fun _ wx => ∃ (ks' : List Pt.P) (m' : Nat) (ka' : Option Addr) (kc' : Nat), Hid (o = none → ks' = ks ∧ m' = m) ∧ Hid (∀ f, o = some f → (ks', m') = kidS (readL s.data.toList d') f (if i < N then backL s.data.toList f p else b) ks m) ∧ ks'.length ≤ m' ∧ m' ≤ 30 ∧
          Hid (Rp s C m' R P (.string ⟨ty.toArray⟩) (.slice qa ps.length qc) (.string ⟨EN.toArray⟩) (.bool ab) (.int .i64 (a : Int)) (.int .i64 (body : Int)) (.int .i64 (b : Int)) (.slice ka' ks'.length kc') w wx) ∧ Hid (CellsAt (fun g => P < g ∧ g < KB) wx ps.length (.slice qa ps.length qc) (fC ps)) ∧ Hid (Kids KB (.slice ka' ks'.length kc') ks' wx) ∧ Hid (RowL LB (.slice la N lc) ls wx) ∧ KB ≤ wx.heap.size)
        case first =>
          cases o with
          | none =>
            go_wp2_with fail
            go_meet
            exact ⟨ks, m, ka, kc, Lib.hid (fun _ => ⟨rfl, rfl⟩), Lib.hid (fun f h => by cases h), hkm, hm30, HRP2, HC2', HK2, HL2, hKw⟩
          | some f =>
            have HFP := Lib.hid (HO.out f rfl)
            have gf : (0 : Int) ≤ fromI (some f) := by show (0 : Int) ≤ (f : Int); omega
            have hff : fromI (some f) = (f : Int) := rfl
            rw [hff] at gf ⊢
            clear hff
            obtain ⟨ee, hee⟩ : ∃ ee, (if i < N then backL s.data.toList f p else b) = ee := ⟨_, rfl⟩
            have HEE := Lib.hid hee
            have HEB : Hid (f ≤ ee ∧ ee ≤ b) := Lib.hid (by
              rw [← hee]
              have h1 := back_ge s.data.toList f p
              have h2 := back_le s.data.toList HFP.out.2
              have h3 := HFP.out.2
              split <;> omega)
            clear hee
            go_upto_if 153 with fail
            go_upto_if 158 with fail
            go_cut [23] from 155 to 171 (fun tv wx => tv = .int .i64 (ee : Int) ∧ Hid (Below wr.heap.size wr wx))
            case first =>
              by_cases hlt : i < N
              · have g1 : (i : Int) < (N : Int) := by omega
                have hil : i < ls.length := by rw [HN.out]; exact hlt
                obtain ⟨gl, cap, hv, hgl, r0, r1, r2⟩ := rowL_at0 HL2.out i hil
                injection hv with e1 e2 e3
                subst e1
                have hat : ls[i].1 = p := by
                  have h := HCI.out
                  rw [List.drop_eq_getElem_cons hil] at h
                  exact h.1
                rw [hat] at r0
                have HEQ : Hid (backL s.data.toList f p = ee) := Lib.hid (by rw [← HEE.out, if_pos hlt])
                have hC0 := HRP2.out.ct.c0
                have hmx : ∀ (ts : Array TypeId) (t : TypeId) (W : World), (Builtin.max_ ts t #[.int .i64 (f : Int), .int .i64 (ee : Int)]).run Tryd.prog W = .ok (.int .i64 (ee : Int)) W := fun ts t W => by
                  have h9 := HEB.out.1
                  simp [Builtin.max_, Builtin.max2]
                  omega
                have HBK : Hid (Calls Tryd.prog 50 #[.string s, .int .i64 (p : Int), .int .i64 (f : Int)] wr.drew fun e w' => e = .returned (.int .i64 (ee : Int)) ∧ wr.drew = w') := Lib.hid (by
                  have := rback_any s f p HFP.out.2 (Nat.le_trans hpb hbs) wr.drew (by omega)
                  rw [HEQ.out] at this
                  exact this)
                have HS0 : Hid (wr.drew.cell? ⟨C, 0, none⟩ = some (.string s) ∧ wr.drew.cell? ⟨gl, i * 3, none⟩ = some (.int .i64 (p : Int))) := Lib.hid ⟨hC0, r0⟩
                clear hat hil e2 e3 r1 r2
                go_upto_region 31 with fail
                go_region_held3 (fun w' : World => w'.cell? ⟨C, 0, none⟩ = some (.string s) ∧ w'.cell? ⟨gl, i * 3, none⟩ = some (.int .i64 (p : Int)))
                  (first | with_reducible exact HS0.out)
                  (first | (with_reducible refine (HBK.out).mono ?_; rintro e w16 ⟨rfl, rfl⟩))
                all_goals
                  go_wp2_with fail
                  go_meet
                  exact ⟨rfl, Lib.hid ((Below.refl _ wr).drew)⟩
              · have g1 : ¬ (i : Int) < (N : Int) := by omega
                have HEQ : Hid (b = ee) := Lib.hid (by rw [← HEE.out, if_neg hlt])
                go_wp2_with fail
                go_meet
                exact ⟨by rw [HEQ.out], Lib.hid (Below.refl _ wr)⟩
            case rest =>
              obtain ⟨rfl, HBX⟩ := hcut
              have HRP3 := Lib.hid (HRP2.out.below HBX.out)
              have HC3 := Lib.hid (HC2'.out.keep (kept_below HBX.out))
              have HK3 := Lib.hid (HK2.out.below HBX.out)
              have HL3 := Lib.hid (Rw.below HL2.out HBX.out)
              have hKw3 : KB ≤ wc.heap.size := Nat.le_trans hKw HBX.out.size
              have k1 := HRP3.out.ct.c1
              by_cases hm : m < 30
              · have gm : (m : Int) < 30 := by omega
                obtain ⟨RK, hRK⟩ : ∃ RK, readL s.data.toList d' f ee (m + 1) = RK := ⟨_, rfl⟩
                have HRKC : Hid (m + 1 ≤ RK.2 ∧ RK.2 ≤ 30) := Lib.hid (by rw [← hRK]; exact read_count s.data.toList d' f ee (m + 1) (by omega))
                have HKS : Hid (∀ f2, some f = some f2 → (ks ++ [RK.1], RK.2) = kidS (readL s.data.toList d') f2 (if i < N then backL s.data.toList f2 p else b) ks m) := Lib.hid (fun f2 hf2 => by
                  injection hf2 with hf2
                  subst hf2
                  unfold kidS
                  rw [if_pos hm, HEE.out, hRK])
                have HCALL : Hid (Calls Tryd.prog 27 #[.pointer (some ⟨C, 0, none⟩), .int .i64 (f : Int), .int .i64 (ee : Int), .int .i64 (6 - (d : Int) + 1)] wc.drew fun e w' =>
                  ∃ c0 c1 c2 c3 c4 c5 c6 c7, e = .returned (.agg #[c0, c1, c2, c3, c4, c5, c6, c7]) ∧ PartAt (fun g => wc.drew.heap.size ≤ g) w' RK.1 (.agg #[c0, c1, c2, c3, c4, c5, c6, c7]) ∧ Ct s C RK.2 w' ∧ Step C wc.drew w') := Lib.hid (by
                  have h4 := HREC.out f ee m C wc.drew HEB.out.1 (Nat.le_trans HEB.out.2 hbs) (by omega) (HRP3.out.ct.same rfl)
                  rw [show (6 - (d' : Int)) = 6 - (d : Int) + 1 by have := HD'.out; omega, hRK] at h4
                  exact h4)
                have hwr : IntKind.i64.wrap (6 - (d : Int) + 1) = 6 - (d : Int) + 1 := by rw [IntKind.wrap_i64]; omega
                have HOWN : Hid (∀ r, (Value.slice ka ks.length kc).ownBlock = some r → KB ≤ r ∧ r < wc.heap.size) := Lib.hid (fun r e => by
                  obtain ⟨q1, cur, q2⟩ := HK3.out.block e
                  exact ⟨q1, (Array.getElem?_eq_some_iff.1 q2).1⟩)
                have hlen : ks.length ≤ 65536 := by omega
                have p7 := HRP3.out.bp.p7
                have f7 := HRP3.out.bp.free 7
                clear hRK
                go_upto_region 33 with fail
                refine wp_region_any (by kernel_rfl) ?_
                try (change wpAny _ _ _ _ _ _ _ (World.drew _))
                refine wpAny_take (i := 0) (v := ?_) rfl (by kernel_rfl) (by kernel_rfl) (by kernel_rfl) (fun _ _ _ h => h) (Or.inl ⟨by rfl, ?_⟩) ?_
                rotate_left 1
                · (intro w; go_simp) <;> with_reducible rfl
                refine wpAny_take (i := 2) (v := ?_) rfl (by kernel_rfl) (by kernel_rfl) (by kernel_rfl) (fun _ _ _ h => h) (Or.inl ⟨by rfl, ?_⟩) ?_
                rotate_left 1
                · (intro w; go_simp) <;> with_reducible rfl
                refine wpAny_take (i := 3) (v := ?_) rfl (by kernel_rfl) (by kernel_rfl) (by kernel_rfl) (fun _ _ _ h => h) (Or.inl ⟨by rfl, ?_⟩) ?_
                rotate_left 1
                · (intro w; go_simp) <;> with_reducible rfl
                refine wpAny_take (i := 4) (v := ?_) rfl (by kernel_rfl) (by kernel_rfl) (by kernel_rfl) (fun _ _ _ h => h) (Or.inl ⟨by rfl, ?_⟩) ?_
                rotate_left 1
                · (intro w; go_simp) <;> with_reducible rfl
                refine wpAny_take (i := 5) (v := ?_) rfl (by kernel_rfl) (by kernel_rfl) (by kernel_rfl) (fun _ _ _ h => h) (Or.inl ⟨by rfl, ?_⟩) ?_
                rotate_left 1
                · (intro w; go_simp) <;> with_reducible rfl
                refine wpAny_take (i := 6) (v := ?_) rfl (by kernel_rfl) (by kernel_rfl) (by kernel_rfl) (fun _ _ _ h => h) (Or.inl ⟨by rfl, ?_⟩) ?_
                rotate_left 1
                · (intro w; go_simp) <;> with_reducible rfl
                refine wpAny_ready (rs := [1, 7]) (by kernel_rfl) (by simp) ?_
                refine AllReady.cons rfl (fun K hK => ?_) (AllReady.cons rfl (fun K hK => ?_) AllReady.nil)
                · go_simp
                  refine hK _ _ ?_
                  clear hK K
                  refine wpAny_ready (rs := [7]) (by kernel_rfl) (by simp) ?_
                  refine AllReady.cons rfl (fun K hK => ?_) AllReady.nil
                  go_simp
                  go_wp2_with fail
                  refine (HCALL.out).mono ?_
                  rintro e w16 ⟨x0, x1, x2, x3, x4, x5, x6, x7, rfl, hpt, hct, hst⟩
                  obtain ⟨t0, t1, t2, t3, t4, t5, t6, t7, t8, t9, t10, rfl, rfl, rfl, rfl, rfl, rfl, rfl, rfl⟩ := pform hpt
                  have HST : Hid (Step C wc w16) := Lib.hid (((Step.refl C wc).drew).trans hst)
                  have HR16 := Lib.hid (HRP3.out.call HST.out hct)
                  have p7b := HR16.out.bp.p7
                  have hP16 := HR16.out.bp.lt
                  have hsz16 : KB ≤ w16.heap.size := Nat.le_trans hKw3 HST.out.size
                  have HCP : Hid (C < P) := Lib.hid (by have := HRP3.out.hC; have := HRP3.out.hP; omega)
                  have HKW : Hid (∀ o, Kids KB (.slice ka ks.length kc) ks (w16.alloc o)) := Lib.hid (fun o => (HK3.out.same (fun g cs t fz hg hb => HST.out.block g (Array.getElem?_eq_some_iff.1 hb).1 (by have := HCP.out; omega))).below ((Below.refl _ w16).alloc (Nat.le_refl _) o))
                  have HJW : Hid (∀ o, PartAt (fun k => KB ≤ k ∧ (Value.slice ka ks.length kc).ownBlock ≠ some k) (w16.alloc o) RK.1 (.agg #[.string t0, .slice t1 t2 t3, .string t4, .bool t5, .int .i64 t6, .int .i64 t7, .int .i64 t8, .slice t9 RK.1.kids.length t10])) := Lib.hid (fun o => PartAt.keep (kept_below ((Below.refl _ w16).alloc (Nat.le_refl _) o)) (PartAt.keep (kept_mono (fun g hg => ⟨Nat.le_trans hKw3 hg, fun e => by have := (HOWN.out g e).2; have h9 : wc.heap.size ≤ g := hg; omega⟩)) hpt))
                  clear hpt hct hst
                  (try go_wp2_with fail)
                  refine wpAny_ready (rs := [8]) (by kernel_rfl) (by simp) ?_
                  refine AllReady.cons rfl (fun K hK => ?_) AllReady.nil
                  go_simp
                  refine hK _ _ ?_
                  clear hK K
                  refine wpAny_ready (rs := [9]) (by kernel_rfl) (by simp) ?_
                  refine AllReady.cons rfl (fun K hK => ?_) AllReady.nil
                  refine Kids.step8 rfl (.tmp 178) (.tmp 185) rfl KB _ (.slice ka ks.length kc) ks (HKW.out _) RK.1 _ _ _ _ _ _ _ _ (HJW.out _) w16.heap.size 1 (0, 0) (Kit.fresh_block w16 _ _) rfl rfl hlen (Nat.le_trans hsz16 (by simp)) ?_
                  intro g c w17 hk17 hg17
                  have HK17 := Lib.hid hk17
                  have HG17 := Lib.hid hg17
                  have HR17 := Lib.hid ((HR16.out.below ((Below.refl _ w16).alloc (Nat.le_refl _) _)).grown HRP'.out hg17 (fun r e => by have := (HOWN.out r e).1; omega))
                  have p7c := HR17.out.bp.p7
                  have f7c := HR17.out.bp.free 7
                  clear hk17 hg17
                  refine hK _ _ ?_
                  clear hK K
                  refine wpAny_take (i := 10) (v := ?_) rfl (by kernel_rfl) (by kernel_rfl) (by kernel_rfl) (fun _ _ _ h => h) (Or.inl ⟨by rfl, ?_⟩) ?_
                  rotate_left 1
                  · (intro w; go_simp) <;> with_reducible rfl
                  refine wpAny_ready (rs := [11]) (by kernel_rfl) (by simp) ?_
                  refine AllReady.cons rfl (fun K hK => ?_) AllReady.nil
                  go_simp
                  refine hK _ _ ?_
                  clear hK K
                  refine wpAny_done (by kernel_rfl) ?_ _
                  go_wp2_with fail
                  go_meet
                  have hll : (ks ++ [RK.1]).length = ks.length + 1 := by simp
                  refine ⟨ks ++ [RK.1], RK.2, some ⟨g, 0, none⟩, c, Lib.hid (fun h => by cases h), HKS, ?_, HRKC.out.2, Lib.hid ?_, Lib.hid ?_, Lib.hid ?_, Lib.hid ?_, ?_⟩
                  · rw [hll]; have := HRKC.out.1; omega
                  · rw [hll]; exact HR17.out.set7 _
                  · exact ((((HC3.out.keep (kept_block fun g2 cs t fz hg hb => ⟨hg, HST.out.block g2 (Array.getElem?_eq_some_iff.1 hb).1 (by have := HCP.out; have := hg.1; omega)⟩)).keep (kept_below ((Below.refl _ w16).alloc (Nat.le_refl _) _))).keep (kept_block fun g2 cs t fz hg hb => ⟨hg, HG17.out.block g2 (Array.getElem?_eq_some_iff.1 hb).1 (fun e => by have := (HOWN.out g2 e.symm).1; have := hg.2; omega)⟩)).keep (kept_set (g := P) (o := 7) (fun h => Nat.lt_irrefl _ h.1)))
                  · rw [hll]
                    exact HK17.out.same (fun g2 cs t fz hg hb => Below.heap_setCell _ _ _ _ (by show g2 ≠ P; omega))
                  · refine Rw.keep (Rw.keep (Rw.below (Rw.keep HL3.out (fun g2 hg hl => HST.out.block g2 hl (by have := (Rw.block HL3.out hg).1; have := HLB.out.1; omega))) ((Below.refl _ w16).alloc (Nat.le_refl _) _)) (fun g2 hg hl => HG17.out.block g2 hl (fun e => by have := (HOWN.out g2 e.symm).1; have := HLB.out.2.2 g2 hg; omega))) (fun g2 hg hl => Below.heap_setCell _ _ _ _ (by show g2 ≠ P; have := (Rw.block HL3.out hg).1; have := HLB.out.2.1; omega))
                  · have h8 := HG17.out.size
                    have h9 : w16.heap.size ≤ (w16.alloc (.cells #[.string t0, .slice t1 t2 t3, .string t4, .bool t5, .int .i64 t6, .int .i64 t7, .int .i64 t8, .slice t9 RK.1.kids.length t10] 31)).heap.size := by simp
                    have h10 : (w17.setCell ⟨P, 7, none⟩ (.slice (some ⟨g, 0, none⟩) (ks.length + 1) c)).heap.size = w17.heap.size := by simp [World.setCell]
                    omega
                · go_simp
                  go_wp2_with fail
                  refine (HCALL.out).mono ?_
                  rintro e w16 ⟨x0, x1, x2, x3, x4, x5, x6, x7, rfl, hpt, hct, hst⟩
                  obtain ⟨t0, t1, t2, t3, t4, t5, t6, t7, t8, t9, t10, rfl, rfl, rfl, rfl, rfl, rfl, rfl, rfl⟩ := pform hpt
                  have HST : Hid (Step C wc w16) := Lib.hid (((Step.refl C wc).drew).trans hst)
                  have HR16 := Lib.hid (HRP3.out.call HST.out hct)
                  have p7b := HR16.out.bp.p7
                  have hP16 := HR16.out.bp.lt
                  have hsz16 : KB ≤ w16.heap.size := Nat.le_trans hKw3 HST.out.size
                  have HCP : Hid (C < P) := Lib.hid (by have := HRP3.out.hC; have := HRP3.out.hP; omega)
                  have HKW : Hid (∀ o, Kids KB (.slice ka ks.length kc) ks (w16.alloc o)) := Lib.hid (fun o => (HK3.out.same (fun g cs t fz hg hb => HST.out.block g (Array.getElem?_eq_some_iff.1 hb).1 (by have := HCP.out; omega))).below ((Below.refl _ w16).alloc (Nat.le_refl _) o))
                  have HJW : Hid (∀ o, PartAt (fun k => KB ≤ k ∧ (Value.slice ka ks.length kc).ownBlock ≠ some k) (w16.alloc o) RK.1 (.agg #[.string t0, .slice t1 t2 t3, .string t4, .bool t5, .int .i64 t6, .int .i64 t7, .int .i64 t8, .slice t9 RK.1.kids.length t10])) := Lib.hid (fun o => PartAt.keep (kept_below ((Below.refl _ w16).alloc (Nat.le_refl _) o)) (PartAt.keep (kept_mono (fun g hg => ⟨Nat.le_trans hKw3 hg, fun e => by have := (HOWN.out g e).2; have h9 : wc.heap.size ≤ g := hg; omega⟩)) hpt))
                  clear hpt hct hst
                  (try go_wp2_with fail)
                  refine wpAny_ready (rs := [1, 8]) (by kernel_rfl) (by simp) ?_
                  refine AllReady.cons rfl (fun K hK => ?_) (AllReady.cons rfl (fun K hK => ?_) AllReady.nil)
                  · go_simp
                    refine hK _ _ ?_
                    clear hK K
                    refine wpAny_ready (rs := [8]) (by kernel_rfl) (by simp) ?_
                    refine AllReady.cons rfl (fun K hK => ?_) AllReady.nil
                    go_simp
                    refine hK _ _ ?_
                    clear hK K
                    refine wpAny_ready (rs := [9]) (by kernel_rfl) (by simp) ?_
                    refine AllReady.cons rfl (fun K hK => ?_) AllReady.nil
                    refine Kids.step8 rfl (.tmp 178) (.tmp 185) rfl KB _ (.slice ka ks.length kc) ks (HKW.out _) RK.1 _ _ _ _ _ _ _ _ (HJW.out _) w16.heap.size 1 (0, 0) (Kit.fresh_block w16 _ _) rfl rfl hlen (Nat.le_trans hsz16 (by simp)) ?_
                    intro g c w17 hk17 hg17
                    have HK17 := Lib.hid hk17
                    have HG17 := Lib.hid hg17
                    have HR17 := Lib.hid ((HR16.out.below ((Below.refl _ w16).alloc (Nat.le_refl _) _)).grown HRP'.out hg17 (fun r e => by have := (HOWN.out r e).1; omega))
                    have p7c := HR17.out.bp.p7
                    have f7c := HR17.out.bp.free 7
                    clear hk17 hg17
                    refine hK _ _ ?_
                    clear hK K
                    refine wpAny_take (i := 10) (v := ?_) rfl (by kernel_rfl) (by kernel_rfl) (by kernel_rfl) (fun _ _ _ h => h) (Or.inl ⟨by rfl, ?_⟩) ?_
                    rotate_left 1
                    · (intro w; go_simp) <;> with_reducible rfl
                    refine wpAny_ready (rs := [11]) (by kernel_rfl) (by simp) ?_
                    refine AllReady.cons rfl (fun K hK => ?_) AllReady.nil
                    go_simp
                    refine hK _ _ ?_
                    clear hK K
                    refine wpAny_done (by kernel_rfl) ?_ _
                    go_wp2_with fail
                    go_meet
                    have hll : (ks ++ [RK.1]).length = ks.length + 1 := by simp
                    refine ⟨ks ++ [RK.1], RK.2, some ⟨g, 0, none⟩, c, Lib.hid (fun h => by cases h), HKS, ?_, HRKC.out.2, Lib.hid ?_, Lib.hid ?_, Lib.hid ?_, Lib.hid ?_, ?_⟩
                    · rw [hll]; have := HRKC.out.1; omega
                    · rw [hll]; exact HR17.out.set7 _
                    · exact ((((HC3.out.keep (kept_block fun g2 cs t fz hg hb => ⟨hg, HST.out.block g2 (Array.getElem?_eq_some_iff.1 hb).1 (by have := HCP.out; have := hg.1; omega)⟩)).keep (kept_below ((Below.refl _ w16).alloc (Nat.le_refl _) _))).keep (kept_block fun g2 cs t fz hg hb => ⟨hg, HG17.out.block g2 (Array.getElem?_eq_some_iff.1 hb).1 (fun e => by have := (HOWN.out g2 e.symm).1; have := hg.2; omega)⟩)).keep (kept_set (g := P) (o := 7) (fun h => Nat.lt_irrefl _ h.1)))
                    · rw [hll]
                      exact HK17.out.same (fun g2 cs t fz hg hb => Below.heap_setCell _ _ _ _ (by show g2 ≠ P; omega))
                    · refine Rw.keep (Rw.keep (Rw.below (Rw.keep HL3.out (fun g2 hg hl => HST.out.block g2 hl (by have := (Rw.block HL3.out hg).1; have := HLB.out.1; omega))) ((Below.refl _ w16).alloc (Nat.le_refl _) _)) (fun g2 hg hl => HG17.out.block g2 hl (fun e => by have := (HOWN.out g2 e.symm).1; have := HLB.out.2.2 g2 hg; omega))) (fun g2 hg hl => Below.heap_setCell _ _ _ _ (by show g2 ≠ P; have := (Rw.block HL3.out hg).1; have := HLB.out.2.1; omega))
                    · have h8 := HG17.out.size
                      have h9 : w16.heap.size ≤ (w16.alloc (.cells #[.string t0, .slice t1 t2 t3, .string t4, .bool t5, .int .i64 t6, .int .i64 t7, .int .i64 t8, .slice t9 RK.1.kids.length t10] 31)).heap.size := by simp
                      have h10 : (w17.setCell ⟨P, 7, none⟩ (.slice (some ⟨g, 0, none⟩) (ks.length + 1) c)).heap.size = w17.heap.size := by simp [World.setCell]
                      omega
                  · go_simp
                    refine hK _ _ ?_
                    clear hK K
                    refine wpAny_ready (rs := [1]) (by kernel_rfl) (by simp) ?_
                    refine AllReady.cons rfl (fun K hK => ?_) AllReady.nil
                    go_simp
                    refine hK _ _ ?_
                    clear hK K
                    refine wpAny_ready (rs := [9]) (by kernel_rfl) (by simp) ?_
                    refine AllReady.cons rfl (fun K hK => ?_) AllReady.nil
                    refine Kids.step8 rfl (.tmp 178) (.tmp 185) rfl KB _ (.slice ka ks.length kc) ks (HKW.out _) RK.1 _ _ _ _ _ _ _ _ (HJW.out _) w16.heap.size 1 (0, 0) (Kit.fresh_block w16 _ _) rfl rfl hlen (Nat.le_trans hsz16 (by simp)) ?_
                    intro g c w17 hk17 hg17
                    have HK17 := Lib.hid hk17
                    have HG17 := Lib.hid hg17
                    have HR17 := Lib.hid ((HR16.out.below ((Below.refl _ w16).alloc (Nat.le_refl _) _)).grown HRP'.out hg17 (fun r e => by have := (HOWN.out r e).1; omega))
                    have p7c := HR17.out.bp.p7
                    have f7c := HR17.out.bp.free 7
                    clear hk17 hg17
                    refine hK _ _ ?_
                    clear hK K
                    refine wpAny_take (i := 10) (v := ?_) rfl (by kernel_rfl) (by kernel_rfl) (by kernel_rfl) (fun _ _ _ h => h) (Or.inl ⟨by rfl, ?_⟩) ?_
                    rotate_left 1
                    · (intro w; go_simp) <;> with_reducible rfl
                    refine wpAny_ready (rs := [11]) (by kernel_rfl) (by simp) ?_
                    refine AllReady.cons rfl (fun K hK => ?_) AllReady.nil
                    go_simp
                    refine hK _ _ ?_
                    clear hK K
                    refine wpAny_done (by kernel_rfl) ?_ _
                    go_wp2_with fail
                    go_meet
                    have hll : (ks ++ [RK.1]).length = ks.length + 1 := by simp
                    refine ⟨ks ++ [RK.1], RK.2, some ⟨g, 0, none⟩, c, Lib.hid (fun h => by cases h), HKS, ?_, HRKC.out.2, Lib.hid ?_, Lib.hid ?_, Lib.hid ?_, Lib.hid ?_, ?_⟩
                    · rw [hll]; have := HRKC.out.1; omega
                    · rw [hll]; exact HR17.out.set7 _
                    · exact ((((HC3.out.keep (kept_block fun g2 cs t fz hg hb => ⟨hg, HST.out.block g2 (Array.getElem?_eq_some_iff.1 hb).1 (by have := HCP.out; have := hg.1; omega)⟩)).keep (kept_below ((Below.refl _ w16).alloc (Nat.le_refl _) _))).keep (kept_block fun g2 cs t fz hg hb => ⟨hg, HG17.out.block g2 (Array.getElem?_eq_some_iff.1 hb).1 (fun e => by have := (HOWN.out g2 e.symm).1; have := hg.2; omega)⟩)).keep (kept_set (g := P) (o := 7) (fun h => Nat.lt_irrefl _ h.1)))
                    · rw [hll]
                      exact HK17.out.same (fun g2 cs t fz hg hb => Below.heap_setCell _ _ _ _ (by show g2 ≠ P; omega))
                    · refine Rw.keep (Rw.keep (Rw.below (Rw.keep HL3.out (fun g2 hg hl => HST.out.block g2 hl (by have := (Rw.block HL3.out hg).1; have := HLB.out.1; omega))) ((Below.refl _ w16).alloc (Nat.le_refl _) _)) (fun g2 hg hl => HG17.out.block g2 hl (fun e => by have := (HOWN.out g2 e.symm).1; have := HLB.out.2.2 g2 hg; omega))) (fun g2 hg hl => Below.heap_setCell _ _ _ _ (by show g2 ≠ P; have := (Rw.block HL3.out hg).1; have := HLB.out.2.1; omega))
                    · have h8 := HG17.out.size
                      have h9 : w16.heap.size ≤ (w16.alloc (.cells #[.string t0, .slice t1 t2 t3, .string t4, .bool t5, .int .i64 t6, .int .i64 t7, .int .i64 t8, .slice t9 RK.1.kids.length t10] 31)).heap.size := by simp
                      have h10 : (w17.setCell ⟨P, 7, none⟩ (.slice (some ⟨g, 0, none⟩) (ks.length + 1) c)).heap.size = w17.heap.size := by simp [World.setCell]
                      omega
              · have gm : ¬ (m : Int) < 30 := by omega
                have HKS : Hid (∀ f2, some f = some f2 → (ks, m) = kidS (readL s.data.toList d') f2 (if i < N then backL s.data.toList f2 p else b) ks m) := Lib.hid (fun f2 _ => by unfold kidS; rw [if_neg hm])
                go_wp2_with fail
                go_meet
                exact ⟨ks, m, ka, kc, Lib.hid (fun h => by cases h), HKS, hkm, hm30, HRP3, HC3, HK3, HL3, hKw3⟩
        case rest =>
          obtain ⟨ks', m', ka', kc', HKN, HKO, hkm', hm30', HRP5, HC5, HK5, HL5, hKw5⟩ := hcut
          rcases HE.out with ⟨x, hlt, hdr, hxt, hE0, hE1⟩ | ⟨hiN, hE⟩
          · have HIN := HI.out
            have HCN := HCI.out
            have HRN := HRI2.out
            rw [hdr] at HIN HCN HRN
            have HIN2 := Lib.hid HIN
            have HCN2 : Hid (x.1 = p ∧ Chain x.2.2 (ls.drop (i + 1)) kend) := Lib.hid HCN
            have HRN2 : Hid (p ≤ x.2.2 ∧ x.2.2 ≤ b ∧ Rise b x.2.2 ((ls.drop (i + 1)).map (·.2))) := Lib.hid HRN
            have HDR := Lib.hid hdr
            clear HIN HCN HRN hdr hxt HE
            have gN : ((i : Int) == (N : Int)) = false := by rw [beq_eq_false_iff_ne]; omega
            have gN2 : ¬ (i : Int) = (N : Int) := by omega
            cases E
            · have HMK0 := Lib.hid (hE0 rfl)
              have hil : i < ls.length := by rw [HN.out]; exact hlt
              obtain ⟨gl, cap, hv, hgl, r0, r1, r2⟩ := rowL_at0 HL5.out i hil
              injection hv with e1 e2 e3
              subst e1
              have hx : ls[i] = x := by
                have h := HDR.out
                rw [List.drop_eq_getElem_cons hil] at h
                exact (List.cons.inj h).1
              rw [hx] at r2
              have HINV2 : Hid (InvK TOT (readL s.data.toList d') MK s.data.toList b ks' (some x.2.2) x.2.2 (ls.drop (i + 1)) m') := Lib.hid (by
                cases o with
                | none =>
                  obtain ⟨rfl, rfl⟩ := HKN.out rfl
                  exact inv_mark0 HIN2.out HMK0.out
                | some f =>
                  have h1 := inv_mark1 HIN2.out HMK0.out
                  have h2 := HKO.out f rfl
                  rw [if_pos hlt] at h2
                  rw [← h2] at h1
                  exact h1)
              clear hE0 hE1 r0 r1 hil e2 e3 hx
              go_wp2_with fail
              go_roundg (N + 1 - (i + 1))
              case measure => omega
              case rel => exact ⟨i + 1, x.2.2, m', some x.2.2, ks', ka', kc', rfl, by omega, by go_num, rfl, HRN2.out.2.1, Lib.hid (by have := HPB.out; have := HRN2.out.1; omega), Lib.hid (fun f h => by injection h with h; subst h; have := HRN2.out.1; have := HPB.out; exact ⟨by omega, Nat.le_refl _⟩), hkm', hm30', HINV2, Lib.hid HCN2.out.2, Lib.hid HRN2.out.2.2, HRP5, HC5, HK5, HL5, hKw5⟩
            · have HTK : Hid (TOT = (ks', m')) := Lib.hid (by
                obtain ⟨q1, q2⟩ := hE1 rfl
                cases o with
                | none =>
                  obtain ⟨rfl, rfl⟩ := HKN.out rfl
                  exact inv_last0 HIN2.out q1 q2
                | some f =>
                  have h1 := inv_last1 HIN2.out q1 q2
                  have h2 := HKO.out f rfl
                  rw [if_pos hlt] at h2
                  rw [h1, h2])
              clear hE0 hE1
              have HFIN := Lib.hid (HRP5.out.fin HRP'.out (HC5.out.keep (kept_mono (fun g h => h.1))) hKP HK5.out)
              have z := HRP5.out.bp
              have y0 := z.p0
              have y1 := z.p1
              have y2 := z.p2
              have y3 := z.p3
              have y4 := z.p4
              have y5 := z.p5
              have y6 := z.p6
              have y7 := z.p7
              have x0 := Bx.p0 HRP5.out.zr
              have x1 := Bx.p1 HRP5.out.zr
              have x2 := Bx.p2 HRP5.out.zr
              have x3 := Bx.p3 HRP5.out.zr
              have x4 := Bx.p4 HRP5.out.zr
              have x5 := Bx.p5 HRP5.out.zr
              have x6 := Bx.p6 HRP5.out.zr
              have x7 := Bx.p7 HRP5.out.zr
              have v0 := Bx.free HRP5.out.zr 0
              have v1 := Bx.free HRP5.out.zr 1
              have v2 := Bx.free HRP5.out.zr 2
              have v3 := Bx.free HRP5.out.zr 3
              have v4 := Bx.free HRP5.out.zr 4
              have v5 := Bx.free HRP5.out.zr 5
              have v6 := Bx.free HRP5.out.zr 6
              have v7 := Bx.free HRP5.out.zr 7
              clear z
              go_wp2_with fail
              refine ⟨rfl, .agg #[.string ⟨ty.toArray⟩, .slice qa ps.length qc, .string ⟨EN.toArray⟩, .bool ab, .int .i64 (a : Int), .int .i64 (body : Int), .int .i64 (b : Int), .slice ka' ks'.length kc'], part_result rfl _ rfl HFIN.out.1, ?_⟩
              refine ⟨_, _, _, _, _, _, _, _, rfl, ?_, ?_, HFIN.out.2.2.2⟩
              · rw [HRD.out, HTK.out]; exact HFIN.out.2.1
              · rw [HRD.out, HTK.out]; exact HFIN.out.2.2.1
          · subst hE
            have gN : ((i : Int) == (N : Int)) = true := by rw [beq_iff_eq]; omega
            have gN2 : (i : Int) = (N : Int) := by omega
            have HTK : Hid (TOT = (ks', m')) := Lib.hid (by
              have h := HI.out
              rw [List.drop_of_length_le (by rw [HN.out]; omega)] at h
              cases o with
              | none =>
                obtain ⟨rfl, rfl⟩ := HKN.out rfl
                exact inv_end0 h
              | some f =>
                have h1 := inv_end1 h
                have h2 := HKO.out f rfl
                rw [if_neg (by omega)] at h2
                rw [h1, h2])
            clear HE
            have HFIN := Lib.hid (HRP5.out.fin HRP'.out (HC5.out.keep (kept_mono (fun g h => h.1))) hKP HK5.out)
            have z := HRP5.out.bp
            have y0 := z.p0
            have y1 := z.p1
            have y2 := z.p2
            have y3 := z.p3
            have y4 := z.p4
            have y5 := z.p5
            have y6 := z.p6
            have y7 := z.p7
            have x0 := Bx.p0 HRP5.out.zr
            have x1 := Bx.p1 HRP5.out.zr
            have x2 := Bx.p2 HRP5.out.zr
            have x3 := Bx.p3 HRP5.out.zr
            have x4 := Bx.p4 HRP5.out.zr
            have x5 := Bx.p5 HRP5.out.zr
            have x6 := Bx.p6 HRP5.out.zr
            have x7 := Bx.p7 HRP5.out.zr
            have v0 := Bx.free HRP5.out.zr 0
            have v1 := Bx.free HRP5.out.zr 1
            have v2 := Bx.free HRP5.out.zr 2
            have v3 := Bx.free HRP5.out.zr 3
            have v4 := Bx.free HRP5.out.zr 4
            have v5 := Bx.free HRP5.out.zr 5
            have v6 := Bx.free HRP5.out.zr 6
            have v7 := Bx.free HRP5.out.zr 7
            clear z
            go_wp2_with fail
            refine ⟨rfl, .agg #[.string ⟨ty.toArray⟩, .slice qa ps.length qc, .string ⟨EN.toArray⟩, .bool ab, .int .i64 (a : Int), .int .i64 (body : Int), .int .i64 (b : Int), .slice ka' ks'.length kc'], part_result rfl _ rfl HFIN.out.1, ?_⟩
            refine ⟨_, _, _, _, _, _, _, _, rfl, ?_, ?_, HFIN.out.2.2.2⟩
            · rw [HRD.out, HTK.out]; exact HFIN.out.2.1
            · rw [HRD.out, HTK.out]; exact HFIN.out.2.2.1
  · have HLEAF : Hid (readL s.data.toList d a b (n + 1) = (.mk ty ps EN ab a body b [], n + 1)) := Lib.hid (by
      rw [← HPART.out]
      rcases HLT.out rfl with h | h
      · subst h
        rw [readL]
      · exact read_leaf (by rw [HHAS.out, h]) d (n + 1))
    have z := HR13.out.bp
    have y0 := z.p0
    have y1 := z.p1
    have y2 := z.p2
    have y3 := z.p3
    have y4 := z.p4
    have y5 := z.p5
    have y6 := z.p6
    have y7 := z.p7
    have x0 := Bx.p0 HR13.out.zr
    have x1 := Bx.p1 HR13.out.zr
    have x2 := Bx.p2 HR13.out.zr
    have x3 := Bx.p3 HR13.out.zr
    have x4 := Bx.p4 HR13.out.zr
    have x5 := Bx.p5 HR13.out.zr
    have x6 := Bx.p6 HR13.out.zr
    have x7 := Bx.p7 HR13.out.zr
    have v0 := Bx.free HR13.out.zr 0
    have v1 := Bx.free HR13.out.zr 1
    have v2 := Bx.free HR13.out.zr 2
    have v3 := Bx.free HR13.out.zr 3
    have v4 := Bx.free HR13.out.zr 4
    have v5 := Bx.free HR13.out.zr 5
    have v6 := Bx.free HR13.out.zr 6
    have v7 := Bx.free HR13.out.zr 7
    clear z u0
    have HFIN := Lib.hid (HR13.out.fin (ks := []) HRP'.out HC13.out (Nat.lt_succ_self P) (kids_empty _ _))
    go_wp2_with fail
    refine ⟨rfl, .agg #[.string ⟨ty.toArray⟩, .slice qa ps.length qc, .string ⟨EN.toArray⟩, .bool ab, .int .i64 (a : Int), .int .i64 (body : Int), .int .i64 (b : Int), .slice none 0 0], part_result rfl _ rfl HFIN.out.1, ?_⟩
    refine ⟨_, _, _, _, _, _, _, _, rfl, ?_, ?_, HFIN.out.2.2.2⟩
    · rw [HLEAF.out]; exact HFIN.out.2.1
    · rw [HLEAF.out]; exact HFIN.out.2.2.1
end Go.Proofs.YtkmopneeafbeaaaDoor.Pt
namespace Go.Proofs.YtkmopneeafbeaaaDoor.Pt
open Go Go.RowKit Go.Joins Kit F0

theorem rpart_all (s : ByteArray) (hs : s.size ≤ 32768) : ∀ d, d ≤ 6 → RPartOk s d
  | 0, h => rpart_in s hs 0 h (fun d' e => by cases e)
  | d + 1, h => rpart_in s hs (d + 1) h (fun d' e => by
    have : d' = d := by omega
    subst this
    exact rpart_all s hs d' (by omega))

set_option maxHeartbeats 4000000 in
set_option maxRecDepth 100000 in
theorem rtree_any (s : ByteArray) (w : World) (hs : s.size ≤ 32768) :
    Calls Tryd.prog 15 #[.string s] w fun e w' => ∃ c0 c1 c2 c3 c4 c5 c6 c7, e = .returned (.agg #[c0, c1, c2, c3, c4, c5, c6, c7]) ∧ PartAt (fun g => w.heap.size ≤ g) w' (treeL s.data.toList) (.agg #[c0, c1, c2, c3, c4, c5, c6, c7]) ∧ Below w.heap.size w w' := by
  have HR := Lib.hid (rpart_all s hs 6 (Nat.le_refl _))
  have HTL : Hid (treeL s.data.toList = (readL s.data.toList 6 0 s.size (0 + 1)).1) := Lib.hid (by unfold treeL; rw [Lib.size_eq])
  go_enter Tryd.func15, Tryd.ntmps15
  go_wp2_with fail
  have hct : Ct s (w.heap.size + 1) 0 ((w.alloc (.cells #[.string ⟨#[]⟩, .slice none 0 0, .string ⟨#[]⟩, .bool false, .int .i64 0, .int .i64 0, .int .i64 0, .slice none 0 0] 31)).alloc (.cells #[.string s, .int .i64 0] 51)) := by
    have := Kit.fresh_block (w.alloc (.cells #[.string ⟨#[]⟩, .slice none 0 0, .string ⟨#[]⟩, .bool false, .int .i64 0, .int .i64 0, .int .i64 0, .slice none 0 0] 31)) #[.string s, .int .i64 0] 51
    simpa [Ct] using this
  have hbr : Zx w.heap.size ((w.alloc (.cells #[.string ⟨#[]⟩, .slice none 0 0, .string ⟨#[]⟩, .bool false, .int .i64 0, .int .i64 0, .int .i64 0, .slice none 0 0] 31)).alloc (.cells #[.string s, .int .i64 0] 51)) := (newP_zx w).same (Below.heap_alloc _ _ _ (by simp))
  have hb2 : Below w.heap.size w ((w.alloc (.cells #[.string ⟨#[]⟩, .slice none 0 0, .string ⟨#[]⟩, .bool false, .int .i64 0, .int .i64 0, .int .i64 0, .slice none 0 0] 31)).alloc (.cells #[.string s, .int .i64 0] 51)) := ((Below.refl _ w).alloc (Nat.le_refl _) _).alloc (by simp) _
  have hsz : ((w.alloc (.cells #[.string ⟨#[]⟩, .slice none 0 0, .string ⟨#[]⟩, .bool false, .int .i64 0, .int .i64 0, .int .i64 0, .slice none 0 0] 31)).alloc (.cells #[.string s, .int .i64 0] 51)).heap.size = w.heap.size + 2 := by simp
  have HC := HR.out 0 s.size 0 (w.heap.size + 1) _ (Nat.zero_le _) (Nat.le_refl _) (Nat.zero_le _) hct
  generalize ((w.alloc (.cells #[.string ⟨#[]⟩, .slice none 0 0, .string ⟨#[]⟩, .bool false, .int .i64 0, .int .i64 0, .int .i64 0, .slice none 0 0] 31)).alloc (.cells #[.string s, .int .i64 0] 51)) = W at *
  refine HC.mono ?_
  rintro e w2 ⟨c0, c1, c2, c3, c4, c5, c6, c7, rfl, hp, -, hst⟩
  obtain ⟨x0, a1, l1, m1, x2, x3, x4, x5, x6, a7, l7, m7, rfl, rfl, rfl, rfl, rfl, rfl, rfl, rfl⟩ := part_forms hp
  have hbr2 : Zx w.heap.size w2 := hbr.same (hst.block _ (by omega) (by omega))
  have q0 := Bx.p0 hbr2
  have q1 := Bx.p1 hbr2
  have q2 := Bx.p2 hbr2
  have q3 := Bx.p3 hbr2
  have q4 := Bx.p4 hbr2
  have q5 := Bx.p5 hbr2
  have q6 := Bx.p6 hbr2
  have q7 := Bx.p7 hbr2
  have e0 := Bx.free hbr2 0
  have e1 := Bx.free hbr2 1
  have e2 := Bx.free hbr2 2
  have e3 := Bx.free hbr2 3
  have e4 := Bx.free hbr2 4
  have e5 := Bx.free hbr2 5
  have e6 := Bx.free hbr2 6
  have e7 := Bx.free hbr2 7
  have HFIN := Lib.hid (And.intro (Bx.setAll hbr2 (.string x0) (.slice a1 l1 m1) (.string x2) (.bool x3) (.int .i64 x4) (.int .i64 x5) (.int .i64 x6) (.slice a7 l7 m7)) (And.intro (PartAt.keep (finW_kept (Q' := fun g => w.heap.size ≤ g) w2 w.heap.size (.string x0) (.slice a1 l1 m1) (.string x2) (.bool x3) (.int .i64 x4) (.int .i64 x5) (.int .i64 x6) (.slice a7 l7 m7) (fun g hg => ⟨by omega, by omega⟩)) hp) ((((((((((hst.below hb2 (by omega) hb2.size).setCell (p := ⟨w.heap.size, 0, none⟩) (Nat.le_refl _) (.string x0)).setCell (p := ⟨w.heap.size, 1, none⟩) (Nat.le_refl _) (.slice a1 l1 m1)).setCell (p := ⟨w.heap.size, 2, none⟩) (Nat.le_refl _) (.string x2)).setCell (p := ⟨w.heap.size, 3, none⟩) (Nat.le_refl _) (.bool x3)).setCell (p := ⟨w.heap.size, 4, none⟩) (Nat.le_refl _) (.int .i64 x4)).setCell (p := ⟨w.heap.size, 5, none⟩) (Nat.le_refl _) (.int .i64 x5)).setCell (p := ⟨w.heap.size, 6, none⟩) (Nat.le_refl _) (.int .i64 x6)).setCell (p := ⟨w.heap.size, 7, none⟩) (Nat.le_refl _) (.slice a7 l7 m7)))))
  clear hbr hbr2 hp hst hct hsz hb2 HC
  go_wp2_with fail
  refine ⟨rfl, .agg #[.string x0, .slice a1 l1 m1, .string x2, .bool x3, .int .i64 x4, .int .i64 x5, .int .i64 x6, .slice a7 l7 m7], part_result rfl _ rfl HFIN.out.1, ?_⟩
  refine ⟨_, _, _, _, _, _, _, _, rfl, ?_, HFIN.out.2.2⟩
  rw [HTL.out]
  exact HFIN.out.2.1
end Go.Proofs.YtkmopneeafbeaaaDoor.Pt
namespace Go.Proofs.YtkmopneeafbeaaaDoor.Pt
open Go F0

theorem P.ind {M : P → Prop} (h : ∀ j, (∀ k ∈ j.kids, M k) → M j) (j : P) : M j := by
  obtain ⟨ty, ps, enc, att, hh, f, t, kids⟩ := j
  exact h _ (fun k hk => P.ind h k)
termination_by SizeOf.sizeOf j
decreasing_by
  have := List.sizeOf_lt_of_mem (show k ∈ kids from hk)
  simp
  omega
/-- At most thirty kids, in all. -/
def slimL : P → Prop
  | .mk _ _ _ _ _ _ _ kids => kids.length ≤ 30 ∧ slimK kids
where slimK : List P → Prop
  | [] => True
  | k :: r => slimL k ∧ slimK r
theorem slimK_mem : ∀ {l : List P} (_ : slimL.slimK l), ∀ k ∈ l, slimL k
  | [], _, k, hk => by cases hk
  | j :: r, h, k, hk => by
    rcases List.mem_cons.1 hk with rfl | hk
    · exact h.1
    · exact slimK_mem h.2 k hk
theorem slim_kids {j : P} (h : slimL j) : j.kids.length ≤ 30 ∧ ∀ k ∈ j.kids, slimL k := by
  obtain ⟨ty, ps, enc, att, hh, f, t, kids⟩ := j
  exact ⟨h.1, slimK_mem h.2⟩
theorem foldK_slim {rd : Nat → Nat → Nat → P × Nat} (h : ∀ f e n, n ≤ 30 → slimL (rd f e n).1) (h2 : ∀ f e n, n ≤ 30 → n ≤ (rd f e n).2 ∧ (rd f e n).2 ≤ 30) : ∀ (l : List (Nat × Nat)) (n : Nat) (_ : n ≤ 30), slimL.slimK (foldK rd l n).1
  | [], n, _ => by rw [foldK]; trivial
  | (f, e) :: r, n, hn => by
    rw [foldK]
    split
    · exact ⟨h f e (n + 1) (by omega), foldK_slim h h2 r _ (h2 f e (n + 1) (by omega)).2⟩
    · trivial
theorem read_slim (s : List UInt8) : ∀ (d a b n : Nat) (_ : n ≤ 30), slimL (readL s d a b n).1
  | 0, a, b, n, h => by rw [readL]; exact ⟨by simp, trivial⟩
  | d + 1, a, b, n, h => by
    rw [readL]
    split
    · exact ⟨by simp, trivial⟩
    · rename_i bd _
      have h1 := foldK_count (rd := readL s d) (fun f e n hn => read_count s d f e n hn) (kidsL bd s (headL s a b).2 b) n h
      refine ⟨?_, foldK_slim (fun f e n hn => read_slim s d f e n hn) (fun f e n hn => read_count s d f e n hn) _ n h⟩
      omega
theorem tree_slim (s : List UInt8) : slimL (treeL s) := read_slim s 6 0 s.length 1 (by omega)
theorem tree_ins (s : List UInt8) : insL (treeL s) 0 s.length := (read_ins s 6 0 s.length 1 (Nat.zero_le _) (Nat.le_refl _)).1
theorem ins_own {j : P} {a b : Nat} (h : insL j a b) : a ≤ j.hd ∧ j.hd ≤ j.fm ∧ j.fm ≤ j.to ∧ j.to ≤ b ∧ insL.kidsI j.kids j.fm j.to := by
  obtain ⟨ty, ps, enc, att, hh, f, t, kids⟩ := j
  exact h
theorem ins_step {l : List P} {i lo t : Nat} (hi : i < l.length) (h : insL.kidsI (l.drop i) lo t) : insL l[i] lo t ∧ insL.kidsI (l.drop (i + 1)) l[i].to t := by
  rw [List.drop_eq_getElem_cons hi] at h
  exact h
end Go.Proofs.YtkmopneeafbeaaaDoor.Pt
namespace Go.Proofs.YtkmopneeafbeaaaDoor.Pt
open Go Go.RowKit Go.Joins Kit F0

/-- The forms of a part's cells, in memory. -/
theorem part_read {Q : Nat → Prop} {w : World} {j : P} {v : Value} (h : PartAt Q w j v) : ∃ ap mp ak mk, v = .agg #[.string ⟨j.ty.toArray⟩, .slice ap j.ps.length mp, .string ⟨j.enc.toArray⟩, .bool j.att, .int .i64 (j.hd : Int), .int .i64 (j.fm : Int), .int .i64 (j.to : Int), .slice ak j.kids.length mk] ∧
    FAt w (.slice ap j.ps.length mp) j.ps ∧ ∃ cs, CellsAt Q w j.kids.length (.slice ak j.kids.length mk) cs ∧ KidsAt Q w j.kids cs := by
  obtain ⟨ap, mp, ak, mk, e, h1, h2⟩ := part_cells h
  exact ⟨ap, mp, ak, mk, e, cells_fields h1, h2⟩
/-- So many parameters at most, in a part and in all its kids. -/
def thinL (M : Nat) : P → Prop
  | .mk _ ps _ _ _ _ _ kids => ps.length ≤ M ∧ thinK M kids
where thinK (M : Nat) : List P → Prop
  | [] => True
  | k :: r => thinL M k ∧ thinK M r
theorem thinK_mem {M : Nat} : ∀ {l : List P} (_ : thinL.thinK M l), ∀ k ∈ l, thinL M k
  | [], _, k, hk => by cases hk
  | x :: r, h, k, hk => by
    rcases List.mem_cons.1 hk with rfl | hk
    · exact h.1
    · exact thinK_mem h.2 k hk
theorem thin_kids {M : Nat} {j : P} (h : thinL M j) : j.ps.length ≤ M ∧ ∀ k ∈ j.kids, thinL M k := by
  obtain ⟨ty, ps, enc, att, hh, ff, tt, kids⟩ := j
  exact ⟨h.1, thinK_mem h.2⟩
theorem foldK_thin {M b : Nat} {rd : Nat → Nat → Nat → P × Nat} (h : ∀ f e n, f ≤ e → e ≤ b → thinL M (rd f e n).1) : ∀ (l : List (Nat × Nat)) (n : Nat) (_ : ∀ k ∈ l, k.1 ≤ k.2 ∧ k.2 ≤ b), thinL.thinK M (foldK rd l n).1
  | [], n, _ => by rw [foldK]; trivial
  | (f, e) :: r, n, hl => by
    rw [foldK]
    split
    · have := hl (f, e) (by simp)
      exact ⟨h f e (n + 1) this.1 this.2, foldK_thin h r _ (fun k hk => hl k (by simp [hk]))⟩
    · trivial
theorem read_thin (s : List UInt8) : ∀ (d a b n : Nat) (_ : a ≤ b) (_ : b ≤ s.length), thinL s.length (readL s d a b n).1
  | 0, a, b, n, h, hb => by
    rw [readL]
    exact ⟨(type_sizes (a := a) hb).2.1, trivial⟩
  | d + 1, a, b, n, h, hb => by
    have hs := split_in h hb
    rw [readL]
    split
    · exact ⟨(type_sizes (a := a) hb).2.1, trivial⟩
    · refine ⟨(type_sizes (a := a) hb).2.1, foldK_thin (b := b) (fun f e n h1 h2 => read_thin s d f e n h1 (Nat.le_trans h2 hb)) _ n (fun k hk => ?_)⟩
      have := (kidsL_ord _ s hs.2 hb).mem k hk
      exact ⟨this.2.1, this.2.2⟩
theorem tree_thin (s : List UInt8) : thinL s.length (treeL s) := read_thin s 6 0 s.length 1 (Nat.zero_le _) (Nat.le_refl _)
def SameOk (j : P) : Prop := ∀ (Q Q' : Nat → Prop) (w : World) (u v : Value), slimL j → thinL 32768 j → PartAt Q w j u → PartAt Q' w j v →
  Calls Tryd.prog 13 #[u, v] w fun e w' => e = .returned (.bool true) ∧ Below w.heap.size w w'

set_option maxHeartbeats 8000000 in
set_option maxRecDepth 100000 in
theorem same_of (j : P) (ih : ∀ k ∈ j.kids, SameOk k) : SameOk j := by
  intro Q Q' w u v hsl hth hu hv
  obtain ⟨ap, mp, ak, mk, rfl, hf1, cs, hk1, hk2⟩ := part_read hu
  obtain ⟨bp, np, bk, nk, rfl, hf2, ds, hl1, hl2⟩ := part_read hv
  obtain ⟨hl30, hsk⟩ := slim_kids hsl
  obtain ⟨hps, htk⟩ := thin_kids hth
  clear hu hv hsl hth
  obtain ⟨W, hW⟩ : ∃ W, (w.alloc (.cells #[.string ⟨j.ty.toArray⟩, .slice ap j.ps.length mp, .string ⟨j.enc.toArray⟩, .bool j.att, .int .i64 (j.hd : Int), .int .i64 (j.fm : Int), .int .i64 (j.to : Int), .slice ak j.kids.length mk] 31)).alloc (.cells #[.string ⟨j.ty.toArray⟩, .slice bp j.ps.length np, .string ⟨j.enc.toArray⟩, .bool j.att, .int .i64 (j.hd : Int), .int .i64 (j.fm : Int), .int .i64 (j.to : Int), .slice bk j.kids.length nk] 31) = W := ⟨_, rfl⟩
  have hbW : Below w.heap.size w W := by rw [← hW]; exact ((Below.refl _ w).alloc (Nat.le_refl _) _).alloc (by simp) _
  have hA : Bx w.heap.size (.string ⟨j.ty.toArray⟩) (.slice ap j.ps.length mp) (.string ⟨j.enc.toArray⟩) (.bool j.att) (.int .i64 (j.hd : Int)) (.int .i64 (j.fm : Int)) (.int .i64 (j.to : Int)) (.slice ak j.kids.length mk) W := by
    rw [← hW]
    exact (Bx.made w _ _ _ _ _ _ _ _).below ((Below.refl _ _).alloc (Nat.le_refl _) _)
  have hB : Bx (w.heap.size + 1) (.string ⟨j.ty.toArray⟩) (.slice bp j.ps.length np) (.string ⟨j.enc.toArray⟩) (.bool j.att) (.int .i64 (j.hd : Int)) (.int .i64 (j.fm : Int)) (.int .i64 (j.to : Int)) (.slice bk j.kids.length nk) W := by
    rw [← hW]
    exact Bx.madeAt (by simp) _ _ _ _ _ _ _ _
  have hcA := Lib.hid (fun (w' : World) (hb : Below W.heap.size W w') (i : Nat) (hi : i < j.kids.length) => kid_cells (CellsAt.keep (hk1.keep (kept_below hbW)) (kept_below hb)) (KidsAt.keep (kept_below hb) (KidsAt.keep (kept_below hbW) hk2)) i hi)
  have hcB := Lib.hid (fun (w' : World) (hb : Below W.heap.size W w') (i : Nat) (hi : i < j.kids.length) => kid_cells (CellsAt.keep (hl1.keep (kept_below hbW)) (kept_below hb)) (KidsAt.keep (kept_below hb) (KidsAt.keep (kept_below hbW) hl2)) i hi)
  have HFS : Hid (Calls Tryd.prog 12 #[.slice ap j.ps.length mp, .slice bp j.ps.length np] W fun e w' => e = .returned (.bool true) ∧ Below W.heap.size W w') := Lib.hid (by
    refine (fields_any _ _ j.ps j.ps W (hf1.below hbW) (hf2.below hbW) (by omega)).mono ?_
    rintro e w' ⟨rfl, hb⟩
    exact ⟨by rw [decide_eq_true rfl], hb⟩)
  have HIH := Lib.hid (fun i (hi : i < j.kids.length) => And.intro (ih _ (List.getElem_mem hi)) (And.intro (hsk _ (List.getElem_mem hi)) (htk _ (List.getElem_mem hi))))
  have HW := Lib.hid hW
  have HBW := Lib.hid hbW
  have HA := Lib.hid hA
  have HB := Lib.hid hB
  obtain ⟨pn, hpn⟩ : ∃ x, j.ps.length = x := ⟨_, rfl⟩
  obtain ⟨nv, hnv⟩ : ∃ nv, j.kids.length = nv := ⟨_, rfl⟩
  obtain ⟨TY, hTY⟩ : ∃ x : ByteArray, (⟨j.ty.toArray⟩ : ByteArray) = x := ⟨_, rfl⟩
  obtain ⟨EN, hEN⟩ : ∃ x : ByteArray, (⟨j.enc.toArray⟩ : ByteArray) = x := ⟨_, rfl⟩
  obtain ⟨ab, hab⟩ : ∃ x, j.att = x := ⟨_, rfl⟩
  obtain ⟨hh, hhh⟩ : ∃ x, j.hd = x := ⟨_, rfl⟩
  obtain ⟨ff, hff⟩ : ∃ x, j.fm = x := ⟨_, rfl⟩
  obtain ⟨tt, htt⟩ : ∃ x, j.to = x := ⟨_, rfl⟩
  rw [hpn, hnv, hTY, hEN, hab, hhh, hff, htt] at HW HA HB
  rw [hpn] at HFS
  rw [hpn, hnv, hTY, hEN, hab, hhh, hff, htt]
  have HNV := Lib.hid hnv
  have hk30 : (nv : Int) ≤ 30 := by omega
  clear hf1 hf2 hk1 hk2 hl1 hl2 hW hbW hA hB ih hsk htk hnv hpn hTY hEN hab hhh hff htt hl30 hps
  have p0 := HA.out.p0
  have p1 := HA.out.p1
  have p2 := HA.out.p2
  have p3 := HA.out.p3
  have p4 := HA.out.p4
  have p5 := HA.out.p5
  have p6 := HA.out.p6
  have p7 := HA.out.p7
  have q0 := HB.out.p0
  have q1 := HB.out.p1
  have q2 := HB.out.p2
  have q3 := HB.out.p3
  have q4 := HB.out.p4
  have q5 := HB.out.p5
  have q6 := HB.out.p6
  have q7 := HB.out.p7
  go_enter Tryd.func13, Tryd.ntmps13
  go_upto_region 1 with fail
  rw [HW.out]
  go_wp2_with fail
  refine (HFS.out).mono ?_
  rintro e w1 ⟨rfl, hb1⟩
  have HB1 := Lib.hid hb1
  have HA1 := Lib.hid (HA.out.below hb1)
  have HBB1 := Lib.hid (HB.out.below hb1)
  clear p0 p1 p2 p3 p4 p5 p6 p7 q0 q1 q2 q3 q4 q5 q6 q7 hb1
  have p2 := HA1.out.p2
  have p3 := HA1.out.p3
  have p4 := HA1.out.p4
  have p5 := HA1.out.p5
  have p6 := HA1.out.p6
  have p7 := HA1.out.p7
  have q2 := HBB1.out.p2
  have q3 := HBB1.out.p3
  have q4 := HBB1.out.p4
  have q5 := HBB1.out.p5
  have q6 := HBB1.out.p6
  have q7 := HBB1.out.p7
  go_wp2_with fail
  go_loopg [5] nv (fun m iv wr => ∃ i : Nat, m = nv - i ∧ i ≤ nv ∧ iv = .int .i64 (i : Int) ∧ Hid (Below W.heap.size W wr))
  case atStart => exact ⟨0, rfl, Nat.zero_le _, rfl, HB1⟩
  case round =>
    clear p2 p3 p4 p5 p6 p7 q2 q3 q4 q5 q6 q7 HA1 HBB1
    obtain ⟨i, rfl, hi, rfl, HBR⟩ := hrel
    have HAR := Lib.hid (HA.out.same (HBR.out.block _ HA.out.lt))
    have HBB := Lib.hid (HB.out.same (HBR.out.block _ HB.out.lt))
    have p7 := HAR.out.p7
    have q7 := HBB.out.p7
    by_cases hlt : i < nv
    · have gi : (i : Int) < (nv : Int) := by omega
      have hlt' : i < j.kids.length := by rw [HNV.out]; exact hlt
      obtain ⟨g, o, x0, x1, x2, x3, x4, x5, x6, x7, rfl, hg, r0, r1, r2, r3, r4, r5, r6, r7, hx⟩ := hcA.out wr HBR.out i hlt'
      obtain ⟨g', o', y0, y1, y2, y3, y4, y5, y6, y7, rfl, hg', s0, s1, s2, s3, s4, s5, s6, s7, hy⟩ := hcB.out wr HBR.out i hlt'
      have HCL : Hid (Calls Tryd.prog 13 #[.agg #[x0, x1, x2, x3, x4, x5, x6, x7], .agg #[y0, y1, y2, y3, y4, y5, y6, y7]] wr.drew fun e w' => e = .returned (.bool true) ∧ Below wr.drew.heap.size wr.drew w') :=
        Lib.hid ((HIH.out i hlt').1 Q Q' wr.drew _ _ (HIH.out i hlt').2.1 (HIH.out i hlt').2.2 (PartAt.keep (kept_below ((Below.refl _ wr).drew)) hx) (PartAt.keep (kept_below ((Below.refl _ wr).drew)) hy))
      have HSOF : Hid ((wr.drew.cell? ⟨w.heap.size, 7, none⟩ = some (.slice (some ⟨g, o, none⟩) nv mk) ∧ wr.drew.cell? ⟨w.heap.size + 1, 7, none⟩ = some (.slice (some ⟨g', o', none⟩) nv nk) ∧ wr.drew.cell? ⟨g, o + i * 8, none⟩ = some x0 ∧ wr.drew.cell? ⟨g, o + i * 8 + 1, none⟩ = some x1 ∧ wr.drew.cell? ⟨g, o + i * 8 + 2, none⟩ = some x2 ∧ wr.drew.cell? ⟨g, o + i * 8 + 3, none⟩ = some x3 ∧ wr.drew.cell? ⟨g, o + i * 8 + 4, none⟩ = some x4 ∧ wr.drew.cell? ⟨g, o + i * 8 + 5, none⟩ = some x5 ∧ wr.drew.cell? ⟨g, o + i * 8 + 6, none⟩ = some x6 ∧ wr.drew.cell? ⟨g, o + i * 8 + 7, none⟩ = some x7 ∧ wr.drew.cell? ⟨g', o' + i * 8, none⟩ = some y0 ∧ wr.drew.cell? ⟨g', o' + i * 8 + 1, none⟩ = some y1 ∧ wr.drew.cell? ⟨g', o' + i * 8 + 2, none⟩ = some y2 ∧ wr.drew.cell? ⟨g', o' + i * 8 + 3, none⟩ = some y3 ∧ wr.drew.cell? ⟨g', o' + i * 8 + 4, none⟩ = some y4 ∧ wr.drew.cell? ⟨g', o' + i * 8 + 5, none⟩ = some y5 ∧ wr.drew.cell? ⟨g', o' + i * 8 + 6, none⟩ = some y6 ∧ wr.drew.cell? ⟨g', o' + i * 8 + 7, none⟩ = some y7)) := Lib.hid ⟨p7, q7, r0, r1, r2, r3, r4, r5, r6, r7, s0, s1, s2, s3, s4, s5, s6, s7⟩
      have HSAF : Hid (∀ w7, Below wr.drew.heap.size wr.drew w7 → (w7.cell? ⟨w.heap.size, 7, none⟩ = some (.slice (some ⟨g, o, none⟩) nv mk) ∧ w7.cell? ⟨w.heap.size + 1, 7, none⟩ = some (.slice (some ⟨g', o', none⟩) nv nk) ∧ w7.cell? ⟨g, o + i * 8, none⟩ = some x0 ∧ w7.cell? ⟨g, o + i * 8 + 1, none⟩ = some x1 ∧ w7.cell? ⟨g, o + i * 8 + 2, none⟩ = some x2 ∧ w7.cell? ⟨g, o + i * 8 + 3, none⟩ = some x3 ∧ w7.cell? ⟨g, o + i * 8 + 4, none⟩ = some x4 ∧ w7.cell? ⟨g, o + i * 8 + 5, none⟩ = some x5 ∧ w7.cell? ⟨g, o + i * 8 + 6, none⟩ = some x6 ∧ w7.cell? ⟨g, o + i * 8 + 7, none⟩ = some x7 ∧ w7.cell? ⟨g', o' + i * 8, none⟩ = some y0 ∧ w7.cell? ⟨g', o' + i * 8 + 1, none⟩ = some y1 ∧ w7.cell? ⟨g', o' + i * 8 + 2, none⟩ = some y2 ∧ w7.cell? ⟨g', o' + i * 8 + 3, none⟩ = some y3 ∧ w7.cell? ⟨g', o' + i * 8 + 4, none⟩ = some y4 ∧ w7.cell? ⟨g', o' + i * 8 + 5, none⟩ = some y5 ∧ w7.cell? ⟨g', o' + i * 8 + 6, none⟩ = some y6 ∧ w7.cell? ⟨g', o' + i * 8 + 7, none⟩ = some y7)) := Lib.hid (fun w7 h => ⟨(h.cell (p := ⟨w.heap.size, 7, none⟩) HAR.out.lt).trans p7, (h.cell (p := ⟨w.heap.size + 1, 7, none⟩) HBB.out.lt).trans q7, (h.cell (p := ⟨g, o + i * 8, none⟩) hg).trans r0, (h.cell (p := ⟨g, o + i * 8 + 1, none⟩) hg).trans r1, (h.cell (p := ⟨g, o + i * 8 + 2, none⟩) hg).trans r2, (h.cell (p := ⟨g, o + i * 8 + 3, none⟩) hg).trans r3, (h.cell (p := ⟨g, o + i * 8 + 4, none⟩) hg).trans r4, (h.cell (p := ⟨g, o + i * 8 + 5, none⟩) hg).trans r5, (h.cell (p := ⟨g, o + i * 8 + 6, none⟩) hg).trans r6, (h.cell (p := ⟨g, o + i * 8 + 7, none⟩) hg).trans r7,
        (h.cell (p := ⟨g', o' + i * 8, none⟩) hg').trans s0, (h.cell (p := ⟨g', o' + i * 8 + 1, none⟩) hg').trans s1, (h.cell (p := ⟨g', o' + i * 8 + 2, none⟩) hg').trans s2, (h.cell (p := ⟨g', o' + i * 8 + 3, none⟩) hg').trans s3, (h.cell (p := ⟨g', o' + i * 8 + 4, none⟩) hg').trans s4, (h.cell (p := ⟨g', o' + i * 8 + 5, none⟩) hg').trans s5, (h.cell (p := ⟨g', o' + i * 8 + 6, none⟩) hg').trans s6, (h.cell (p := ⟨g', o' + i * 8 + 7, none⟩) hg').trans s7⟩)
      clear hx hy
      go_wp2_with fail
      go_region_held3 (fun w' : World => (w'.cell? ⟨w.heap.size, 7, none⟩ = some (.slice (some ⟨g, o, none⟩) nv mk) ∧ w'.cell? ⟨w.heap.size + 1, 7, none⟩ = some (.slice (some ⟨g', o', none⟩) nv nk) ∧ w'.cell? ⟨g, o + i * 8, none⟩ = some x0 ∧ w'.cell? ⟨g, o + i * 8 + 1, none⟩ = some x1 ∧ w'.cell? ⟨g, o + i * 8 + 2, none⟩ = some x2 ∧ w'.cell? ⟨g, o + i * 8 + 3, none⟩ = some x3 ∧ w'.cell? ⟨g, o + i * 8 + 4, none⟩ = some x4 ∧ w'.cell? ⟨g, o + i * 8 + 5, none⟩ = some x5 ∧ w'.cell? ⟨g, o + i * 8 + 6, none⟩ = some x6 ∧ w'.cell? ⟨g, o + i * 8 + 7, none⟩ = some x7 ∧ w'.cell? ⟨g', o' + i * 8, none⟩ = some y0 ∧ w'.cell? ⟨g', o' + i * 8 + 1, none⟩ = some y1 ∧ w'.cell? ⟨g', o' + i * 8 + 2, none⟩ = some y2 ∧ w'.cell? ⟨g', o' + i * 8 + 3, none⟩ = some y3 ∧ w'.cell? ⟨g', o' + i * 8 + 4, none⟩ = some y4 ∧ w'.cell? ⟨g', o' + i * 8 + 5, none⟩ = some y5 ∧ w'.cell? ⟨g', o' + i * 8 + 6, none⟩ = some y6 ∧ w'.cell? ⟨g', o' + i * 8 + 7, none⟩ = some y7))
        (first | with_reducible exact HSOF.out | with_reducible exact HSAF.out _ (by assumption))
        (first | (with_reducible refine (HCL.out).mono ?_; rintro e7 w7 ⟨rfl, hb7⟩))
      all_goals
        go_wp2_with fail
        go_roundg (nv - (i + 1))
        case measure => omega
        case rel => exact ⟨i + 1, rfl, by omega, by go_num, Lib.hid (HBR.out.trans ((((Below.refl _ wr).drew).trans hb7).mono HBR.out.size))⟩
    · have gi : ¬ (i : Int) < (nv : Int) := by omega
      go_wp2_with fail
      go_ret
      exact ⟨rfl, HBW.out.trans (HBR.out.mono HBW.out.size)⟩
theorem same_any (j : P) : SameOk j := P.ind (fun j ih => same_of j ih) j
end Go.Proofs.YtkmopneeafbeaaaDoor.Pt
namespace Go.Proofs.YtkmopneeafbeaaaDoor.Pt
open Go Go.RowKit Go.Joins Kit F0

theorem thin_le {M N : Nat} (h : M ≤ N) (j : P) : thinL M j → thinL N j := P.ind (M := fun j => thinL M j → thinL N j) (fun j ih hj => by
  obtain ⟨ty, ps, enc, att, hh, f, t, kids⟩ := j
  refine ⟨Nat.le_trans hj.1 h, ?_⟩
  have hk := (thin_kids hj).2
  have go : ∀ l : List P, (∀ k ∈ l, thinL N k) → thinL.thinK N l := by
    intro l
    induction l with
    | nil => intro _; trivial
    | cons x r ihr => intro hl; exact ⟨hl x (by simp), ihr (fun k hk => hl k (by simp [hk]))⟩
  exact go kids (fun k hkm => ih k hkm (hk k hkm))) j
theorem tree_thin2 (s : ByteArray) (hs : s.size ≤ 32768) : thinL 32768 (treeL s.data.toList) := thin_le (by rw [← Lib.size_eq]; exact hs) _ (tree_thin s.data.toList)

set_option maxHeartbeats 1000000 in
set_option maxRecDepth 100000 in
theorem partTrees_walk (s : ByteArray) (w : World) (hE : Srch.Env w) :
    Calls Tryd.prog 4 #[.string s] w fun e w' => e = .returned (.bool true) ∧ Below w.heap.size w w' := by
  have HE := Lib.hid hE
  clear hE
  by_cases hs : 3000 < s.size
  · have g1 : (3000 : Int) < (s.size : Int) := by omega
    go_enter Tryd.func4, Tryd.ntmps4
    go_wp2_with fail
    go_ret
    exact ⟨rfl, Below.refl _ _⟩
  · have g1 : ¬ (3000 : Int) < (s.size : Int) := by omega
    have hs2 : s.size ≤ 32768 := by omega
    have HTH := Lib.hid (tree_thin2 s hs2)
    clear hs
    go_enter Tryd.func4, Tryd.ntmps4
    go_wp2_with fail
    refine (tree_ok s w hs2 HE.out).mono ?_
    rintro e w1 ⟨c0, c1, c2, c3, c4, c5, c6, c7, rfl, hp, hb1⟩
    have HP := Lib.hid hp
    have HB1 := Lib.hid hb1
    clear hp hb1
    go_wp2_with fail
    refine (rtree_any s w1 hs2).mono ?_
    rintro e w2 ⟨d0, d1, d2, d3, d4, d5, d6, d7, rfl, hq, hb2⟩
    have HP2 := Lib.hid (PartAt.keep (kept_below hb2) HP.out)
    have HQ2 := Lib.hid hq
    have HB2 := Lib.hid (HB1.out.trans (hb2.mono HB1.out.size))
    clear hq hb2
    go_wp2_with fail
    refine (same_any (treeL s.data.toList) _ _ w2 _ _ (tree_slim _) HTH.out HP2.out HQ2.out).mono ?_
    rintro e w3 ⟨rfl, hb3⟩
    have HB3 := Lib.hid (HB2.out.trans (hb3.mono HB2.out.size))
    clear hb3
    go_wp2_with fail
    refine (awake_any tree_ok w3 (HE.out.next HB3.out)).mono ?_
    rintro e w4 ⟨rfl, hb4⟩
    go_wp2
    go_ret
    exact ⟨rfl, HB3.out.trans (hb4.mono HB3.out.size)⟩
end Go.Proofs.YtkmopneeafbeaaaDoor.Pt
