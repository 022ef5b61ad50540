/-
  Plain facts on code points and their bytes, for package utf8: what the bytes of a code point are, which code point stands at the beginning of a list of bytes, whether a list is code points to its end, and its first ones. No program in this text. Conditions: none.
-/
import Derived.Lib.Strings
import Derived.Laws.BitsLemmas
namespace Go.Proofs.YtnnbbjdidbggmaaGreatDoor.U8
open Go

/-! ### The bytes of a code point -/
def b8 (x : Int) : UInt8 := UInt8.ofNat x.toNat
theorem b8_toNat {x : Int} (h0 : 0 ≤ x) (h1 : x < 256) : ((b8 x).toNat : Int) = x := by
  unfold b8
  simp
  omega
theorem b8_nat {x : Int} (h0 : 0 ≤ x) (h1 : x < 256) : (b8 x).toNat = x.toNat := by
  have := b8_toNat h0 h1
  omega
theorem b8_self (c : UInt8) : b8 (c.toNat : Int) = c := by
  unfold b8
  simp
/-- How many bytes a number has; 0: it is no code point. -/
def sizeN (r : Int) : Nat :=
  if r < 0 then 0 else if 55296 ≤ r ∧ r ≤ 57343 then 0 else if 1114111 < r then 0
  else if r < 128 then 1 else if r < 2048 then 2 else if r < 65536 then 3 else 4
def putL (r : Int) : List UInt8 :=
  if sizeN r = 1 then [b8 r]
  else if sizeN r = 2 then [b8 (192 + r / 64), b8 (128 + r % 64)]
  else if sizeN r = 3 then [b8 (224 + r / 4096), b8 (128 + r / 64 % 64), b8 (128 + r % 64)]
  else if sizeN r = 4 then [b8 (240 + r / 262144), b8 (128 + r / 4096 % 64), b8 (128 + r / 64 % 64), b8 (128 + r % 64)]
  else []
theorem sizeN_one {r : Int} : sizeN r = 1 ↔ 0 ≤ r ∧ r < 128 := by unfold sizeN; split <;> (try split) <;> (try split) <;> (try split) <;> (try split) <;> (try split) <;> omega
theorem sizeN_two {r : Int} : sizeN r = 2 ↔ 128 ≤ r ∧ r < 2048 := by unfold sizeN; split <;> (try split) <;> (try split) <;> (try split) <;> (try split) <;> (try split) <;> omega
theorem sizeN_three {r : Int} : sizeN r = 3 ↔ 2048 ≤ r ∧ r < 65536 ∧ ¬ (55296 ≤ r ∧ r ≤ 57343) := by unfold sizeN; split <;> (try split) <;> (try split) <;> (try split) <;> (try split) <;> (try split) <;> omega
theorem sizeN_four {r : Int} : sizeN r = 4 ↔ 65536 ≤ r ∧ r ≤ 1114111 := by unfold sizeN; split <;> (try split) <;> (try split) <;> (try split) <;> (try split) <;> (try split) <;> omega
theorem sizeN_none {r : Int} : sizeN r = 0 ↔ r < 0 ∨ (55296 ≤ r ∧ r ≤ 57343) ∨ 1114111 < r := by unfold sizeN; split <;> (try split) <;> (try split) <;> (try split) <;> (try split) <;> (try split) <;> omega
theorem sizeN_le (r : Int) : sizeN r ≤ 4 := by unfold sizeN; split <;> (try split) <;> (try split) <;> (try split) <;> (try split) <;> (try split) <;> omega
theorem sizeN_cases (r : Int) : sizeN r = 0 ∨ sizeN r = 1 ∨ sizeN r = 2 ∨ sizeN r = 3 ∨ sizeN r = 4 := by have := sizeN_le r; omega
theorem putL_one {r : Int} (h : sizeN r = 1) : putL r = [b8 r] := by unfold putL; simp [h]
theorem putL_two {r : Int} (h : sizeN r = 2) : putL r = [b8 (192 + r / 64), b8 (128 + r % 64)] := by unfold putL; simp [h]
theorem putL_three {r : Int} (h : sizeN r = 3) : putL r = [b8 (224 + r / 4096), b8 (128 + r / 64 % 64), b8 (128 + r % 64)] := by unfold putL; simp [h]
theorem putL_four {r : Int} (h : sizeN r = 4) : putL r = [b8 (240 + r / 262144), b8 (128 + r / 4096 % 64), b8 (128 + r / 64 % 64), b8 (128 + r % 64)] := by unfold putL; simp [h]
theorem putL_none {r : Int} (h : sizeN r = 0) : putL r = [] := by unfold putL; simp [h]
theorem putL_length (r : Int) : (putL r).length = sizeN r := by
  rcases sizeN_cases r with h | h | h | h | h
  · rw [putL_none h, h]; rfl
  · rw [putL_one h, h]; rfl
  · rw [putL_two h, h]; rfl
  · rw [putL_three h, h]; rfl
  · rw [putL_four h, h]; rfl

/-! ### The code point at the beginning -/
def firstN (c : Nat) : Nat := if c < 128 then 1 else if c < 192 then 0 else if c < 224 then 2 else if c < 240 then 3 else if c < 248 then 4 else 0
def firstB (c : Nat) : Nat := if c < 128 then c else if c < 192 then 0 else if c < 224 then c - 192 else if c < 240 then c - 224 else if c < 248 then c - 240 else 0
def accT : Nat → List UInt8 → Option Nat
  | r, [] => some r
  | r, c :: t => if 128 ≤ c.toNat ∧ c.toNat < 192 then accT (r * 64 + (c.toNat - 128)) t else none
def decT (n : Nat) : Option Nat → Option (Nat × Nat)
  | none => none
  | some r => if sizeN r = n then some (r, n) else none
/-- The code point at the beginning, and how many bytes it has. -/
def decL : List UInt8 → Option (Nat × Nat)
  | [] => none
  | c :: t => if firstN c.toNat = 0 ∨ t.length + 1 < firstN c.toNat then none else decT (firstN c.toNat) (accT (firstB c.toNat) (t.take (firstN c.toNat - 1)))
theorem firstN_le (c : Nat) : firstN c ≤ 4 := by unfold firstN; split <;> (try split) <;> (try split) <;> (try split) <;> (try split) <;> omega
theorem firstB_lt (c : Nat) : firstB c < 128 := by unfold firstB; split <;> (try split) <;> (try split) <;> (try split) <;> (try split) <;> omega

theorem decL_put (r : Int) (h : sizeN r ≠ 0) (t : List UInt8) : decL (putL r ++ t) = some (r.toNat, sizeN r) := by
  rcases sizeN_cases r with e | e | e | e | e
  · exact absurd e h
  · have hr := sizeN_one.1 e
    have h1 := b8_nat (x := r) (by omega) (by omega)
    have hN : firstN (b8 r).toNat = 1 := by rw [h1]; unfold firstN; split <;> (try split) <;> (try split) <;> (try split) <;> (try split) <;> omega
    have hB : firstB (b8 r).toNat = r.toNat := by rw [h1]; unfold firstB; split <;> (try split) <;> (try split) <;> (try split) <;> (try split) <;> omega
    rw [putL_one e]
    simp only [List.cons_append, List.nil_append, decL, hN, hB]
    rw [if_neg (by simp)]
    simp only [Nat.sub_self, List.take_zero, accT, decT]
    rw [show ((r.toNat : Nat) : Int) = r by omega, e, if_pos rfl]
  · have hr := sizeN_two.1 e
    have h1 := b8_nat (x := 192 + r / 64) (by omega) (by omega)
    have h2 := b8_nat (x := 128 + r % 64) (by omega) (by omega)
    have hN : firstN (b8 (192 + r / 64)).toNat = 2 := by rw [h1]; unfold firstN; split <;> (try split) <;> (try split) <;> (try split) <;> (try split) <;> omega
    have hB : firstB (b8 (192 + r / 64)).toNat = (r / 64).toNat := by rw [h1]; unfold firstB; split <;> (try split) <;> (try split) <;> (try split) <;> (try split) <;> omega
    rw [putL_two e]
    simp only [List.cons_append, List.nil_append, decL, hN, hB]
    rw [if_neg (by simp)]
    simp only [Nat.add_one_sub_one, List.take_succ_cons, List.take_zero, accT, h2]
    rw [if_pos (by omega)]
    simp only [decT]
    rw [show (r / 64).toNat * 64 + ((128 + r % 64).toNat - 128) = r.toNat by omega, show ((r.toNat : Nat) : Int) = r by omega, e, if_pos rfl]
  · have hr := sizeN_three.1 e
    have h1 := b8_nat (x := 224 + r / 4096) (by omega) (by omega)
    have h2 := b8_nat (x := 128 + r / 64 % 64) (by omega) (by omega)
    have h3 := b8_nat (x := 128 + r % 64) (by omega) (by omega)
    have hN : firstN (b8 (224 + r / 4096)).toNat = 3 := by rw [h1]; unfold firstN; split <;> (try split) <;> (try split) <;> (try split) <;> (try split) <;> omega
    have hB : firstB (b8 (224 + r / 4096)).toNat = (r / 4096).toNat := by rw [h1]; unfold firstB; split <;> (try split) <;> (try split) <;> (try split) <;> (try split) <;> omega
    rw [putL_three e]
    simp only [List.cons_append, List.nil_append, decL, hN, hB]
    rw [if_neg (by simp)]
    simp only [Nat.add_one_sub_one, List.take_succ_cons, List.take_zero, accT, h2, h3]
    rw [if_pos (by omega), if_pos (by omega)]
    simp only [decT]
    rw [show ((r / 4096).toNat * 64 + ((128 + r / 64 % 64).toNat - 128)) * 64 + ((128 + r % 64).toNat - 128) = r.toNat by omega, show ((r.toNat : Nat) : Int) = r by omega, e, if_pos rfl]
  · have hr := sizeN_four.1 e
    have h1 := b8_nat (x := 240 + r / 262144) (by omega) (by omega)
    have h2 := b8_nat (x := 128 + r / 4096 % 64) (by omega) (by omega)
    have h3 := b8_nat (x := 128 + r / 64 % 64) (by omega) (by omega)
    have h4 := b8_nat (x := 128 + r % 64) (by omega) (by omega)
    have hN : firstN (b8 (240 + r / 262144)).toNat = 4 := by rw [h1]; unfold firstN; split <;> (try split) <;> (try split) <;> (try split) <;> (try split) <;> omega
    have hB : firstB (b8 (240 + r / 262144)).toNat = (r / 262144).toNat := by rw [h1]; unfold firstB; split <;> (try split) <;> (try split) <;> (try split) <;> (try split) <;> omega
    rw [putL_four e]
    simp only [List.cons_append, List.nil_append, decL, hN, hB]
    rw [if_neg (by simp)]
    simp only [Nat.add_one_sub_one, List.take_succ_cons, List.take_zero, accT, h2, h3, h4]
    rw [if_pos (by omega), if_pos (by omega), if_pos (by omega)]
    simp only [decT]
    rw [show (((r / 262144).toNat * 64 + ((128 + r / 4096 % 64).toNat - 128)) * 64 + ((128 + r / 64 % 64).toNat - 128)) * 64 + ((128 + r % 64).toNat - 128) = r.toNat by omega, show ((r.toNat : Nat) : Int) = r by omega, e, if_pos rfl]

theorem b8_of {c : UInt8} {x : Int} (h : x = (c.toNat : Int)) : b8 x = c := by rw [h]; exact b8_self c

/-- What is read is what was put. -/
theorem decL_some : ∀ {l : List UInt8} {r n : Nat}, decL l = some (r, n) → sizeN r = n ∧ n ≠ 0 ∧ n ≤ l.length ∧ l.take n = putL r
  | [], _, _, h => by cases h
  | c :: t, r, n, h => by
    have hc := c.toNat_lt
    simp only [decL] at h
    split at h
    · cases h
    rename_i hn
    have hn0 : firstN c.toNat ≠ 0 := fun e => hn (Or.inl e)
    have hn1 : firstN c.toNat ≤ t.length + 1 := by
      rcases Nat.lt_or_ge (t.length + 1) (firstN c.toNat) with h' | h'
      · exact absurd (Or.inr h') hn
      · exact h'
    clear hn
    cases ha : accT (firstB c.toNat) (t.take (firstN c.toNat - 1)) with
    | none => rw [ha] at h; cases h
    | some r' =>
      rw [ha] at h
      simp only [decT] at h
      split at h
      · rename_i hs
        simp only [Option.some.injEq, Prod.mk.injEq] at h
        obtain ⟨rfl, rfl⟩ := h
        refine ⟨hs, hn0, by simpa using hn1, ?_⟩
        have hN := firstN_le c.toNat
        rcases (show firstN c.toNat = 1 ∨ firstN c.toNat = 2 ∨ firstN c.toNat = 3 ∨ firstN c.toNat = 4 by omega) with e | e | e | e
        all_goals rw [e] at hs hn1 ha ⊢
        · have hcc : c.toNat < 128 := by unfold firstN at e; revert e; split <;> (try split) <;> (try split) <;> (try split) <;> (try split) <;> omega
          simp only [Nat.sub_self, List.take_zero, accT, Option.some.injEq] at ha
          rw [firstB, if_pos hcc] at ha
          subst ha
          rw [putL_one hs, b8_of rfl]
          rfl
        · have hcc : 192 ≤ c.toNat ∧ c.toNat < 224 := by unfold firstN at e; revert e; split <;> (try split) <;> (try split) <;> (try split) <;> (try split) <;> omega
          have hB : firstB c.toNat = c.toNat - 192 := by unfold firstB; split <;> (try split) <;> (try split) <;> (try split) <;> (try split) <;> omega
          match t, hn1 with
          | a :: t, _ =>
            have hr := sizeN_two.1 hs
            simp only [Nat.add_one_sub_one, List.take_succ_cons, List.take_zero, accT, hB] at ha
            split at ha
            · simp only [Option.some.injEq] at ha
              rw [putL_two hs, b8_of (c := c) (by omega), b8_of (c := a) (by omega)]
              rfl
            · cases ha
        · have hcc : 224 ≤ c.toNat ∧ c.toNat < 240 := by unfold firstN at e; revert e; split <;> (try split) <;> (try split) <;> (try split) <;> (try split) <;> omega
          have hB : firstB c.toNat = c.toNat - 224 := by unfold firstB; split <;> (try split) <;> (try split) <;> (try split) <;> (try split) <;> omega
          match t, hn1 with
          | a :: b :: t, _ =>
            have hr := sizeN_three.1 hs
            simp only [Nat.add_one_sub_one, List.take_succ_cons, List.take_zero, accT, hB] at ha
            split at ha
            · split at ha
              · simp only [Option.some.injEq] at ha
                rw [putL_three hs, b8_of (c := c) (by omega), b8_of (c := a) (by omega), b8_of (c := b) (by omega)]
                rfl
              · cases ha
            · cases ha
        · have hcc : 240 ≤ c.toNat ∧ c.toNat < 248 := by unfold firstN at e; revert e; split <;> (try split) <;> (try split) <;> (try split) <;> (try split) <;> omega
          have hB : firstB c.toNat = c.toNat - 240 := by unfold firstB; split <;> (try split) <;> (try split) <;> (try split) <;> (try split) <;> omega
          match t, hn1 with
          | a :: b :: d :: t, _ =>
            have hr := sizeN_four.1 hs
            simp only [Nat.add_one_sub_one, List.take_succ_cons, List.take_zero, accT, hB] at ha
            split at ha
            · split at ha
              · split at ha
                · simp only [Option.some.injEq] at ha
                  rw [putL_four hs, b8_of (c := c) (by omega), b8_of (c := a) (by omega), b8_of (c := b) (by omega), b8_of (c := d) (by omega)]
                  rfl
                · cases ha
              · cases ha
            · cases ha
      · cases h
/-- A code point stands at the beginning just where its bytes do. -/
theorem decL_iff {l : List UInt8} {r n : Nat} : decL l = some (r, n) ↔ sizeN r = n ∧ n ≠ 0 ∧ l.take n = putL r := by
  constructor
  · intro h
    obtain ⟨h1, h2, _, h4⟩ := decL_some h
    exact ⟨h1, h2, h4⟩
  · rintro ⟨rfl, h2, h3⟩
    have := decL_put r h2 (l.drop (sizeN r))
    rw [← h3, List.take_append_drop] at this
    simpa using this
theorem decL_lt {l : List UInt8} {r n : Nat} (h : decL l = some (r, n)) : r ≤ 1114111 := by
  obtain ⟨h1, h2, _⟩ := decL_some h
  rcases Nat.lt_or_ge 1114111 r with h' | h'
  · exact absurd (h1.symm.trans (sizeN_none.2 (Or.inr (Or.inr (by omega))))) h2
  · exact h'
theorem decL_append {l : List UInt8} {r n : Nat} (h : decL l = some (r, n)) (t : List UInt8) : decL (l ++ t) = some (r, n) := by
  obtain ⟨h1, h2, h3, h4⟩ := decL_some h
  exact decL_iff.2 ⟨h1, h2, by rw [List.take_append_of_le_length h3]; exact h4⟩

/-! ### One behind the other -/
def validF : Nat → List UInt8 → Bool
  | 0, l => l.isEmpty
  | f + 1, l => if l.isEmpty then true else match decL l with
    | none => false
    | some (_, n) => validF f (l.drop n)
def validL (l : List UInt8) : Bool := validF l.length l
/-- The code points as numbers, n at most; how many bytes they have. -/
def cutN : Nat → List UInt8 → Nat
  | 0, _ => 0
  | k + 1, l => match decL l with
    | none => 0
    | some (_, n) => n + cutN k (l.drop n)
theorem decL_nil : decL [] = none := rfl
theorem validF_nil (f : Nat) : validF f [] = true := by cases f <;> rfl
/-- Enough is enough. -/
theorem validF_more : ∀ (f g : Nat) (l : List UInt8), l.length ≤ f → l.length ≤ g → validF f l = validF g l
  | 0, g, l, h, _ => by
    have : l = [] := List.length_eq_zero_iff.1 (by omega)
    subst this
    rw [validF_nil, validF_nil]
  | f + 1, 0, l, _, h => by
    have : l = [] := List.length_eq_zero_iff.1 (by omega)
    subst this
    rw [validF_nil, validF_nil]
  | f + 1, g + 1, l, hf, hg => by
    unfold validF
    split
    · rfl
    · cases h : decL l with
      | none => rfl
      | some p =>
        obtain ⟨r, n⟩ := p
        obtain ⟨_, h2, h3, _⟩ := decL_some h
        exact validF_more f g _ (by rw [List.length_drop]; omega) (by rw [List.length_drop]; omega)
theorem validL_nil : validL [] = true := rfl
theorem validL_none {l : List UInt8} (hl : l ≠ []) (h : decL l = none) : validL l = false := by
  unfold validL
  cases l with
  | nil => exact absurd rfl hl
  | cons c t =>
    show validF (t.length + 1) _ = _
    unfold validF
    rw [h]
    rfl
theorem validL_some {l : List UInt8} {r n : Nat} (h : decL l = some (r, n)) : validL l = validL (l.drop n) := by
  obtain ⟨_, h2, h3, _⟩ := decL_some h
  unfold validL
  cases l with
  | nil => cases h
  | cons c t =>
    show validF (t.length + 1) _ = _
    rw [show validF (t.length + 1) (c :: t) = validF t.length ((c :: t).drop n) by
      rw [validF, h]
      rfl]
    exact validF_more _ _ _ (by rw [List.length_drop]; simp; omega) (Nat.le_refl _)
/-- By code points: what is valid is empty, or a code point and what is valid. -/
theorem valid_ind {P : List UInt8 → Prop} (h0 : P []) (h1 : ∀ (l : List UInt8) (r n : Nat), decL l = some (r, n) → validL (l.drop n) = true → P (l.drop n) → P l) :
    ∀ (k : Nat) (l : List UInt8), l.length ≤ k → validL l = true → P l
  | 0, l, hk, _ => by
    have : l = [] := List.length_eq_zero_iff.1 (by omega)
    subst this
    exact h0
  | k + 1, l, hk, hv => by
    by_cases e : l = []
    · subst e; exact h0
    · cases h : decL l with
      | none => rw [validL_none e h] at hv; cases hv
      | some p =>
        obtain ⟨r, n⟩ := p
        obtain ⟨_, h2, h3, _⟩ := decL_some h
        have hv' := hv
        rw [validL_some h] at hv'
        exact h1 l r n h hv' (valid_ind h0 h1 k _ (by rw [List.length_drop]; omega) hv')
theorem valid_induct {P : List UInt8 → Prop} (h0 : P []) (h1 : ∀ (l : List UInt8) (r n : Nat), decL l = some (r, n) → validL (l.drop n) = true → P (l.drop n) → P l) (l : List UInt8) (hv : validL l = true) : P l :=
  valid_ind h0 h1 l.length l (Nat.le_refl _) hv
theorem drop_append {l t : List UInt8} {n : Nat} (h : n ≤ l.length) : (l ++ t).drop n = l.drop n ++ t := List.drop_append_of_le_length h
/-- A valid text ahead: what stands behind decides. -/
theorem validL_append (l t : List UInt8) (hv : validL l = true) : validL (l ++ t) = validL t := by
  refine valid_induct (P := fun l => validL (l ++ t) = validL t) rfl ?_ l hv
  intro l r n h _ ih
  obtain ⟨_, _, h3, _⟩ := decL_some h
  rw [validL_some (decL_append h t), drop_append h3, ih]
theorem validL_put (r : Int) : validL (putL r) = true := by
  by_cases h : sizeN r = 0
  · rw [putL_none h]; rfl
  · have := decL_put r h []
    rw [List.append_nil] at this
    rw [validL_some this, List.drop_of_length_le (by rw [putL_length]; exact Nat.le_refl _)]
    rfl
/-- How many code points a valid text has. -/
def countF : Nat → List UInt8 → Nat
  | 0, _ => 0
  | f + 1, l => match decL l with
    | none => 0
    | some (_, n) => 1 + countF f (l.drop n)
theorem cutN_le : ∀ (k : Nat) (l : List UInt8), cutN k l ≤ l.length
  | 0, _ => Nat.zero_le _
  | k + 1, l => by
    unfold cutN
    cases h : decL l with
    | none => exact Nat.zero_le _
    | some p =>
      obtain ⟨r, n⟩ := p
      obtain ⟨_, _, h3, _⟩ := decL_some h
      have := cutN_le k (l.drop n)
      rw [List.length_drop] at this
      simp only
      omega
theorem cutN_none {k : Nat} {l : List UInt8} (h : decL l = none) : cutN k l = 0 := by
  cases k with
  | zero => rfl
  | succ k => unfold cutN; rw [h]
theorem cutN_some {k : Nat} {l : List UInt8} {r n : Nat} (h : decL l = some (r, n)) : cutN (k + 1) l = n + cutN k (l.drop n) := by
  rw [cutN, h]
end Go.Proofs.YtnnbbjdidbggmaaGreatDoor.U8
