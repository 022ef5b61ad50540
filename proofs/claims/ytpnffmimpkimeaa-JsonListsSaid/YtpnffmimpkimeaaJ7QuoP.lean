/-
  Plain facts on JSON texts: a text in its signs is read back; objects of one key and of two. No program in this text. Conditions: none.
-/
import Derived.Test.YtpnffmimpkimeaaJ7NumP
namespace Go.Proofs.Ytpnffmimpkimeaa.J7
open Go Go.RowKit Go.Joins Kit Dg

theorem hx_dgS : ∀ d : Nat, d < 16 → Q4.hx (dgS d) = some d := by decide +kernel
theorem hexL_S (a b : Nat) (ha : a < 16) (hb : b < 16) (t : List UInt8) : hexL (48 :: 48 :: dgS a :: dgS b :: t) = .ok (16 * a + b, t) := by
  have h0 : Q4.hx 48 = some 0 := by decide
  have h3 := hx_dgS a ha
  have h4 := hx_dgS b hb
  unfold hexL
  rw [hexF, h0]
  simp only
  rw [hexF, h0]
  simp only
  rw [hexF, h3]
  simp only
  rw [hexF, h4]
  simp only
  rw [hexF, show 16 * (16 * (16 * (16 * 0 + 0) + 0) + a) + b = 16 * a + b by omega]
theorem putL_ascii (c : UInt8) (h : c.toNat < 128) : U8.putL (c.toNat : Int) = [c] := by
  have h2 : U8.sizeN (c.toNat : Int) = 1 := U8.sizeN_one.2 ⟨by omega, by omega⟩
  rw [U8.putL_one h2, U8.b8_self]
theorem decL_ascii (c : UInt8) (h : c.toNat < 128) (l : List UInt8) : U8.decL (c :: l) = some (c.toNat, 1) := by
  have h2 : U8.sizeN (c.toNat : Int) = 1 := U8.sizeN_one.2 ⟨by omega, by omega⟩
  have := U8.decL_put (c.toNat : Int) (by rw [h2]; decide) l
  rw [putL_ascii c h, h2] at this
  exact this
theorem putL_high (r : Int) (h : 2 ≤ U8.sizeN r) : ∀ x ∈ U8.putL r, 128 ≤ x.toNat := by
  have h4 : U8.sizeN r = 2 ∨ U8.sizeN r = 3 ∨ U8.sizeN r = 4 := by
    have : U8.sizeN r ≤ 4 := by unfold U8.sizeN; split <;> (try split) <;> (try split) <;> (try split) <;> (try split) <;> (try split) <;> omega
    omega
  intro x hx
  rcases h4 with e | e | e
  · have hr := U8.sizeN_two.1 e
    rw [U8.putL_two e] at hx
    simp only [List.mem_cons, List.not_mem_nil, or_false] at hx
    rcases hx with rfl | rfl <;> rw [U8.b8_nat (by omega) (by omega)] <;> omega
  · have hr := U8.sizeN_three.1 e
    rw [U8.putL_three e] at hx
    simp only [List.mem_cons, List.not_mem_nil, or_false] at hx
    rcases hx with rfl | rfl | rfl <;> rw [U8.b8_nat (by omega) (by omega)] <;> omega
  · have hr := U8.sizeN_four.1 e
    rw [U8.putL_four e] at hx
    simp only [List.mem_cons, List.not_mem_nil, or_false] at hx
    rcases hx with rfl | rfl | rfl | rfl <;> rw [U8.b8_nat (by omega) (by omega)] <;> omega
theorem qB_high {c : UInt8} (h : 128 ≤ c.toNat) : qB c = [c] := by
  rcases qB_cases c with ⟨rfl, _⟩ | ⟨rfl, _⟩ | ⟨rfl, _⟩ | ⟨rfl, _⟩ | ⟨rfl, _⟩ | ⟨rfl, _⟩ | ⟨rfl, _⟩ | ⟨_, h2, _⟩ | ⟨_, _, h3⟩
  all_goals first | exact h3 | (exfalso; revert h; decide) | omega
theorem qL_cons (c : UInt8) (t : List UInt8) : qL (c :: t) = qB c ++ qL t := by unfold qL; rw [List.flatMap_cons]
theorem qL_high : ∀ (a b : List UInt8), (∀ x ∈ a, 128 ≤ x.toNat) → qL (a ++ b) = a ++ qL b
  | [], _, _ => rfl
  | c :: a, b, h => by
    rw [List.cons_append, qL_cons, qB_high (h c List.mem_cons_self), qL_high a b fun x hx => h x (List.mem_cons_of_mem _ hx)]
    rfl
/-- A text in its signs is read back. -/
theorem textF_quote (l : List UInt8) (hv : U8.validL l = true) : ∀ (f : Nat) (out r : List UInt8), (qL l).length < f → textF f out (qL l ++ 34 :: r) = .ok (out ++ l, r) := by
  refine U8.valid_induct (P := fun l => ∀ (f : Nat) (out r : List UInt8), (qL l).length < f → textF f out (qL l ++ 34 :: r) = .ok (out ++ l, r)) ?_ ?_ l hv
  · intro f out r hf
    obtain ⟨f, rfl⟩ : ∃ g, f = g + 1 := ⟨f - 1, by omega⟩
    show textF (f + 1) out (34 :: r) = _
    rw [textF, if_pos rfl, List.append_nil]
  · intro l p n hd _ ih f out r hf
    obtain ⟨s1, s2, s3, s4⟩ := U8.decL_some hd
    obtain ⟨f, rfl⟩ : ∃ g, f = g + 1 := ⟨f - 1, by omega⟩
    cases l with
    | nil => cases hd
    | cons c t =>
      by_cases hc : c.toNat < 128
      · have hd' := hd
        rw [decL_ascii c hc] at hd'
        have hn : n = 1 := by injection hd' with e; injection e with _ e; exact e.symm
        subst hn
        have ih' : ∀ (f : Nat) (out r : List UInt8), (qL t).length < f → textF f out (qL t ++ 34 :: r) = .ok (out ++ t, r) := ih
        rw [qL_cons] at hf ⊢
        have two : ∀ x : UInt8, qB c = [92, x] → signV x = some c → textF (f + 1) out (qB c ++ qL t ++ 34 :: r) = .ok (out ++ c :: t, r) := by
          intro x hx hs
          rw [hx] at hf ⊢
          show textF (f + 1) out (92 :: x :: (qL t ++ 34 :: r)) = _
          rw [textF_esc, escapeL, hs]
          simp only
          rw [ih' f (out ++ [c]) r (by rw [List.length_append] at hf; simp only [List.length_cons, List.length_nil] at hf; omega), List.append_assoc]
          rfl
        rcases qB_cases c with ⟨rfl, h⟩ | ⟨rfl, h⟩ | ⟨rfl, h⟩ | ⟨rfl, h⟩ | ⟨rfl, h⟩ | ⟨rfl, h⟩ | ⟨rfl, h⟩ | ⟨_, h2, h⟩ | ⟨h1, h2, h⟩
        · exact two _ h (by decide)
        · exact two _ h (by decide)
        · exact two _ h (by decide)
        · exact two _ h (by decide)
        · exact two _ h (by decide)
        · exact two _ h (by decide)
        · exact two _ h (by decide)
        · rw [h] at hf ⊢
          show textF (f + 1) out (92 :: 117 :: 48 :: 48 :: dgS (c.toNat / 16) :: dgS (c.toNat % 16) :: (qL t ++ 34 :: r)) = _
          rw [textF_esc, escapeL, show signV 117 = none from by decide]
          simp only
          rw [if_pos trivial]
          unfold unitL
          rw [hexL_S _ _ (by omega) (by omega), show 16 * (c.toNat / 16) + c.toNat % 16 = c.toNat by omega]
          simp only
          rw [if_neg (by omega), if_neg (by omega), putL_ascii c hc]
          simp only
          rw [ih' f (out ++ [c]) r (by rw [List.length_append] at hf; simp only [List.length_cons, List.length_append, List.length_nil] at hf; omega), List.append_assoc]
          rfl
        · rw [h] at hf ⊢
          show textF (f + 1) out (c :: (qL t ++ 34 :: r)) = _
          rw [textF_plain h1.1 h1.2.1 h2, plain_one c hc]
          simp only
          rw [ih' f (out ++ [c]) r (by rw [List.length_append] at hf; simp only [List.length_cons, List.length_nil] at hf; omega), List.append_assoc]
          rfl
      · have hn2 : 2 ≤ n := by
          rcases Nat.lt_or_ge n 2 with h | h
          · have h1 : n = 1 := by omega
            rw [h1] at s1 s4
            have hp := U8.sizeN_one.1 s1
            rw [U8.putL_one s1] at s4
            have e : c = U8.b8 p := by simpa using s4
            have := U8.b8_nat (x := (p : Int)) (by omega) (by omega)
            rw [← e] at this
            omega
          · exact h
        have hhi : ∀ x ∈ (c :: t).take n, 128 ≤ x.toNat := by rw [s4]; exact putL_high _ (by rw [s1]; exact hn2)
        have hq : qL (c :: t) = (c :: t).take n ++ qL ((c :: t).drop n) := by
          have := qL_high ((c :: t).take n) ((c :: t).drop n) hhi
          rw [List.take_append_drop] at this
          exact this
        have hlt : ((c :: t).take n).length = n := by rw [List.length_take]; omega
        rw [hq, List.append_assoc]
        rw [hq, List.length_append, hlt] at hf
        obtain ⟨Y, hY⟩ : ∃ Y, qL ((c :: t).drop n) ++ 34 :: r = Y := ⟨_, rfl⟩
        have hdX : U8.decL ((c :: t).take n ++ Y) = some (p, n) := U8.decL_iff.2 ⟨s1, s2, by rw [List.take_left' hlt]; exact s4⟩
        have hX : (c :: t).take n ++ Y = c :: (((c :: t).take n).tail ++ Y) := by
          cases n with
          | zero => omega
          | succ m => rfl
        have hp : plainT ((c :: t).take n ++ Y) = .ok ((c :: t).take n, Y) := by
          unfold plainT
          rw [hdX]
          simp only
          rw [List.take_left' hlt, List.drop_left' hlt]
        have hb : c.toNat ≥ 128 := by omega
        have hne : ∀ d : UInt8, d.toNat < 128 → c ≠ d := fun d hd e => by subst e; omega
        rw [hY, hX, textF_plain (hne _ (by decide)) (hne _ (by decide)) (by omega), ← hX, hp]
        simp only
        rw [← hY, ih f (out ++ (c :: t).take n) r (by omega), List.append_assoc, List.take_append_drop]
theorem textL_quote (l r : List UInt8) (hv : U8.validL l = true) : textL (qL l ++ 34 :: r) = .ok (l, r) := by
  unfold textL
  rw [textF_quote l hv _ _ _ (by rw [List.length_append]; omega)]
  rfl
theorem qL_length (l : List UInt8) : (qL l).length ≤ 6 * l.length := by
  induction l with
  | nil => exact Nat.le_refl _
  | cons c t ih =>
    rw [qL_cons, List.length_append, List.length_cons]
    have : (qB c).length ≤ 6 := by
      rcases qB_cases c with ⟨_, h⟩ | ⟨_, h⟩ | ⟨_, h⟩ | ⟨_, h⟩ | ⟨_, h⟩ | ⟨_, h⟩ | ⟨_, h⟩ | ⟨_, _, h⟩ | ⟨_, _, h⟩ <;> rw [h] <;> simp
    omega
end Go.Proofs.Ytpnffmimpkimeaa.J7
