/-
  Plain facts on JSON texts: what is read is right, and its text is no longer than what was read. No program in this text. Conditions: none.
-/
import Derived.Test.YtpnffmimpkimeaaJ7BackP
namespace Go.Proofs.Ytpnffmimpkimeaa.J7
open Go Go.RowKit Go.Joins Kit Dg

theorem hexF_len : ∀ (k v : Nat) (l : List UInt8) (x : Nat) (r : List UInt8), hexF k v l = .ok (x, r) → l.length = r.length + k
  | 0, v, l, x, r, h => by rw [hexF] at h; rw [snd_of h]; rfl
  | k + 1, v, [], x, r, h => by rw [hexF] at h; cases h
  | k + 1, v, c :: u, x, r, h => by
    rw [hexF] at h
    cases e : Q4.hx c with
    | none => rw [e] at h; cases h
    | some d =>
      rw [e] at h
      have := hexF_len k _ u x r h
      rw [List.length_cons]
      omega
theorem qL_app (a b : List UInt8) : qL (a ++ b) = qL a ++ qL b := by unfold qL; rw [List.flatMap_append]
theorem qL_self (a : List UInt8) (h : ∀ x ∈ a, 128 ≤ x.toNat) : qL a = a := by
  have := qL_high a [] h
  rw [List.append_nil] at this
  rw [this]
  show a ++ [] = a
  rw [List.append_nil]
theorem qB_six (c : UInt8) : (qB c).length ≤ 6 := by
  rcases qB_cases c with ⟨_, h⟩ | ⟨_, h⟩ | ⟨_, h⟩ | ⟨_, h⟩ | ⟨_, h⟩ | ⟨_, h⟩ | ⟨_, h⟩ | ⟨_, _, h⟩ | ⟨_, _, h⟩ <;> rw [h] <;> simp
theorem qB_pos (c : UInt8) : 1 ≤ (qB c).length := by
  rcases qB_cases c with ⟨_, h⟩ | ⟨_, h⟩ | ⟨_, h⟩ | ⟨_, h⟩ | ⟨_, h⟩ | ⟨_, h⟩ | ⟨_, h⟩ | ⟨_, _, h⟩ | ⟨_, _, h⟩ <;> rw [h] <;> simp
theorem qL_ge : ∀ l : List UInt8, l.length ≤ (qL l).length
  | [] => Nat.le_refl _
  | c :: t => by
    have := qL_ge t
    have := qB_pos c
    rw [qL_cons, List.length_append, List.length_cons]
    omega
theorem qL_put (p : Int) : (qL (U8.putL p)).length ≤ 6 := by
  have h4 := putL_le p
  by_cases h2 : 2 ≤ U8.sizeN p
  · rw [qL_self _ (putL_high p h2)]; omega
  · by_cases h1 : U8.sizeN p = 1
    · rw [U8.putL_one h1, qL_cons]
      have := qB_six (U8.b8 p)
      show (qB (U8.b8 p) ++ []).length ≤ 6
      rw [List.append_nil]
      exact this
    · have h0 : U8.sizeN p = 0 := by omega
      have : U8.putL p = [] := by unfold U8.putL; simp [h0]
      rw [this]
      exact Nat.zero_le _
theorem valid_ascii (c : UInt8) (h : c.toNat < 128) : U8.validL [c] = true := by
  have := U8.validL_put (c.toNat : Int)
  rw [putL_ascii c h] at this
  exact this
theorem sign_right : ∀ c x : UInt8, signV c = some x → x.toNat < 128 ∧ (qB x).length ≤ 2 := by
  intro c x h
  unfold signV at h
  split at h
  · rename_i hc
    injection h with h
    subst h
    rcases hc with rfl | rfl | rfl <;> decide
  · split at h
    · injection h with h; subst h; decide
    · split at h
      · injection h with h; subst h; decide
      · split at h
        · injection h with h; subst h; decide
        · split at h
          · injection h with h; subst h; decide
          · split at h
            · injection h with h; subst h; decide
            · cases h
theorem low_right {v : Nat} {l e r : List UInt8} (h : lowL v l = .ok (e, r)) : U8.validL e = true ∧ (qL e).length + r.length ≤ l.length := by
  unfold lowL at h
  cases l with
  | nil => cases h
  | cons a l1 =>
    rw [eatL] at h
    by_cases ha : a = 92
    · rw [if_pos ha] at h
      simp only at h
      cases l1 with
      | nil => cases h
      | cons b l2 =>
        rw [eatL] at h
        by_cases hb : b = 117
        · rw [if_pos hb] at h
          simp only at h
          cases hh : hexL l2 with
          | error e => rw [hh] at h; cases h
          | ok x =>
            obtain ⟨w, r2⟩ := x
            rw [hh] at h
            simp only at h
            have hlen := hexF_len 4 0 l2 w r2 hh
            split at h
            · injection h with h
              injection h with h1 h2
              subst h1 h2
              refine ⟨U8.validL_put _, ?_⟩
              have := qL_put ((65536 + (v - 55296) * 1024 + (w - 56320) : Nat) : Int)
              simp only [List.length_cons]
              omega
            · cases h
        · rw [if_neg hb] at h; cases h
    · rw [if_neg ha] at h; cases h
theorem unit_right {l e r : List UInt8} (h : unitL l = .ok (e, r)) : U8.validL e = true ∧ (qL e).length + r.length ≤ l.length + 2 := by
  unfold unitL at h
  cases hh : hexL l with
  | error e => rw [hh] at h; cases h
  | ok x =>
    obtain ⟨v, r2⟩ := x
    rw [hh] at h
    simp only at h
    have hlen := hexF_len 4 0 l v r2 hh
    split at h
    · obtain ⟨h1, h2⟩ := low_right h
      exact ⟨h1, by omega⟩
    · split at h
      · cases h
      · injection h with h
        injection h with h1 h2
        subst h1 h2
        have := qL_put (v : Int)
        exact ⟨U8.validL_put _, by omega⟩
theorem escape_right {l e r : List UInt8} (h : escapeL l = .ok (e, r)) : U8.validL e = true ∧ (qL e).length + r.length ≤ l.length + 1 := by
  cases l with
  | nil => cases h
  | cons c u =>
    rw [escapeL] at h
    cases hs : signV c with
    | some x =>
      rw [hs] at h
      injection h with h
      injection h with h1 h2
      subst h1 h2
      obtain ⟨g1, g2⟩ := sign_right c x hs
      refine ⟨valid_ascii x g1, ?_⟩
      show (qB x ++ []).length + u.length ≤ u.length + 1 + 1
      rw [List.append_nil]
      omega
    | none =>
      rw [hs] at h
      simp only at h
      split at h
      · obtain ⟨h1, h2⟩ := unit_right h
        exact ⟨h1, by rw [List.length_cons]; omega⟩
      · cases h
theorem plain_right {c : UInt8} {u : List UInt8} {p n : Nat} (h1 : c ≠ 34) (h2 : c ≠ 92) (h3 : ¬ c.toNat < 32) (hd : U8.decL (c :: u) = some (p, n)) : U8.validL ((c :: u).take n) = true ∧ (qL ((c :: u).take n)).length = n := by
  obtain ⟨s1, s2, s3, s4⟩ := U8.decL_some hd
  refine ⟨by rw [s4]; exact U8.validL_put _, ?_⟩
  have hlt : ((c :: u).take n).length = n := by rw [List.length_take]; omega
  by_cases hn : n = 1
  · subst hn
    show (qB c ++ []).length = 1
    rcases qB_cases c with ⟨rfl, _⟩ | ⟨rfl, _⟩ | ⟨rfl, _⟩ | ⟨rfl, _⟩ | ⟨rfl, _⟩ | ⟨rfl, _⟩ | ⟨rfl, _⟩ | ⟨_, h, _⟩ | ⟨_, _, h⟩
    · exact absurd rfl h1
    · exact absurd rfl h2
    · exact absurd (by decide) h3
    · exact absurd (by decide) h3
    · exact absurd (by decide) h3
    · exact absurd (by decide) h3
    · exact absurd (by decide) h3
    · exact absurd h h3
    · rw [h]; rfl
  · rw [qL_self _ (by rw [s4]; exact putL_high _ (by rw [s1]; omega)), hlt]
theorem textF_right : ∀ (f : Nat) (out l t r : List UInt8), textF f out l = .ok (t, r) → U8.validL out = true → U8.validL t = true ∧ (qL t).length + r.length + 1 ≤ (qL out).length + l.length
  | 0, _, _, _, _, h, _ => by rw [textF] at h; cases h
  | f + 1, out, [], _, _, h, _ => by rw [textF] at h; cases h
  | f + 1, out, c :: u, t, r, h, ho => by
    rw [textF] at h
    by_cases h1 : c = 34
    · rw [if_pos h1] at h
      injection h with h
      injection h with e1 e2
      subst e1 e2
      exact ⟨ho, by rw [List.length_cons]; omega⟩
    · rw [if_neg h1] at h
      by_cases h2 : c = 92
      · rw [if_pos h2] at h
        cases he : escapeL u with
        | error e => rw [he] at h; cases h
        | ok x =>
          obtain ⟨e, r1⟩ := x
          rw [he] at h
          simp only at h
          obtain ⟨g1, g2⟩ := escape_right he
          obtain ⟨k1, k2⟩ := textF_right f (out ++ e) r1 t r h (by rw [U8.validL_append _ _ ho]; exact g1)
          rw [qL_app, List.length_append] at k2
          exact ⟨k1, by rw [List.length_cons]; omega⟩
      · rw [if_neg h2] at h
        by_cases h3 : c.toNat < 32
        · rw [if_pos h3] at h; cases h
        · rw [if_neg h3] at h
          cases hd : U8.decL (c :: u) with
          | none => rw [hd] at h; cases h
          | some x =>
            obtain ⟨p, n⟩ := x
            rw [hd] at h
            simp only at h
            obtain ⟨g1, g2⟩ := plain_right h1 h2 h3 hd
            obtain ⟨s1, s2, s3, s4⟩ := U8.decL_some hd
            obtain ⟨k1, k2⟩ := textF_right f (out ++ (c :: u).take n) ((c :: u).drop n) t r h (by rw [U8.validL_append _ _ ho]; exact g1)
            rw [qL_app, List.length_append, g2, List.length_drop] at k2
            exact ⟨k1, by omega⟩
theorem textL_right {l t r : List UInt8} (h : textL l = .ok (t, r)) : U8.validL t = true ∧ (qL t).length + r.length + 1 ≤ l.length := by
  obtain ⟨h1, h2⟩ := textF_right _ [] l t r h rfl
  rw [show qL [] = [] from rfl, List.length_nil, Nat.zero_add] at h2
  exact ⟨h1, h2⟩
theorem digsL_dig : ∀ (l : List UInt8), (∀ c ∈ digsL l, digB c = true) ∧ (digsL l).length + (restL l).length = l.length
  | [] => ⟨fun _ h => absurd h List.not_mem_nil, rfl⟩
  | c :: r => by
    obtain ⟨h1, h2⟩ := digsL_dig r
    cases hc : digB c with
    | true =>
      rw [digs_head hc, rest_head hc]
      refine ⟨fun x hx => ?_, by rw [List.length_cons, List.length_cons]; omega⟩
      rcases List.mem_cons.1 hx with rfl | hx
      · exact hc
      · exact h1 x hx
    | false =>
      rw [digs_none hc, rest_none hc]
      exact ⟨fun _ h => absurd h List.not_mem_nil, by rw [List.length_nil]; omega⟩
theorem numV_lt : ∀ (l : List UInt8) (a : Nat), (∀ c ∈ l, digB c = true) → numV a l < (a + 1) * 10 ^ l.length
  | [], a, _ => by rw [numV_nil, List.length_nil]; omega
  | c :: r, a, h => by
    have ih := numV_lt r (10 * a + (c.toNat - 48)) fun x hx => h x (List.mem_cons_of_mem _ hx)
    have hc := h c List.mem_cons_self
    unfold digB at hc
    simp only [Bool.and_eq_true, decide_eq_true_eq] at hc
    rw [numV_cons, List.length_cons, Nat.pow_succ]
    refine Nat.lt_of_lt_of_le ih ?_
    rw [show (a + 1) * (10 ^ r.length * 10) = ((a + 1) * 10) * 10 ^ r.length by rw [Nat.mul_assoc, Nat.mul_comm 10]]
    exact Nat.mul_le_mul_right _ (by omega)
theorem digC_right {l r : List UInt8} {n : Nat} (h : digC l = .ok (n, r)) : n ≤ maxNum ∧ (Lib.decDigits n).length + r.length ≤ l.length := by
  cases l with
  | nil => cases h
  | cons c u =>
    rw [digC] at h
    split at h
    · injection h with h
      injection h with e1 e2
      subst e1 e2
      rw [Lib.decDigits_one (by decide)]
      exact ⟨Nat.zero_le _, by rw [List.length_cons, List.length_cons, List.length_nil]; omega⟩
    · split at h
      · cases h
      · rename_i hh
        injection h with h
        injection h with e1 e2
        obtain ⟨g1, g2⟩ := digsL_dig (c :: u)
        have h0 : (digsL (c :: u)).length ≠ 0 := fun e => hh (Or.inl e)
        have h1 : ¬ maxNum < numV 0 (digsL (c :: u)) := fun e => hh (Or.inr e)
        have hlt := numV_lt (digsL (c :: u)) 0 g1
        rw [Nat.zero_add, Nat.one_mul] at hlt
        rw [e1] at h1 hlt
        rw [← e2, Lib.decDigits_length]
        refine ⟨by omega, ?_⟩
        have : Lib.nDigits n ≤ (digsL (c :: u)).length - 1 + 1 := Tx.nDigits_le (by rw [show (digsL (c :: u)).length - 1 + 1 = (digsL (c :: u)).length by omega]; exact hlt)
        omega
theorem numC_right {l r : List UInt8} {j : J} (h : numC l = .ok (j, r)) : ∃ n : Int, j = numJ n ∧ n ≤ 9007199254740991 ∧ -9007199254740991 ≤ n ∧ (numT n).length + r.length ≤ l.length := by
  unfold numC at h
  cases he : eatL 45 l with
  | some m =>
    rw [he] at h
    simp only at h
    have hm : l.length = m.length + 1 := by
      cases l with
      | nil => cases he
      | cons a t =>
        rw [eatL] at he
        split at he
        · injection he with he; rw [he]; rfl
        · cases he
    cases hd : digC m with
    | error e => rw [hd] at h; cases h
    | ok x =>
      obtain ⟨n, r1⟩ := x
      rw [hd] at h
      simp only at h
      obtain ⟨g1, g2⟩ := digC_right hd
      unfold maxNum at g1
      split at h
      · cases h
      · injection h with h
        injection h with e1 e2
        subst e2
        refine ⟨-(n : Int), e1.symm, by omega, by omega, ?_⟩
        rw [numT_neg (by omega), List.length_cons, show (-(n : Int)).natAbs = n by omega]
        omega
  | none =>
    rw [he] at h
    simp only at h
    cases hd : digC l with
    | error e => rw [hd] at h; cases h
    | ok x =>
      obtain ⟨n, r1⟩ := x
      rw [hd] at h
      simp only at h
      obtain ⟨g1, g2⟩ := digC_right hd
      unfold maxNum at g1
      injection h with h
      injection h with e1 e2
      subst e2
      refine ⟨(n : Int), e1.symm, by omega, by omega, ?_⟩
      rw [numT_pos (by omega), show (n : Int).natAbs = n by omega]
      exact g2
end Go.Proofs.Ytpnffmimpkimeaa.J7
