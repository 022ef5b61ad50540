/-
  Plain facts on JSON texts: a number's text is read back. No program in this text. Conditions: none.
-/
import Derived.Test.YtpnffmimpkimeaaJ7Print
import Derived.Test.YtpnffmimpkimeaaJ7Escapes
namespace Go.Proofs.Ytpnffmimpkimeaa.J7
open Go Go.RowKit Go.Joins Kit Dg

theorem dig_code (k : Nat) (h : k < 10) : digB (UInt8.ofNat (48 + k)) = true ∧ (UInt8.ofNat (48 + k)).toNat - 48 = k := by
  have e : (UInt8.ofNat (48 + k)).toNat = 48 + k := by
    show (48 + k) % 256 = 48 + k
    omega
  refine ⟨?_, by omega⟩
  unfold digB
  rw [e]
  simp
  omega
theorem digits_dig : ∀ (u : Nat), ∀ c ∈ Lib.decDigits u, digB c = true := fun u => by
  induction u using Nat.strongRecOn with
  | _ u ih =>
    intro c hc
    rw [Lib.decDigits] at hc
    by_cases h : u < 10
    · rw [dif_pos h] at hc
      obtain rfl := List.mem_singleton.1 hc
      exact (dig_code u h).1
    · rw [dif_neg h] at hc
      rcases List.mem_append.1 hc with hc | hc
      · exact ih (u / 10) (by omega) c hc
      · obtain rfl := List.mem_singleton.1 hc
        exact (dig_code (u % 10) (by omega)).1
theorem numV_app (n : Nat) (a b : List UInt8) : numV n (a ++ b) = numV (numV n a) b := by unfold numV; rw [List.foldl_append]
theorem numV_digits (u : Nat) : numV 0 (Lib.decDigits u) = u := by
  induction u using Nat.strongRecOn with
  | _ u ih =>
    rw [Lib.decDigits]
    by_cases h : u < 10
    · rw [dif_pos h, numV_cons, numV_nil, (dig_code u h).2]; omega
    · rw [dif_neg h, numV_app, ih (u / 10) (by omega), numV_cons, numV_nil, (dig_code (u % 10) (by omega)).2]; omega
theorem digs_all : ∀ (a t : List UInt8), (∀ c ∈ a, digB c = true) → digsL (a ++ t) = a ++ digsL t ∧ restL (a ++ t) = restL t
  | [], t, _ => ⟨rfl, rfl⟩
  | c :: a, t, h => by
    obtain ⟨h1, h2⟩ := digs_all a t fun x hx => h x (List.mem_cons_of_mem _ hx)
    have hc := h c List.mem_cons_self
    exact ⟨by rw [List.cons_append, digs_head hc, h1]; rfl, by rw [List.cons_append, rest_head hc, h2]⟩
/-- Digits, and what is no digit behind them. -/
theorem digC_digits (u : Nat) (hu : u ≤ maxNum) (t : List UInt8) (h1 : digsL t = []) (h2 : restL t = t) : digC (Lib.decDigits u ++ t) = .ok (u, t) := by
  obtain ⟨hd, hr⟩ := digs_all (Lib.decDigits u) t (digits_dig u)
  rw [h1, List.append_nil] at hd
  rw [h2] at hr
  by_cases h0 : u = 0
  · subst h0
    rw [Lib.decDigits_one (by decide)]
    rfl
  · have hh := Tx.digits_head u (by omega)
    have hv := numV_digits u
    cases e : Lib.decDigits u with
    | nil => exact absurd e (Tx.digits_ne u)
    | cons c r =>
      rw [e] at hd hr hh hv
      rw [List.cons_append] at hd hr ⊢
      rw [digC, if_neg (by intro h; exact hh (by rw [h]; rfl)), hd, hr, hv, if_neg (by rw [List.length_cons]; omega)]
theorem digits_cons (u : Nat) : ∃ c r, Lib.decDigits u = c :: r ∧ digB c = true := by
  have := digits_dig u
  cases e : Lib.decDigits u with
  | nil => exact absurd e (Tx.digits_ne u)
  | cons c r => exact ⟨c, r, rfl, this c (by rw [e]; exact List.mem_cons_self)⟩
theorem dig_ne {c : UInt8} (h : digB c = true) : c ≠ 45 ∧ blank c = false ∧ c ≠ 110 ∧ c ≠ 102 ∧ c ≠ 116 ∧ c ≠ 34 ∧ c ≠ 91 ∧ c ≠ 123 := by
  unfold digB at h
  simp only [Bool.and_eq_true, decide_eq_true_eq] at h
  have hn : ∀ d : UInt8, d.toNat < 48 ∨ 57 < d.toNat → c ≠ d := fun d hd e => by subst e; omega
  refine ⟨hn _ (by decide), ?_, hn _ (by decide), hn _ (by decide), hn _ (by decide), hn _ (by decide), hn _ (by decide), hn _ (by decide)⟩
  unfold blank
  simp only [Bool.or_eq_false_iff, beq_eq_false_iff_ne]
  exact ⟨⟨⟨hn _ (by decide), hn _ (by decide)⟩, hn _ (by decide)⟩, hn _ (by decide)⟩
theorem numT_neg {k : Int} (h : k < 0) : numT k = 45 :: Lib.decDigits k.natAbs := by
  unfold numT digs
  rw [if_pos h, show (max k (-k)).toNat = k.natAbs by omega]
  rfl
theorem numT_pos {k : Int} (h : ¬ k < 0) : numT k = Lib.decDigits k.natAbs := by
  unfold numT digs
  rw [if_neg h, show (max k (-k)).toNat = k.natAbs by omega]
  rfl
theorem numT_head (k : Int) : ∃ c r, numT k = c :: r ∧ (c = 45 ∨ digB c = true) := by
  by_cases h : k < 0
  · exact ⟨_, _, numT_neg h, Or.inl rfl⟩
  · obtain ⟨c, r, e, hc⟩ := digits_cons k.natAbs
    exact ⟨c, r, by rw [numT_pos h, e], Or.inr hc⟩
theorem numC_numT (k : Int) (h1 : k ≤ 9007199254740991) (h2 : -9007199254740991 ≤ k) (t : List UInt8) (ht1 : digsL t = []) (ht2 : restL t = t) : numC (numT k ++ t) = .ok (numJ k, t) := by
  have hu : k.natAbs ≤ maxNum := by unfold maxNum; omega
  have hd := digC_digits k.natAbs hu t ht1 ht2
  by_cases h : k < 0
  · rw [numT_neg h, List.cons_append, numC, eatL, if_pos rfl]
    simp only
    rw [hd]
    simp only
    rw [if_neg (by omega), show (-(k.natAbs : Int)) = k by omega]
  · obtain ⟨c, r, e, hc⟩ := digits_cons k.natAbs
    rw [numT_pos h]
    rw [e] at hd ⊢
    rw [List.cons_append] at hd ⊢
    rw [numC, eatL, if_neg (dig_ne hc).1]
    simp only
    rw [hd]
    simp only
    rw [show (k.natAbs : Int) = k by omega]
/-- A number's text, and something behind it. -/
theorem value_numT (n : Nat) (k : Int) (h1 : k ≤ 9007199254740991) (h2 : -9007199254740991 ≤ k) (t : List UInt8) (ht1 : digsL t = []) (ht2 : restL t = t) : valueG numC n (numT k ++ t) = .ok (numJ k, t) := by
  have hc := numC_numT k h1 h2 t ht1 ht2
  obtain ⟨c, r, e, hh⟩ := numT_head k
  rw [e, List.cons_append] at hc ⊢
  have hq : blank c = false ∧ c ≠ 110 ∧ c ≠ 102 ∧ c ≠ 116 ∧ c ≠ 34 ∧ c ≠ 91 ∧ c ≠ 123 := by
    rcases hh with rfl | hh
    · decide
    · exact (dig_ne hh).2
  obtain ⟨q0, q1, q2, q3, q4, q5, q6⟩ := hq
  rw [valueG_eq]
  unfold valueH
  rw [skip_head q0]
  simp only
  rw [if_neg q1, if_neg q2, if_neg q3, if_neg q4, if_neg q5, if_neg q6]
  exact hc
theorem numT_short (k : Int) (h1 : k ≤ 9007199254740991) (h2 : -9007199254740991 ≤ k) : (numT k).length ≤ 20 := by
  have h := digs_short (n := max k (-k)) (by omega)
  rw [Lib.size_eq] at h
  unfold numT
  rw [List.length_append]
  split
  · rw [List.length_singleton]; omega
  · rw [List.length_nil]; omega
theorem parse_numT (k : Int) (h1 : k ≤ 9007199254740991) (h2 : -9007199254740991 ≤ k) : parseG numC (numT k) = .ok (numJ k) := by
  have hl := numT_short k h1 h2
  have hv := value_numT 24 k h1 h2 [] rfl rfl
  rw [List.append_nil] at hv
  unfold parseG
  rw [if_neg (by omega), hv]
  rfl
theorem parse_numT_bad (k : Int) (h1 : k ≤ 9007199254740991) (h2 : -9007199254740991 ≤ k) (c : UInt8) (t : List UInt8) (hc : digB c = false) (hb : blank c = false) (ht : t.length ≤ 60000) : parseG numC (numT k ++ c :: t) = .error 3 := by
  have hl := numT_short k h1 h2
  have hv := value_numT 24 k h1 h2 (c :: t) (digs_none hc) (rest_none hc)
  unfold parseG
  rw [if_neg (by rw [List.length_append, List.length_cons]; omega), hv]
  simp only
  rw [skip_head hb, if_neg (by simp)]
theorem parse_plus (l : List UInt8) (hl : l.length ≤ 60000) : parseG numC (43 :: l) = .error 3 := by
  unfold parseG
  rw [if_neg (by rw [List.length_cons]; omega), valueG_eq]
  unfold valueH
  rw [skip_head (by decide)]
  simp only
  rw [if_neg (by decide), if_neg (by decide), if_neg (by decide), if_neg (by decide), if_neg (by decide), if_neg (by decide), numC, eatL, if_neg (by decide)]
  simp only
  rw [digC, if_neg (by decide), digs_none (by decide)]
  rfl
theorem right_num (k : Int) (h1 : k ≤ 9007199254740991) (h2 : -9007199254740991 ≤ k) (d : Nat) : RightJ d (numJ k) := by
  have : ∀ sub, RightH sub (numJ k) := fun sub =>
    ⟨by show (1 : Int) ≤ 4; omega, by show (4 : Int) ≤ 7; omega, fun h => absurd rfl h, h1, h2, fun _ => rfl, rfl, fun _ => rfl, fun _ => rfl, fun _ => rfl, fun h => absurd (show (6 : Int) ≤ 4 from h) (by omega), fun _ hk => absurd hk List.not_mem_nil, fun _ hk => absurd hk List.not_mem_nil, List.nodup_nil, by show (0 : Nat) ≤ 300000; omega, fun _ hk => absurd hk List.not_mem_nil, by show (0 : Nat) ≤ 65536; omega, by show (0 : Nat) ≤ 65536; omega⟩
  cases d
  · exact this _
  · exact this _
theorem put_num (k : Int) : putJ (numJ k) = numT k := by rw [numJ, putJ]; rfl
end Go.Proofs.Ytpnffmimpkimeaa.J7
