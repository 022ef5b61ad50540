/-
  Plain facts on JSON texts: numbers in an array, and in an object by the keys k0, k1, .., are read as its kids. No program in this text. Conditions: none.
-/
import Derived.Test.YtpnffmimpkimeaaJ7TwicP
import Derived.Test.YtpnffmimpkimeaaJ7BlP
namespace Go.Proofs.Ytpnffmimpkimeaa.J7
open Go Go.RowKit Go.Joins Kit Dg

/-- Behind the opening of an array: from the first number, or from one behind another. -/
def rA : Bool → List Int → List UInt8
  | _, [] => [93]
  | first, k :: r => (if first then [] else [32, 44, 32]) ++ (numT k ++ rA false r)
def keyT (i : Nat) : List UInt8 := 107 :: Lib.decDigits i
def keyB (i : Nat) : ByteArray := ByteArray.mk #[107] ++ digs (i : Int)
/-- The same of an object; the keys' numbers from i on. -/
def rT : Nat → List Int → List UInt8
  | _, [] => [125]
  | i, k :: r => (if i = 0 then [] else [44]) ++ (34 :: (keyT i ++ 34 :: 32 :: 58 :: 32 :: (numT k ++ rT (i + 1) r)))
theorem rA_nil (f : Bool) : rA f [] = [93] := by rw [rA]
theorem rA_cons (f : Bool) (k : Int) (r : List Int) : rA f (k :: r) = (if f then [] else [32, 44, 32]) ++ (numT k ++ rA false r) := by rw [rA]
theorem rT_nil (i : Nat) : rT i [] = [125] := by rw [rT]
theorem rT_cons (i : Nat) (k : Int) (r : List Int) : rT i (k :: r) = (if i = 0 then [] else [44]) ++ (34 :: (keyT i ++ 34 :: 32 :: 58 :: 32 :: (numT k ++ rT (i + 1) r))) := by rw [rT]
theorem keyB_data (i : Nat) : (keyB i).data.toList = keyT i := by
  unfold keyB keyT
  rw [data_append]
  unfold digs
  show [107] ++ Lib.decDigits (i : Int).toNat = _
  rw [show (i : Int).toNat = i by omega]
  rfl
theorem rA_stop (r : List Int) : digsL (rA false r) = [] ∧ restL (rA false r) = rA false r := by
  cases r with
  | nil => rw [rA_nil]; exact ⟨digs_none (by decide), rest_none (by decide)⟩
  | cons a u => rw [rA_cons]; exact ⟨digs_none (by decide), rest_none (by decide)⟩
theorem rT_stop (i : Nat) (r : List Int) : digsL (rT (i + 1) r) = [] ∧ restL (rT (i + 1) r) = rT (i + 1) r := by
  cases r with
  | nil => rw [rT_nil]; exact ⟨digs_none (by decide), rest_none (by decide)⟩
  | cons a u => rw [rT_cons, if_neg (by omega)]; exact ⟨digs_none (by decide), rest_none (by decide)⟩
def Small (ks : List Int) : Prop := ∀ k ∈ ks, -32768 ≤ k ∧ k ≤ 32767
theorem items_A (d : Nat) : ∀ (ks : List Int) (P : List UInt8) (f : Nat) (kids0 : List J), Bl P → Small ks → ks ≠ [] → ks.length ≤ f → itemsG (valueG numC d) false f [] kids0 (P ++ rA true ks) = .ok (listJ false [] (kids0 ++ ks.map numJ), [])
  | [], _, _, _, _, _, h, _ => absurd rfl h
  | k :: r, P, f, kids0, hP, hs, _, hf => by
    obtain ⟨f, rfl⟩ : ∃ g, f = g + 1 := ⟨f - 1, by rw [List.length_cons] at hf; omega⟩
    obtain ⟨k1, k2⟩ := hs k List.mem_cons_self
    have hv := value_numT d k (by omega) (by omega) (rA false r) (rA_stop r).1 (rA_stop r).2
    rw [itemsG]
    simp only [keyO, Bool.false_eq_true, if_false]
    rw [value_ahead numC d hP, rA_cons, if_pos rfl, List.nil_append, hv]
    simp only
    cases r with
    | nil =>
      rw [rA_nil]
      rfl
    | cons a u =>
      have e1 : skipL (rA false (a :: u)) = 44 :: ([32] ++ rA true (a :: u)) := by
        rw [rA_cons, rA_cons]
        rfl
      rw [e1]
      have e2 : eatL (endO false) (44 :: ([32] ++ rA true (a :: u))) = none := by rw [eatL, if_neg (by decide)]
      have e3 : eatL 44 (44 :: ([32] ++ rA true (a :: u))) = some ([32] ++ rA true (a :: u)) := by rw [eatL, if_pos rfl]
      rw [e2, e3]
      simp only
      rw [items_A d (a :: u) [32] f _ (fun c hc => by rw [List.mem_singleton.1 hc]; decide) (fun x hx => hs x (List.mem_cons_of_mem _ hx)) (by simp) (by rw [List.length_cons] at hf; omega)]
      rw [List.append_assoc, List.map_cons, List.map_cons]
      rfl
theorem skip_not {c : UInt8} {r : List UInt8} (h : blank c = false) : skipL (c :: r) = c :: r := by rw [skipL, if_neg (by rw [h]; decide)]
theorem num_first (k : Int) (t : List UInt8) : ∃ c r, numT k ++ t = c :: r ∧ blank c = false ∧ c ≠ 93 ∧ c ≠ 125 := by
  obtain ⟨c, r, e, hc⟩ := numT_head k
  refine ⟨c, r ++ t, by rw [e]; rfl, ?_⟩
  rcases hc with rfl | hc
  · decide
  · have h1 := dig_ne hc
    unfold digB at hc
    simp only [Bool.and_eq_true, decide_eq_true_eq] at hc
    refine ⟨h1.2.1, fun e => ?_, fun e => ?_⟩
    · subst e; exact absurd hc.2 (by decide)
    · subst e; exact absurd hc.2 (by decide)
theorem value_A (ks : List Int) (hs : Small ks) : valueG numC 24 (91 :: rA true ks) = .ok (listJ false [] (ks.map numJ), []) := by
  rw [valueG_eq]
  unfold valueH
  rw [skip_not (by decide)]
  simp only
  rw [if_neg (by decide), if_neg (by decide), if_neg (by decide), if_neg (by decide), if_pos trivial]
  show listG (valueG numC 23) false (rA true ks) = _
  unfold listG
  cases ks with
  | nil => rw [rA_nil]; rfl
  | cons k r =>
    have e1 : skipL (rA true (k :: r)) = rA true (k :: r) ∧ eatL (endO false) (rA true (k :: r)) = none ∧ r.length < (rA true (k :: r)).length := by
      rw [rA_cons, if_pos rfl, List.nil_append]
      obtain ⟨c, t, e, h1, h2, h3⟩ := num_first k (rA false r)
      have hl : ∀ u : List Int, u.length < (rA false u).length := by
        intro u
        induction u with
        | nil => rw [rA_nil]; decide
        | cons a u ih => rw [rA_cons, List.length_append, List.length_append, List.length_cons]; simp; omega
      refine ⟨?_, ?_, ?_⟩
      · rw [e, skip_not h1]
      · rw [e, eatL]; exact if_neg h2
      · have := hl r; rw [List.length_append]; omega
    rw [e1.1, e1.2.1]
    simp only
    have := items_A 23 (k :: r) [] ((rA true (k :: r)).length + 1) [] (fun _ h => absurd h List.not_mem_nil) hs (by simp) (by have := e1.2.2; rw [List.length_cons]; omega)
    rw [List.nil_append, List.nil_append] at this
    exact this
theorem keyT_ascii (i : Nat) : ∀ c ∈ keyT i, c.toNat < 128 ∧ qB c = [c] := by
  intro c hc
  have : c = 107 ∨ digB c = true := by
    rcases List.mem_cons.1 hc with h | h
    · exact Or.inl h
    · exact Or.inr (digits_dig i c h)
  have hq : 48 ≤ c.toNat ∧ c.toNat ≤ 107 ∧ c.toNat ≠ 92 := by
    rcases this with rfl | h
    · decide
    · unfold digB at h
      simp only [Bool.and_eq_true, decide_eq_true_eq] at h
      omega
  refine ⟨by omega, ?_⟩
  have hn : ∀ d : UInt8, (d.toNat < 48 ∨ d.toNat = 92) → c ≠ d := fun d hd e => by subst e; omega
  rcases qB_cases c with ⟨e, _⟩ | ⟨e, _⟩ | ⟨e, _⟩ | ⟨e, _⟩ | ⟨e, _⟩ | ⟨e, _⟩ | ⟨e, _⟩ | ⟨_, h, _⟩ | ⟨_, _, h⟩
  · exact absurd e (hn _ (by decide))
  · exact absurd e (hn _ (by decide))
  · exact absurd e (hn _ (by decide))
  · exact absurd e (hn _ (by decide))
  · exact absurd e (hn _ (by decide))
  · exact absurd e (hn _ (by decide))
  · exact absurd e (hn _ (by decide))
  · omega
  · exact h
theorem ascii_text : ∀ l : List UInt8, (∀ c ∈ l, c.toNat < 128 ∧ qB c = [c]) → U8.validL l = true ∧ qL l = l
  | [], _ => ⟨rfl, rfl⟩
  | c :: r, h => by
    obtain ⟨h1, h2⟩ := h c List.mem_cons_self
    obtain ⟨i1, i2⟩ := ascii_text r fun x hx => h x (List.mem_cons_of_mem _ hx)
    refine ⟨?_, by rw [qL_cons, h2, i2]; rfl⟩
    rw [U8.validL_some (decL_ascii c h1 r)]
    exact i1
theorem keyT_inj {a b : Nat} (h : keyT a = keyT b) : a = b := by
  unfold keyT at h
  injection h with _ h
  have := numV_digits a
  rw [h, numV_digits b] at this
  exact this.symm
def keysB (n : Nat) : List ByteArray := (List.range n).map keyB
theorem keysB_succ (n : Nat) : keysB (n + 1) = keysB n ++ [keyB n] := by unfold keysB; rw [List.range_succ, List.map_append]; rfl
theorem key_new (i : Nat) : hasB (keysB i) (keyT i) = false := by
  unfold hasB
  rw [List.any_eq_false]
  intro x hx h
  unfold keysB at hx
  obtain ⟨m, hm, rfl⟩ := List.mem_map.1 hx
  have hm := List.mem_range.1 hm
  rw [beq_iff_eq, keyB_data] at h
  have := keyT_inj h
  omega
theorem key_read (i : Nat) (t : List UInt8) : keyO true (keysB i) (34 :: (keyT i ++ 34 :: 32 :: 58 :: 32 :: t)) = .ok (keysB (i + 1), 32 :: t) := by
  obtain ⟨h1, h2⟩ := ascii_text (keyT i) (keyT_ascii i)
  simp only [keyO, if_true]
  unfold keyL
  rw [skip_not (by decide), eatL, if_pos rfl]
  simp only
  have ht := textL_quote (keyT i) (32 :: 58 :: 32 :: t) h1
  rw [h2] at ht
  rw [ht]
  simp only
  rw [key_new i, if_neg (by decide), keysB_succ]
  have e : (⟨(keyT i).toArray⟩ : ByteArray) = keyB i := bytes_ext (by rw [keyB_data])
  rw [e]
  rfl
theorem items_T (d : Nat) : ∀ (ks : List Int) (i f : Nat) (kids0 : List J), Small ks → ks ≠ [] → ks.length ≤ f →
    itemsG (valueG numC d) true f (keysB i) kids0 ((rT i ks).drop (if i = 0 then 0 else 1)) = .ok (listJ true (keysB (i + ks.length)) (kids0 ++ ks.map numJ), [])
  | [], _, _, _, _, h, _ => absurd rfl h
  | k :: r, i, f, kids0, hs, _, hf => by
    obtain ⟨f, rfl⟩ : ∃ g, f = g + 1 := ⟨f - 1, by rw [List.length_cons] at hf; omega⟩
    obtain ⟨k1, k2⟩ := hs k List.mem_cons_self
    have hv := value_numT d k (by omega) (by omega) (rT (i + 1) r) (rT_stop i r).1 (rT_stop i r).2
    have e0 : (rT i (k :: r)).drop (if i = 0 then 0 else 1) = 34 :: (keyT i ++ 34 :: 32 :: 58 :: 32 :: (numT k ++ rT (i + 1) r)) := by
      rw [rT_cons]
      by_cases hi : i = 0
      · simp [hi]
      · simp [hi]
    rw [e0, itemsG, key_read]
    simp only
    rw [show (32 :: (numT k ++ rT (i + 1) r)) = [32] ++ (numT k ++ rT (i + 1) r) from rfl, value_ahead numC d (A := [32]) (fun c hc => by rw [List.mem_singleton.1 hc]; decide), hv]
    simp only
    cases r with
    | nil =>
      rw [rT_nil]
      rfl
    | cons a u =>
      have e1 : rT (i + 1) (a :: u) = 44 :: (rT (i + 1) (a :: u)).drop (if i + 1 = 0 then 0 else 1) := by
        rw [rT_cons, if_neg (by omega), if_neg (by omega)]
        rfl
      rw [e1, skip_not (by decide)]
      have e2 : ∀ t, eatL (endO true) (44 :: t) = none := fun t => by rw [eatL, if_neg (by decide)]
      have e3 : ∀ t, eatL 44 (44 :: t) = some t := fun t => by rw [eatL, if_pos rfl]
      rw [e2, e3]
      simp only
      rw [items_T d (a :: u) (i + 1) f _ (fun x hx => hs x (List.mem_cons_of_mem _ hx)) (by simp) (by rw [List.length_cons] at hf; omega)]
      rw [List.append_assoc, List.map_cons, List.map_cons, List.length_cons, List.length_cons, List.length_cons, show i + 1 + (u.length + 1) = i + (u.length + 1 + 1) by omega]
      rfl
theorem value_T (ks : List Int) (hs : Small ks) : valueG numC 24 (123 :: rT 0 ks) = .ok (listJ true (keysB ks.length) (ks.map numJ), []) := by
  rw [valueG_eq]
  unfold valueH
  rw [skip_not (by decide)]
  simp only
  rw [if_neg (by decide), if_neg (by decide), if_neg (by decide), if_neg (by decide), if_neg (by decide), if_pos trivial]
  show listG (valueG numC 23) true (rT 0 ks) = _
  unfold listG
  cases ks with
  | nil => rw [rT_nil]; rfl
  | cons k r =>
    have hl : ∀ (u : List Int) (i : Nat), u.length < (rT i u).length := by
      intro u
      induction u with
      | nil => intro i; rw [rT_nil]; decide
      | cons a u ih => intro i; rw [rT_cons]; have := ih (i + 1); simp only [List.length_append, List.length_cons]; omega
    have e0 : rT 0 (k :: r) = 34 :: (keyT 0 ++ 34 :: 32 :: 58 :: 32 :: (numT k ++ rT 1 r)) := by rw [rT_cons]; rfl
    have e1 : skipL (rT 0 (k :: r)) = rT 0 (k :: r) ∧ eatL (endO true) (rT 0 (k :: r)) = none := by
      rw [e0, skip_not (by decide), eatL]
      exact ⟨rfl, if_neg (by decide)⟩
    rw [e1.1, e1.2]
    simp only
    have := items_T 23 (k :: r) 0 ((rT 0 (k :: r)).length + 1) [] hs (by simp) (by have := hl (k :: r) 0; omega)
    rw [if_pos rfl, List.drop_zero, List.nil_append, Nat.zero_add] at this
    exact this
theorem parse_A (ks : List Int) (hs : Small ks) (hl : (91 :: rA true ks).length ≤ 65536) : parseG numC (91 :: rA true ks) = .ok (listJ false [] (ks.map numJ)) := by
  unfold parseG
  rw [if_neg (by omega), value_A ks hs]
  rfl
theorem parse_T (ks : List Int) (hs : Small ks) (hl : (123 :: rT 0 ks).length ≤ 65536) : parseG numC (123 :: rT 0 ks) = .ok (listJ true (keysB ks.length) (ks.map numJ)) := by
  unfold parseG
  rw [if_neg (by omega), value_T ks hs]
  rfl
end Go.Proofs.Ytpnffmimpkimeaa.J7
