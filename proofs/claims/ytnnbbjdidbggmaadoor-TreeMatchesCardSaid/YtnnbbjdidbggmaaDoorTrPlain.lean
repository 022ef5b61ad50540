/-
  Plain facts on patterns: `*` stands for any bytes, `%` for any but `/`; and on the way that tells it by the last `*` and the last `%`. No program in this text. Conditions: none.
-/
import Derived.WalkKit
namespace Go.Proofs.YtnnbbjdidbggmaaDoor.Tr

def anyTail (ok : UInt8 → Bool) (f : List UInt8 → Bool) : List UInt8 → Bool
  | [] => f []
  | c :: s => f (c :: s) || (ok c && anyTail ok f s)
/-- Does the pattern stand for all of the text? -/
def mat : List UInt8 → List UInt8 → Bool
  | [], s => s.isEmpty
  | a :: p, s => if a = 42 then anyTail (fun _ => true) (mat p) s else if a = 37 then anyTail (fun c => c != 47) (mat p) s else match s with
    | [] => false
    | c :: r => a == c && mat p r
theorem mat_cons (a : UInt8) (p s : List UInt8) : mat (a :: p) s = if a = 42 then anyTail (fun _ => true) (mat p) s else if a = 37 then anyTail (fun c => c != 47) (mat p) s else match s with
    | [] => false
    | c :: r => a == c && mat p r := by rw [mat.eq_def]
def lit (c : UInt8) : Prop := c ≠ 42 ∧ c ≠ 37
instance (c : UInt8) : Decidable (lit c) := by unfold lit; exact inferInstance
theorem anyTail_iff (ok : UInt8 → Bool) (f : List UInt8 → Bool) : ∀ s : List UInt8, anyTail ok f s = true ↔ ∃ u v, s = u ++ v ∧ (∀ c ∈ u, ok c = true) ∧ f v = true
  | [] => by
    rw [anyTail]
    constructor
    · intro h
      exact ⟨[], [], rfl, (fun c hc => by cases hc), h⟩
    · rintro ⟨u, v, h, -, hf⟩
      obtain ⟨rfl, rfl⟩ := List.append_eq_nil_iff.1 h.symm
      exact hf
  | c :: s => by
    rw [anyTail, Bool.or_eq_true, Bool.and_eq_true, anyTail_iff ok f s]
    constructor
    · rintro (h | ⟨hc, u, v, rfl, hu, hf⟩)
      · exact ⟨[], c :: s, rfl, (fun c hc => by cases hc), h⟩
      · refine ⟨c :: u, v, rfl, fun x hx => ?_, hf⟩
        rcases List.mem_cons.1 hx with rfl | hx
        · exact hc
        · exact hu x hx
    · rintro ⟨u, v, h, hu, hf⟩
      cases u with
      | nil => left; rw [List.nil_append] at h; rw [h]; exact hf
      | cons b u =>
        obtain ⟨rfl, rfl⟩ := List.cons.inj h
        exact Or.inr ⟨hu _ (by simp), u, v, rfl, fun x hx => hu x (by simp [hx]), hf⟩
theorem mat_nil (s : List UInt8) : mat [] s = true ↔ s = [] := by rw [mat, List.isEmpty_iff]
theorem mat_star (p s : List UInt8) : mat (42 :: p) s = true ↔ ∃ u v, s = u ++ v ∧ mat p v = true := by
  rw [mat_cons, if_pos rfl, anyTail_iff]
  constructor
  · rintro ⟨u, v, h, -, hf⟩; exact ⟨u, v, h, hf⟩
  · rintro ⟨u, v, h, hf⟩; exact ⟨u, v, h, fun _ _ => rfl, hf⟩
theorem mat_pct (p s : List UInt8) : mat (37 :: p) s = true ↔ ∃ u v, s = u ++ v ∧ (∀ c ∈ u, c ≠ 47) ∧ mat p v = true := by
  rw [mat_cons, if_neg (by decide), if_pos rfl, anyTail_iff]
  constructor
  · rintro ⟨u, v, h, hu, hf⟩; exact ⟨u, v, h, fun c hc => by simpa using hu c hc, hf⟩
  · rintro ⟨u, v, h, hu, hf⟩; exact ⟨u, v, h, fun c hc => by simpa using hu c hc, hf⟩
theorem mat_lit {a : UInt8} (ha : lit a) (p s : List UInt8) : mat (a :: p) s = true ↔ ∃ v, s = a :: v ∧ mat p v = true := by
  rw [mat_cons, if_neg ha.1, if_neg ha.2]
  cases s with
  | nil => simp
  | cons c r =>
    simp only [Bool.and_eq_true, beq_iff_eq, List.cons.injEq]
    constructor
    · rintro ⟨rfl, h⟩; exact ⟨r, ⟨rfl, rfl⟩, h⟩
    · rintro ⟨v, ⟨rfl, rfl⟩, h⟩; exact ⟨rfl, h⟩
theorem byte_cases (a : UInt8) : a = 42 ∨ a = 37 ∨ lit a := by
  by_cases h : a = 42
  · exact Or.inl h
  · by_cases h' : a = 37
    · exact Or.inr (Or.inl h')
    · exact Or.inr (Or.inr ⟨h, h'⟩)
/-- Two patterns, one behind the other. -/
theorem mat_append : ∀ (p q s : List UInt8), mat (p ++ q) s = true ↔ ∃ u v, s = u ++ v ∧ mat p u = true ∧ mat q v = true
  | [], q, s => by
    rw [List.nil_append]
    constructor
    · intro h; exact ⟨[], s, rfl, rfl, h⟩
    · rintro ⟨u, v, rfl, hu, hv⟩
      rw [mat_nil] at hu
      subst hu
      exact hv
  | a :: p, q, s => by
    rw [List.cons_append]
    rcases byte_cases a with rfl | rfl | ha
    · rw [mat_star]
      constructor
      · rintro ⟨u, v, rfl, h⟩
        obtain ⟨x, y, rfl, hx, hy⟩ := (mat_append p q v).1 h
        exact ⟨u ++ x, y, by simp, (mat_star _ _).2 ⟨u, x, rfl, hx⟩, hy⟩
      · rintro ⟨u, v, rfl, hu, hv⟩
        obtain ⟨x, y, rfl, hy⟩ := (mat_star _ _).1 hu
        exact ⟨x, y ++ v, by simp, (mat_append p q _).2 ⟨y, v, rfl, hy, hv⟩⟩
    · rw [mat_pct]
      constructor
      · rintro ⟨u, v, rfl, hs, h⟩
        obtain ⟨x, y, rfl, hx, hy⟩ := (mat_append p q v).1 h
        exact ⟨u ++ x, y, by simp, (mat_pct _ _).2 ⟨u, x, rfl, hs, hx⟩, hy⟩
      · rintro ⟨u, v, rfl, hu, hv⟩
        obtain ⟨x, y, rfl, hs, hy⟩ := (mat_pct _ _).1 hu
        exact ⟨x, y ++ v, by simp, hs, (mat_append p q _).2 ⟨y, v, rfl, hy, hv⟩⟩
    · rw [mat_lit ha]
      constructor
      · rintro ⟨v, rfl, h⟩
        obtain ⟨x, y, rfl, hx, hy⟩ := (mat_append p q v).1 h
        exact ⟨a :: x, y, rfl, (mat_lit ha _ _).2 ⟨x, rfl, hx⟩, hy⟩
      · rintro ⟨u, v, rfl, hu, hv⟩
        obtain ⟨y, rfl, hy⟩ := (mat_lit ha _ _).1 hu
        exact ⟨y ++ v, rfl, (mat_append p q _).2 ⟨y, v, rfl, hy, hv⟩⟩
/-- A text without signs stands for itself. -/
theorem mat_text : ∀ (A : List UInt8) (_ : ∀ c ∈ A, lit c) (q s : List UInt8), mat (A ++ q) s = true ↔ ∃ v, s = A ++ v ∧ mat q v = true
  | [], _, q, s => by simp
  | a :: A, h, q, s => by
    rw [List.cons_append, mat_lit (h a (by simp))]
    constructor
    · rintro ⟨v, rfl, hv⟩
      obtain ⟨x, rfl, hx⟩ := (mat_text A (fun c hc => h c (by simp [hc])) q v).1 hv
      exact ⟨x, rfl, hx⟩
    · rintro ⟨v, rfl, hv⟩
      exact ⟨A ++ v, rfl, (mat_text A (fun c hc => h c (by simp [hc])) q _).2 ⟨v, rfl, hv⟩⟩
theorem mat_self (A : List UInt8) (h : ∀ c ∈ A, lit c) (s : List UInt8) : mat A s = true ↔ s = A := by
  have h1 := mat_text A h [] s
  rw [List.append_nil] at h1
  rw [h1]
  constructor
  · rintro ⟨v, rfl, hv⟩
    rw [(mat_nil v).1 hv, List.append_nil]
  · rintro rfl
    exact ⟨[], by simp, rfl⟩
theorem star_more {p x s : List UInt8} (h : mat (42 :: p) s = true) : mat (42 :: p) (x ++ s) = true := by
  obtain ⟨u, v, rfl, hv⟩ := (mat_star _ _).1 h
  exact (mat_star _ _).2 ⟨x ++ u, v, by simp, hv⟩
theorem pct_more {p x s : List UInt8} (hx : ∀ c ∈ x, c ≠ 47) (h : mat (37 :: p) s = true) : mat (37 :: p) (x ++ s) = true := by
  obtain ⟨u, v, rfl, hu, hv⟩ := (mat_pct _ _).1 h
  refine (mat_pct _ _).2 ⟨x ++ u, v, by simp, fun c hc => ?_, hv⟩
  rcases List.mem_append.1 hc with h | h
  · exact hx c h
  · exact hu c h
theorem pct_none {p s : List UInt8} (h : mat p s = true) : mat (37 :: p) s = true := (mat_pct _ _).2 ⟨[], s, rfl, (fun c hc => by cases hc), h⟩
theorem pct_cons (p s : List UInt8) (c : UInt8) : mat (37 :: p) (c :: s) = true ↔ mat p (c :: s) = true ∨ (c ≠ 47 ∧ mat (37 :: p) s = true) := by
  rw [mat_pct]
  constructor
  · rintro ⟨u, v, h, hu, hv⟩
    cases u with
    | nil => left; rw [List.nil_append] at h; rw [h]; exact hv
    | cons b u =>
      obtain ⟨rfl, rfl⟩ := List.cons.inj h
      exact Or.inr ⟨hu _ (by simp), (mat_pct _ _).2 ⟨u, v, rfl, fun x hx => hu x (by simp [hx]), hv⟩⟩
  · rintro (h | ⟨hc, h⟩)
    · exact ⟨[], c :: s, rfl, (fun c hc => by cases hc), h⟩
    · obtain ⟨u, v, rfl, hu, hv⟩ := (mat_pct _ _).1 h
      refine ⟨c :: u, v, rfl, fun x hx => ?_, hv⟩
      rcases List.mem_cons.1 hx with rfl | hx
      · exact hc
      · exact hu x hx
/-- What stands behind a text and a `%` at a later place, no `/` between, does so at the earlier place too. -/
theorem exchange : ∀ (A : List UInt8) (_ : ∀ c ∈ A, lit c) (R u T' V : List UInt8) (_ : ∀ c ∈ u, c ≠ 47) (_ : u ++ T' = A ++ V) (_ : mat (A ++ 37 :: R) T' = true), mat (37 :: R) V = true
  | [], _, R, u, T', V, hu, hT, h => by
    rw [List.nil_append] at hT h
    rw [← hT]
    exact pct_more hu h
  | a :: A, hA, R, [], T', V, hu, hT, h => by
    rw [List.nil_append] at hT
    obtain ⟨x, hx, hm⟩ := (mat_text (a :: A) hA _ _).1 h
    rw [hT] at hx
    rw [List.append_cancel_left hx]
    exact hm
  | a :: A, hA, R, b :: u, T', V, hu, hT, h => by
    rw [List.cons_append, List.cons_append] at hT
    obtain ⟨rfl, hT2⟩ := List.cons.inj hT
    rw [List.cons_append] at h
    obtain ⟨x, rfl, hm⟩ := (mat_lit (hA b (by simp)) _ _).1 h
    refine exchange A (fun c hc => hA c (by simp [hc])) R (u ++ [b]) x V (fun c hc => ?_) (by rw [List.append_assoc]; exact hT2) hm
    rcases List.mem_append.1 hc with hc | hc
    · exact hu c (by simp [hc])
    · rw [List.mem_singleton] at hc
      subst hc
      exact hu _ (by simp)
/-- The pattern to its first `*`. -/
def trunc : List UInt8 → List UInt8
  | [] => []
  | c :: p => if c = 42 then [42] else c :: trunc p
theorem trunc_lit {a : UInt8} (ha : a ≠ 42) (p : List UInt8) : trunc (a :: p) = a :: trunc p := by rw [trunc, if_neg ha]
theorem trunc_text : ∀ (A : List UInt8) (_ : ∀ c ∈ A, lit c) (q : List UInt8), trunc (A ++ q) = A ++ trunc q
  | [], _, q => rfl
  | a :: A, h, q => by rw [List.cons_append, trunc_lit (h a (by simp)).1, trunc_text A (fun c hc => h c (by simp [hc])) q]; rfl
theorem mat_trunc : ∀ (p s : List UInt8) (_ : mat p s = true), mat (trunc p) s = true
  | [], _, h => h
  | a :: p, s, h => by
    rcases byte_cases a with rfl | rfl | ha
    · exact (mat_star _ _).2 ⟨s, [], by simp, rfl⟩
    · rw [trunc_lit (by decide)]
      obtain ⟨u, v, rfl, hu, hv⟩ := (mat_pct _ _).1 h
      exact (mat_pct _ _).2 ⟨u, v, rfl, hu, mat_trunc p v hv⟩
    · rw [trunc_lit ha.1]
      obtain ⟨v, rfl, hv⟩ := (mat_lit ha _ _).1 h
      exact (mat_lit ha _ _).2 ⟨v, rfl, mat_trunc p v hv⟩
/-- May the text stand here, as far as the pattern's next sign? -/
def ahead : List UInt8 → List UInt8 → Bool
  | [], s => s.isEmpty
  | a :: p, s => if a = 42 ∨ a = 37 then true else match s with
    | [] => false
    | c :: r => a == c && ahead p r
theorem ahead_cons (a : UInt8) (p s : List UInt8) : ahead (a :: p) s = if a = 42 ∨ a = 37 then true else match s with
    | [] => false
    | c :: r => a == c && ahead p r := by rw [ahead.eq_def]
theorem ahead_lit {a : UInt8} (ha : lit a) (p s : List UInt8) : ahead (a :: p) s = true ↔ ∃ v, s = a :: v ∧ ahead p v = true := by
  rw [ahead_cons, if_neg (fun h => h.elim ha.1 ha.2)]
  cases s with
  | nil => simp
  | cons c r =>
    simp only [Bool.and_eq_true, beq_iff_eq, List.cons.injEq]
    constructor
    · rintro ⟨rfl, h⟩; exact ⟨r, ⟨rfl, rfl⟩, h⟩
    · rintro ⟨v, ⟨rfl, rfl⟩, h⟩; exact ⟨rfl, h⟩
theorem ahead_text : ∀ (A : List UInt8) (_ : ∀ c ∈ A, lit c) (q s : List UInt8), ahead (A ++ q) (A ++ s) = ahead q s
  | [], _, q, s => rfl
  | a :: A, h, q, s => by
    have ha := h a (by simp)
    rw [List.cons_append, List.cons_append, ahead_cons, if_neg (fun h => h.elim ha.1 ha.2)]
    show (a == a && ahead (A ++ q) (A ++ s)) = ahead q s
    rw [beq_self_eq_true, Bool.true_and]
    exact ahead_text A (fun c hc => h c (by simp [hc])) q s
theorem mat_ahead : ∀ (p s : List UInt8) (_ : mat p s = true), ahead p s = true
  | [], _, h => h
  | a :: p, s, h => by
    rcases byte_cases a with rfl | rfl | ha
    · rw [ahead_cons, if_pos (Or.inl rfl)]
    · rw [ahead_cons, if_pos (Or.inr rfl)]
    · obtain ⟨v, rfl, hv⟩ := (mat_lit ha _ _).1 h
      exact (ahead_lit ha _ _).2 ⟨v, rfl, mat_ahead p v hv⟩
theorem trunc_ahead : ∀ (p s : List UInt8), ahead (trunc p) s = ahead p s
  | [], s => rfl
  | a :: p, s => by
    rcases byte_cases a with rfl | rfl | ha
    · rfl
    · rw [trunc_lit (by decide), ahead_cons, ahead_cons, if_pos (Or.inr rfl), if_pos (Or.inr rfl)]
    · rw [trunc_lit ha.1, ahead_cons, ahead_cons]
      split
      · rfl
      · cases s with
        | nil => rfl
        | cons c r => show (a == c && ahead (trunc p) r) = (a == c && ahead p r); rw [trunc_ahead p r]
theorem all_signs : ∀ p : List UInt8, mat p [] = true ↔ ∀ c ∈ p, c = 42 ∨ c = 37
  | [] => by simp [mat]
  | a :: p => by
    rcases byte_cases a with rfl | rfl | ha
    · rw [mat_cons, if_pos rfl, anyTail, all_signs p]; simp
    · rw [mat_cons, if_neg (by decide), if_pos rfl, anyTail, all_signs p]; simp
    · rw [mat_cons, if_neg ha.1, if_neg ha.2]
      simp only [List.mem_cons, forall_eq_or_imp]
      constructor
      · intro h; cases h
      · rintro ⟨h | h, -⟩
        · exact absurd h ha.1
        · exact absurd h ha.2
/-! From the end: as the document's answer goes. -/
theorem snoc_eq {x y s : List UInt8} {c : UInt8} (h : s ++ [c] = x ++ y) : (y = [] ∧ x = s ++ [c]) ∨ ∃ z, y = z ++ [c] ∧ s = x ++ z := by
  rcases List.eq_nil_or_concat y with rfl | ⟨z, d, hz⟩
  · exact Or.inl ⟨rfl, by rw [h, List.append_nil]⟩
  · have hz : y = z ++ [d] := by simpa using hz
    subst hz
    rw [← List.append_assoc] at h
    obtain ⟨h1, h2⟩ := List.append_inj' h rfl
    obtain ⟨rfl, -⟩ := List.cons.inj h2
    exact Or.inr ⟨z, rfl, h1⟩
theorem end_star (q s : List UInt8) : mat (q ++ [42]) s = true ↔ ∃ u v, s = u ++ v ∧ mat q u = true := by
  rw [mat_append]
  constructor
  · rintro ⟨u, v, h, hu, -⟩; exact ⟨u, v, h, hu⟩
  · rintro ⟨u, v, h, hu⟩; exact ⟨u, v, h, hu, (mat_star _ _).2 ⟨v, [], by simp, rfl⟩⟩
theorem end_pct (q s : List UInt8) : mat (q ++ [37]) s = true ↔ ∃ u v, s = u ++ v ∧ mat q u = true ∧ ∀ c ∈ v, c ≠ 47 := by
  rw [mat_append]
  constructor
  · rintro ⟨u, v, rfl, hu, hv⟩
    obtain ⟨x, y, rfl, hx, hy⟩ := (mat_pct _ _).1 hv
    rw [mat_nil] at hy
    subst hy
    exact ⟨u, x ++ [], rfl, hu, by simpa using hx⟩
  · rintro ⟨u, v, h, hu, hv⟩; exact ⟨u, v, h, hu, (mat_pct _ _).2 ⟨v, [], by simp, hv, rfl⟩⟩
theorem bool_iff {a b : Bool} (h : a = true ↔ b = true) : a = b := by
  cases a <;> cases b <;> simp_all
theorem end_star_nil (q : List UInt8) : mat (q ++ [42]) [] = mat q [] := bool_iff (by
  rw [end_star]
  constructor
  · rintro ⟨u, v, h, hu⟩
    obtain ⟨rfl, rfl⟩ := List.append_eq_nil_iff.1 h.symm
    exact hu
  · intro h; exact ⟨[], [], rfl, h⟩)
theorem end_pct_nil (q : List UInt8) : mat (q ++ [37]) [] = mat q [] := bool_iff (by
  rw [end_pct]
  constructor
  · rintro ⟨u, v, h, hu, -⟩
    obtain ⟨rfl, rfl⟩ := List.append_eq_nil_iff.1 h.symm
    exact hu
  · intro h; exact ⟨[], [], rfl, h, fun c hc => by cases hc⟩)
theorem end_lit_nil {a : UInt8} (ha : lit a) (q : List UInt8) : mat (q ++ [a]) [] = false := by
  rw [← Bool.not_eq_true]
  intro h
  obtain ⟨u, v, h, -, hv⟩ := (mat_append _ _ _).1 h
  obtain ⟨rfl, rfl⟩ := List.append_eq_nil_iff.1 h.symm
  obtain ⟨v, h, -⟩ := (mat_lit ha _ _).1 hv
  cases h
theorem end_star_cons (q s : List UInt8) (c : UInt8) : mat (q ++ [42]) (s ++ [c]) = (mat q s || mat (q ++ [42]) s || mat q (s ++ [c])) := bool_iff (by
  rw [Bool.or_eq_true, Bool.or_eq_true, end_star, end_star]
  constructor
  · rintro ⟨u, v, h, hu⟩
    rcases snoc_eq h with ⟨rfl, rfl⟩ | ⟨z, rfl, rfl⟩
    · exact Or.inr hu
    · exact Or.inl (Or.inr ⟨u, z, rfl, hu⟩)
  · rintro ((h | ⟨u, v, rfl, hu⟩) | h)
    · exact ⟨s, [c], rfl, h⟩
    · exact ⟨u, v ++ [c], by simp, hu⟩
    · exact ⟨s ++ [c], [], by simp, h⟩)
theorem end_pct_cons (q s : List UInt8) (c : UInt8) : mat (q ++ [37]) (s ++ [c]) = ((mat q s || mat (q ++ [37]) s) && c != 47 || mat q (s ++ [c])) := bool_iff (by
  rw [Bool.or_eq_true, Bool.and_eq_true, Bool.or_eq_true, end_pct, end_pct, bne_iff_ne]
  constructor
  · rintro ⟨u, v, h, hu, hv⟩
    rcases snoc_eq h with ⟨rfl, rfl⟩ | ⟨z, rfl, rfl⟩
    · exact Or.inr hu
    · exact Or.inl ⟨Or.inr ⟨u, z, rfl, hu, fun x hx => hv x (by simp [hx])⟩, hv c (by simp)⟩
  · rintro (⟨h | ⟨u, v, rfl, hu, hv⟩, hc⟩ | h)
    · exact ⟨s, [c], rfl, h, fun x hx => by rw [List.mem_singleton] at hx; rw [hx]; exact hc⟩
    · refine ⟨u, v ++ [c], by simp, hu, fun x hx => ?_⟩
      rcases List.mem_append.1 hx with hx | hx
      · exact hv x hx
      · rw [List.mem_singleton] at hx; rw [hx]; exact hc
    · exact ⟨s ++ [c], [], by simp, h, fun x hx => by cases hx⟩)
theorem end_lit_cons {a : UInt8} (ha : lit a) (q s : List UInt8) (c : UInt8) : mat (q ++ [a]) (s ++ [c]) = (mat q s && a == c) := bool_iff (by
  rw [Bool.and_eq_true, beq_iff_eq, mat_append]
  constructor
  · rintro ⟨u, v, h, hu, hv⟩
    obtain ⟨w, rfl, hw⟩ := (mat_lit ha _ _).1 hv
    rw [mat_nil] at hw
    subst hw
    obtain ⟨h1, h2⟩ := List.append_inj' h rfl
    subst h1
    exact ⟨hu, (List.cons.inj h2).1.symm⟩
  · rintro ⟨h, rfl⟩
    exact ⟨s, [a], rfl, h, (mat_lit ha _ _).2 ⟨[], rfl, rfl⟩⟩)
theorem nil_cons (s : List UInt8) (c : UInt8) : mat [] (s ++ [c]) = false := by
  rw [mat.eq_def]
  simp
end Go.Proofs.YtnnbbjdidbggmaaDoor.Tr
