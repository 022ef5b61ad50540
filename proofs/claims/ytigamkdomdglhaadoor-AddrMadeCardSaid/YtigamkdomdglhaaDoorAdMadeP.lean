/-
  Addresses put together, plainly: what a word, a text in quotes, a remark, an angle makes of what is gathered; several of them, a comma between. No program in this text. Conditions: none.
-/
import Derived.Test.YtigamkdomdglhaaDoorAdTell
import Derived.Test.YtigamkdomdglhaaDoorWdPlain
namespace Go.Proofs.YtigamkdomdglhaaDoor.Ad
open Go

theorem beg_word (s : St) {c : UInt8} (h : endsB c = false) : beginS s c = { s with txt := s.txt ++ [c], st := 1 } := by
  unfold endsB at h
  simp only [Bool.or_eq_false_iff, beq_eq_false_iff_ne] at h
  obtain ⟨⟨⟨⟨⟨⟨⟨⟨⟨h34, h40⟩, h60⟩, h58⟩, h44⟩, h59⟩, h32⟩, h9⟩, h13⟩, h10⟩ := h
  unfold beginS
  rw [if_neg h34, if_neg h60, if_neg h40, if_neg (by simp [h44, h59]), if_neg h58, if_neg (by simp [h32, h9, h13, h10])]
theorem step_one {s : St} (h1 : s.st = 1) {c : UInt8} (h : endsB c = false) : stepS s c = { s with txt := s.txt ++ [c] } := by
  unfold stepS
  rw [if_pos h1, if_neg (by rw [h]; decide)]
theorem run_one (ws : List (List UInt8)) (an : List UInt8) (ad : Bool) (T : List Ad3) : ∀ (l t : List UInt8) (_ : ∀ c ∈ l, endsB c = false), run ⟨1, 0, t, ws, an, ad, T⟩ l = ⟨1, 0, t ++ l, ws, an, ad, T⟩
  | [], t, _ => by rw [run_nil, List.append_nil]
  | c :: r, t, h => by
    rw [run_cons, step_one rfl (h c (by simp))]
    rw [show (({ (⟨1, 0, t, ws, an, ad, T⟩ : St) with txt := t ++ [c] }) : St) = ⟨1, 0, t ++ [c], ws, an, ad, T⟩ from rfl, run_one ws an ad T r (t ++ [c]) (fun x hx => h x (by simp [hx]))]
    simp
/-- A word. -/
theorem run_word (ws : List (List UInt8)) (an : List UInt8) (ad : Bool) (T : List Ad3) {l : List UInt8} (h0 : l ≠ []) (h : ∀ c ∈ l, endsB c = false) : run ⟨0, 0, [], ws, an, ad, T⟩ l = ⟨1, 0, l, ws, an, ad, T⟩ := by
  cases l with
  | nil => exact absurd rfl h0
  | cons c r =>
    have hs : stepS ⟨0, 0, [], ws, an, ad, T⟩ c = ⟨1, 0, [c], ws, an, ad, T⟩ := by
      unfold stepS
      rw [if_neg (show ¬ (0 : Nat) = 1 by decide), if_pos rfl, beg_word _ (h c (by simp))]
      rfl
    rw [run_cons, hs, run_one ws an ad T r [c] (fun x hx => h x (by simp [hx]))]
    rfl
theorem run_angle (ws : List (List UInt8)) (an : List UInt8) (ad : Bool) (T : List Ad3) : ∀ (l t : List UInt8) (_ : ∀ c ∈ l, c ≠ 62 ∧ c ≠ 32 ∧ c ≠ 9), run ⟨4, 0, t, ws, an, ad, T⟩ l = ⟨4, 0, t ++ l, ws, an, ad, T⟩
  | [], t, _ => by rw [run_nil, List.append_nil]
  | c :: r, t, h => by
    obtain ⟨h1, h2, h3⟩ := h c (by simp)
    have hs : stepS ⟨4, 0, t, ws, an, ad, T⟩ c = ⟨4, 0, t ++ [c], ws, an, ad, T⟩ := by
      show angleS _ c = _
      unfold angleS
      rw [if_neg h1, if_neg (by simp [h2, h3])]
    rw [run_cons, hs, run_angle ws an ad T r (t ++ [c]) (fun x hx => h x (by simp [hx]))]
    simp
theorem run_quote (ws : List (List UInt8)) (an : List UInt8) (ad : Bool) (T : List Ad3) : ∀ (l t : List UInt8) (_ : ∀ c ∈ l, c ≠ 34 ∧ c ≠ 92), run ⟨2, 0, t, ws, an, ad, T⟩ l = ⟨2, 0, t ++ l, ws, an, ad, T⟩
  | [], t, _ => by rw [run_nil, List.append_nil]
  | c :: r, t, h => by
    obtain ⟨h1, h2⟩ := h c (by simp)
    have hs : stepS ⟨2, 0, t, ws, an, ad, T⟩ c = ⟨2, 0, t ++ [c], ws, an, ad, T⟩ := by
      show (if c = 34 then _ else if c = 92 then _ else _) = _
      rw [if_neg h1, if_neg h2]
    rw [run_cons, hs, run_quote ws an ad T r (t ++ [c]) (fun x hx => h x (by simp [hx]))]
    simp
theorem step_blank (t : List UInt8) (ws : List (List UInt8)) (an : List UInt8) (ad : Bool) (T : List Ad3) : stepS ⟨1, 0, t, ws, an, ad, T⟩ 32 = ⟨0, 0, [], ws ++ [t], an, ad, T⟩ := rfl
theorem step_skip (ws : List (List UInt8)) (an : List UInt8) (ad : Bool) (T : List Ad3) : stepS ⟨0, 0, [], ws, an, ad, T⟩ 32 = ⟨0, 0, [], ws, an, ad, T⟩ := rfl
theorem step_open (ws : List (List UInt8)) (an : List UInt8) (ad : Bool) (T : List Ad3) : stepS ⟨0, 0, [], ws, an, ad, T⟩ 60 = ⟨4, 0, [], ws, an, ad, T⟩ := rfl
theorem step_shut (t : List UInt8) (ws : List (List UInt8)) (an : List UInt8) (ad : Bool) (T : List Ad3) : stepS ⟨4, 0, t, ws, an, ad, T⟩ 62 = ⟨0, 0, [], ws, t, true, T⟩ := rfl
theorem step_quote (ws : List (List UInt8)) (an : List UInt8) (ad : Bool) (T : List Ad3) : stepS ⟨0, 0, [], ws, an, ad, T⟩ 34 = ⟨2, 0, [], ws, an, ad, T⟩ := rfl
theorem step_unquote (t : List UInt8) (ws : List (List UInt8)) (an : List UInt8) (ad : Bool) (T : List Ad3) : stepS ⟨2, 0, t, ws, an, ad, T⟩ 34 = ⟨0, 0, [], ws ++ [t], an, ad, T⟩ := rfl
theorem run_remark (ws : List (List UInt8)) (an : List UInt8) (ad : Bool) (T : List Ad3) : run ⟨0, 0, [], ws, an, ad, T⟩ [40, 114, 101, 44, 32, 40, 109, 97, 41, 32, 114, 107, 41, 32] = ⟨0, 0, [], ws, an, ad, T⟩ := by
  simp [run_cons, run_nil, stepS, beginS, remarkS]
theorem run_group : run (fresh []) [103, 114, 111, 117, 112, 58, 32] = fresh [] := rfl

/-! ### Atoms -/
structure Atm (l : List UInt8) : Prop where
  ne : l ≠ []
  in_ : ∀ c ∈ l, 97 ≤ c.toNat ∧ c.toNat ≤ 122
def letB (c : UInt8) : Bool := !endsB c && c != 62 && c != 92 && c != 61 && c != 64 && c != 34 && c != 32 && c != 9
theorem let_all : ∀ n, n < 256 → (97 ≤ n ∧ n ≤ 122) → letB (UInt8.ofNat n) = true := by decide +kernel
theorem let_one {c : UInt8} (h : 97 ≤ c.toNat ∧ c.toNat ≤ 122) : endsB c = false ∧ c ≠ 62 ∧ c ≠ 92 ∧ c ≠ 61 ∧ c ≠ 64 ∧ c ≠ 34 ∧ c ≠ 32 ∧ c ≠ 9 := by
  have := let_all c.toNat c.toNat_lt h
  simpa [letB, and_assoc] using this
namespace Atm
variable {l : List UInt8}
theorem ends (h : Atm l) : ∀ c ∈ l, endsB c = false := fun c hc => (let_one (h.in_ c hc)).1
theorem no61 (h : Atm l) : ∀ c ∈ l, c ≠ 61 := fun c hc => (let_one (h.in_ c hc)).2.2.2.1
theorem quo (h : Atm l) : ∀ c ∈ l, c ≠ 34 ∧ c ≠ 92 := fun c hc => ⟨(let_one (h.in_ c hc)).2.2.2.2.2.1, (let_one (h.in_ c hc)).2.2.1⟩
theorem ang (h : Atm l) : ∀ c ∈ l, c ≠ 62 ∧ c ≠ 32 ∧ c ≠ 9 := fun c hc => ⟨(let_one (h.in_ c hc)).2.1, (let_one (h.in_ c hc)).2.2.2.2.2.2.1, (let_one (h.in_ c hc)).2.2.2.2.2.2.2⟩
end Atm
theorem dec_self (b : Bool) {l : List UInt8} (h : ∀ c ∈ l, c ≠ 61) : Wd.decW b l = l := Wd.decW_none b (Wd.find_plain l h)
theorem oneA_at (n b : List UInt8) {h : List UInt8} (h0 : h ≠ []) (h1 : ∀ c ∈ h, c ≠ 64) : oneA n (b ++ 64 :: h) = [(n, b, h)] := by
  unfold oneA
  rw [cutA_some b h1]
  rw [if_neg (fun e => h0 e.2)]
/-- An angle at the end, a name ahead. -/
theorem end_angle (ws : List (List UInt8)) {b h : List UInt8} (T : List Ad3) (h0 : h ≠ []) (h1 : ∀ c ∈ h, c ≠ 64) (hn : ∀ c ∈ Lib.join ws [32], c ≠ 61) : (endS ⟨0, 0, [], ws, b ++ 64 :: h, true, T⟩).told = T ++ [(Lib.join ws [32], b, h)] := by
  show T ++ oneA (nameA ⟨0, 0, [], ws, b ++ 64 :: h, true, T⟩) (b ++ 64 :: h) = _
  rw [show nameA ⟨0, 0, [], ws, b ++ 64 :: h, true, T⟩ = Wd.decW true (Lib.join ws [32]) from rfl, dec_self true hn, oneA_at _ _ h0 h1]
/-- A word alone. -/
theorem end_word {b h : List UInt8} (T : List Ad3) (h0 : h ≠ []) (h1 : ∀ c ∈ h, c ≠ 64) : (endS ⟨1, 0, b ++ 64 :: h, [], [], false, T⟩).told = T ++ [([], b, h)] := by
  show T ++ oneA [] (Lib.join ([] ++ [b ++ 64 :: h]) []) = _
  rw [List.nil_append, Lib.join_one, oneA_at _ _ h0 h1]
theorem end_fresh (T : List Ad3) : (endS (fresh T)).told = T := by
  show T ++ oneA [] (Lib.join [] []) = T
  rw [Lib.join_nil]
  exact List.append_nil T

/-! ### Pieces -/
/-- What an angle of an atom makes. -/
theorem run_box (ws : List (List UInt8)) (an : List UInt8) (ad : Bool) (T : List Ad3) {b : List UInt8} (hb : Atm b) : run ⟨0, 0, [], ws, an, ad, T⟩ (60 :: (b ++ [64, 104, 62])) = ⟨0, 0, [], ws, b ++ [64, 104], true, T⟩ := by
  rw [run_cons, step_open, show b ++ ([64, 104, 62] : List UInt8) = (b ++ [64, 104]) ++ [62] by simp, run_app, run_angle ws an ad T _ [] (by
    intro c hc
    rcases List.mem_append.1 hc with h | h
    · exact hb.ang c h
    · simp only [List.mem_cons, List.not_mem_nil, or_false] at h
      rcases h with rfl | rfl <;> decide)]
  rfl
def Does (l : List UInt8) (x : Ad3) : Prop := ∀ T, Calm (run (fresh T) l) ∧ (endS (run (fresh T) l)).told = T ++ [x]
theorem does_0 {b : List UInt8} (hb : Atm b) : Does (b ++ [64, 104, 46, 120]) ([], b, [104, 46, 120]) := fun T => by
  have h : run (fresh T) (b ++ [64, 104, 46, 120]) = ⟨1, 0, b ++ [64, 104, 46, 120], [], [], false, T⟩ := run_word [] [] false T (by simp) (by
    intro c hc
    rcases List.mem_append.1 hc with h | h
    · exact hb.ends c h
    · simp only [List.mem_cons, List.not_mem_nil, or_false] at h
      rcases h with rfl | rfl | rfl | rfl <;> decide)
  rw [h]
  exact ⟨⟨Or.inr rfl, rfl⟩, end_word (b := b) (h := [104, 46, 120]) T (by decide) (by decide)⟩
theorem calm_box (ws : List (List UInt8)) (p : List UInt8) (T : List Ad3) : Calm ⟨0, 0, [], ws, p, true, T⟩ := ⟨Or.inl ⟨rfl, rfl⟩, rfl⟩
theorem does_1 {a b : List UInt8} (ha : Atm a) (hb : Atm b) : Does (a ++ 32 :: 60 :: (b ++ [64, 104, 62])) (a, b, [104]) := fun T => by
  have h : run (fresh T) (a ++ 32 :: 60 :: (b ++ [64, 104, 62])) = ⟨0, 0, [], [a], b ++ [64, 104], true, T⟩ := by
    rw [run_app, show fresh T = ⟨0, 0, [], [], [], false, T⟩ from rfl, run_word [] [] false T ha.ne ha.ends, run_cons, step_blank, run_box _ _ _ _ hb]
    rfl
  rw [h]
  refine ⟨calm_box _ _ _, ?_⟩
  have := end_angle [a] (b := b) (h := [104]) T (by decide) (by decide) (by rw [Lib.join_one]; exact ha.no61)
  rw [Lib.join_one] at this
  exact this
theorem does_2 {a b : List UInt8} (ha : Atm a) (hb : Atm b) : Does (34 :: (a ++ 44 :: 32 :: (b ++ 34 :: 32 :: 60 :: (b ++ [64, 104, 62])))) (a ++ 44 :: 32 :: b, b, [104]) := fun T => by
  have hq : ∀ c ∈ a ++ 44 :: 32 :: b, c ≠ 34 ∧ c ≠ 92 := by
    intro c hc
    rcases List.mem_append.1 hc with h | h
    · exact ha.quo c h
    · simp only [List.mem_cons] at h
      rcases h with rfl | rfl | h
      · decide
      · decide
      · exact hb.quo c h
  have h61 : ∀ c ∈ a ++ 44 :: 32 :: b, c ≠ 61 := by
    intro c hc
    rcases List.mem_append.1 hc with h | h
    · exact ha.no61 c h
    · simp only [List.mem_cons] at h
      rcases h with rfl | rfl | h
      · decide
      · decide
      · exact hb.no61 c h
  have h : run (fresh T) (34 :: (a ++ 44 :: 32 :: (b ++ 34 :: 32 :: 60 :: (b ++ [64, 104, 62])))) = ⟨0, 0, [], [a ++ 44 :: 32 :: b], b ++ [64, 104], true, T⟩ := by
    rw [run_cons, show fresh T = ⟨0, 0, [], [], [], false, T⟩ from rfl, step_quote, show a ++ 44 :: 32 :: (b ++ 34 :: 32 :: 60 :: (b ++ [64, 104, 62])) = (a ++ 44 :: 32 :: b) ++ (34 :: 32 :: 60 :: (b ++ [64, 104, 62])) by simp, run_app, run_quote [] [] false T _ [] hq, run_cons, step_unquote, run_cons, step_skip, run_box _ _ _ _ hb]
    rfl
  rw [h]
  refine ⟨calm_box _ _ _, ?_⟩
  have := end_angle [a ++ 44 :: 32 :: b] (b := b) (h := [104]) T (by decide) (by decide) (by rw [Lib.join_one]; exact h61)
  rw [Lib.join_one] at this
  exact this
theorem does_3 {a b : List UInt8} (ha : Atm a) (hb : Atm b) : Does (a ++ 32 :: ([40, 114, 101, 44, 32, 40, 109, 97, 41, 32, 114, 107, 41, 32] ++ (b ++ 32 :: 60 :: (b ++ [64, 104, 62])))) (a ++ 32 :: b, b, [104]) := fun T => by
  have hj : Lib.join [a, b] [32] = a ++ 32 :: b := by rw [Lib.join_cons]; simp [Lib.joinTail]
  have h61 : ∀ c ∈ a ++ 32 :: b, c ≠ 61 := by
    intro c hc
    rcases List.mem_append.1 hc with h | h
    · exact ha.no61 c h
    · simp only [List.mem_cons] at h
      rcases h with rfl | h
      · decide
      · exact hb.no61 c h
  have h : run (fresh T) (a ++ 32 :: ([40, 114, 101, 44, 32, 40, 109, 97, 41, 32, 114, 107, 41, 32] ++ (b ++ 32 :: 60 :: (b ++ [64, 104, 62])))) = ⟨0, 0, [], [a, b], b ++ [64, 104], true, T⟩ := by
    rw [run_app, show fresh T = ⟨0, 0, [], [], [], false, T⟩ from rfl, run_word [] [] false T ha.ne ha.ends, run_cons, step_blank, run_app, run_remark, run_app, run_word _ [] false T hb.ne hb.ends, run_cons, step_blank, run_box _ _ _ _ hb]
    rfl
  rw [h]
  refine ⟨calm_box _ _ _, ?_⟩
  have := end_angle [a, b] (b := b) (h := [104]) T (by decide) (by decide) (by rw [hj]; exact h61)
  rw [hj] at this
  exact this

/-! ### Several -/
/-- Texts so far: what they tell, if what comes next is a piece. -/
def Goes (s : List UInt8) (T : List Ad3) : Prop := Calm (run (fresh []) s) ∧ (endS (run (fresh []) s)).told = T
theorem goes_nil : Goes [] [] := ⟨fresh_calm [], end_fresh []⟩
/-- The text behind which a piece may stand. -/
def Ready (s : List UInt8) (T : List Ad3) : Prop := run (fresh []) s = fresh T
theorem ready_nil : Ready [] [] := rfl
theorem Goes.ready {s : List UInt8} {T : List Ad3} (h : Goes s T) : Ready (s ++ [44, 32]) T := by
  show run (fresh []) (s ++ [44, 32]) = _
  rw [run_app, run_cons, h.1.tell44 44 (Or.inl rfl), h.2]
  rfl
theorem Ready.goes {s l : List UInt8} {T : List Ad3} {x : Ad3} (h : Ready s T) (hd : Does l x) : Goes (s ++ l) (T ++ [x]) := by
  have hr : run (fresh []) (s ++ l) = run (fresh T) l := by rw [run_app, show run (fresh []) s = fresh T from h]
  unfold Goes
  rw [hr]
  exact hd T
theorem Goes.doc {s : List UInt8} {T : List Ad3} (h : Goes s T) : docA s = T := h.2
theorem Goes.group {s : List UInt8} {T : List Ad3} (h : Goes s T) : docA ([103, 114, 111, 117, 112, 58, 32] ++ s ++ [59]) = T := by
  show (endS (run (fresh []) ([103, 114, 111, 117, 112, 58, 32] ++ s ++ [59]))).told = T
  rw [List.append_assoc, run_app, run_group, run_app, run_cons, h.1.tell44 59 (Or.inr rfl), h.2, run_nil, end_fresh]
/-- The document's example. -/
theorem sample : docA [65, 32, 66, 32, 60, 97, 64, 98, 62, 44, 32, 99, 64, 100] = [([65, 32, 66], [97], [98]), ([], [99], [100])] := by
  have h1 : run (fresh []) [65, 32, 66, 32, 60, 97, 64, 98, 62] = ⟨0, 0, [], [[65], [66]], [97] ++ 64 :: [98], true, []⟩ := rfl
  have e1 : (endS (run (fresh []) [65, 32, 66, 32, 60, 97, 64, 98, 62])).told = [([65, 32, 66], [97], [98])] := by
    rw [h1, end_angle [[65], [66]] (b := [97]) (h := [98]) [] (by decide) (by decide) (by decide)]
    rfl
  have c1 : Calm (run (fresh []) [65, 32, 66, 32, 60, 97, 64, 98, 62]) := by rw [h1]; exact calm_box _ _ _
  have h2 : ∀ T, (endS (run (fresh T) [99, 64, 100])).told = T ++ [([], [99], [100])] := fun T => by
    rw [show run (fresh T) [99, 64, 100] = ⟨1, 0, [99] ++ 64 :: [100], [], [], false, T⟩ from rfl, end_word (b := [99]) (h := [100]) T (by decide) (by decide)]
  show (endS (run (fresh []) ([65, 32, 66, 32, 60, 97, 64, 98, 62] ++ [44, 32] ++ [99, 64, 100]))).told = _
  rw [run_app, show run (fresh []) ([65, 32, 66, 32, 60, 97, 64, 98, 62] ++ [44, 32]) = fresh [([65, 32, 66], [97], [98])] from Goes.ready ⟨c1, e1⟩, h2]
  rfl
end Go.Proofs.YtigamkdomdglhaaDoor.Ad
