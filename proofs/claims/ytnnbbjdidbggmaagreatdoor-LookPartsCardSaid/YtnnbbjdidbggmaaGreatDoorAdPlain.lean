/-
  Addresses, plainly: what each byte makes of what is gathered, what a text tells in the end; a comma behind what is not open. No program in this text. Conditions: none.
-/
import Derived.Test.YtnnbbjdidbggmaaGreatDoorWdPlain
import Derived.Lib.Join
namespace Go.Proofs.YtnnbbjdidbggmaaGreatDoor.Ad
open Go

abbrev Ad3 := List UInt8 × List UInt8 × List UInt8
structure St where
  st : Nat
  rem : Int
  txt : List UInt8
  words : List (List UInt8)
  angle : List UInt8
  angled : Bool
  told : List Ad3
/-- Nothing gathered, these told. -/
def fresh (T : List Ad3) : St := ⟨0, 0, [], [], [], false, T⟩
def endsB (c : UInt8) : Bool := c == 34 || c == 40 || c == 60 || c == 58 || c == 44 || c == 59 || c == 32 || c == 9 || c == 13 || c == 10
def lastAt : List UInt8 → Option Nat
  | [] => none
  | c :: r => (match lastAt r with | some k => some (k + 1) | none => if c = 64 then some 0 else none)
def cutA (p : List UInt8) : List UInt8 × List UInt8 := match lastAt p with | none => (p, []) | some k => (p.take k, p.drop (k + 1))
def nameA (s : St) : List UInt8 := if s.angled = true then Wd.decW true (Lib.join s.words [32]) else []
def placeA (s : St) : List UInt8 := if s.angled = true then s.angle else Lib.join s.words []
/-- The address of a name and a place, if it is one. -/
def oneA (n p : List UInt8) : List Ad3 := if (cutA p).1 = [] ∧ (cutA p).2 = [] then [] else [(n, (cutA p).1, (cutA p).2)]
def tellS (s : St) : St := { s with told := s.told ++ oneA (nameA s) (placeA s) }
def clearS (s : St) : St := { s with words := [], angle := [], angled := false }
def endWordS (s : St) : St := { s with words := s.words ++ [s.txt], txt := [], st := 0 }
def endAngleS (s : St) : St := { s with angle := s.txt, angled := true, txt := [], st := 0 }
def beginS (s : St) (c : UInt8) : St :=
  if c = 34 then { s with st := 2 }
  else if c = 60 then { s with st := 4 }
  else if c = 40 then { s with st := 5, rem := 1 }
  else if c = 44 ∨ c = 59 then clearS (tellS s)
  else if c = 58 then clearS s
  else if c = 32 ∨ c = 9 ∨ c = 13 ∨ c = 10 then s
  else { s with txt := s.txt ++ [c], st := 1 }
def angleS (s : St) (c : UInt8) : St := if c = 62 then endAngleS s else if c = 32 ∨ c = 9 then s else { s with txt := s.txt ++ [c] }
def remarkS (s : St) (c : UInt8) : St :=
  if c = 92 then { s with st := 6 }
  else if c = 40 then { s with rem := s.rem + 1 }
  else if c = 41 then (if s.rem - 1 = 0 then { s with rem := s.rem - 1, st := 0 } else { s with rem := s.rem - 1 })
  else s
def stepS (s : St) (c : UInt8) : St :=
  if s.st = 1 then (if endsB c = true then beginS (endWordS s) c else { s with txt := s.txt ++ [c] })
  else if s.st = 0 then beginS s c
  else if s.st = 2 then (if c = 34 then endWordS s else if c = 92 then { s with st := 3 } else { s with txt := s.txt ++ [c], st := 2 })
  else if s.st = 3 then { s with txt := s.txt ++ [c], st := 2 }
  else if s.st = 4 then angleS s c
  else if s.st = 5 then remarkS s c
  else if s.st = 6 then { s with st := 5 }
  else s
def endS (s : St) : St :=
  tellS (if s.st = 3 then endWordS { s with txt := s.txt ++ [92] } else if s.st = 2 ∨ s.st = 1 then endWordS s else if s.st = 4 then endAngleS s else s)
def run (s : St) (l : List UInt8) : St := l.foldl stepS s
def docA (l : List UInt8) : List Ad3 := (endS (run (fresh []) l)).told
theorem run_nil (s : St) : run s [] = s := rfl
theorem run_cons (s : St) (c : UInt8) (l : List UInt8) : run s (c :: l) = run (stepS s c) l := rfl
theorem run_app (s : St) (a b : List UInt8) : run s (a ++ b) = run (run s a) b := List.foldl_append
theorem run_take (s : St) (t : ByteArray) (k : Nat) (h : k < t.data.toList.length) : run s (t.data.toList.take (k + 1)) = stepS (run s (t.data.toList.take k)) (t.data.toList[k]) := by
  rw [List.take_succ_eq_append_getElem h, run_app]
  rfl

/-! ### How much there is -/
def lenW (ws : List (List UInt8)) : Nat := (ws.map (fun x => x.length + 1)).sum
theorem lenW_snoc (ws : List (List UInt8)) (x : List UInt8) : lenW (ws ++ [x]) = lenW ws + x.length + 1 := by simp [lenW]; omega
theorem lens_le (ws : List (List UInt8)) : Lib.lens ws + ws.length = lenW ws := by
  induction ws with
  | nil => rfl
  | cons x r ih => simp only [Lib.lens, lenW, List.map_cons, List.sum_cons, List.length_cons] at ih ⊢; omega
theorem join_len (ws : List (List UInt8)) (sep : List UInt8) (h : sep.length ≤ 1) : (Lib.join ws sep).length ≤ lenW ws := by
  cases ws with
  | nil => simp [Lib.join_nil]
  | cons x r =>
    have h1 := lens_le (x :: r)
    rw [Lib.join_cons, List.length_append, Lib.joinTail_length]
    simp only [Lib.lens, List.map_cons, List.sum_cons, List.length_cons] at h1 ⊢
    have : sep.length * r.length ≤ r.length := Nat.le_trans (Nat.mul_le_mul_right _ h) (by omega)
    omega
structure Bd (n : Nat) (s : St) : Prop where
  st : s.st ≤ 6
  wt : s.txt.length + lenW s.words ≤ n
  angle : s.angle.length ≤ n
  told : s.told.length ≤ n
  lo : -(n : Int) ≤ s.rem
  hi : s.rem ≤ n
theorem Bd.up {n m : Nat} {s : St} (h : Bd n s) (hm : n ≤ m) : Bd m s := ⟨h.st, by have := h.wt; omega, by have := h.angle; omega, by have := h.told; omega, by have := h.lo; omega, by have := h.hi; omega⟩
theorem Bd.new (T : List Ad3) : Bd T.length (fresh T) := ⟨by show 0 ≤ 6; omega, by show 0 + 0 ≤ _; omega, by show 0 ≤ _; omega, Nat.le_refl _, by show -(_ : Int) ≤ 0; omega, by show (0 : Int) ≤ _; omega⟩
theorem oneA_len (n p : List UInt8) : (oneA n p).length ≤ 1 := by unfold oneA; split <;> simp
theorem Bd.tell {n : Nat} {s : St} (h : Bd n s) : Bd (n + 1) (tellS s) := by
  have := oneA_len (nameA s) (placeA s)
  refine ⟨h.st, by have := h.wt; show s.txt.length + lenW s.words ≤ _; omega, by have := h.angle; show s.angle.length ≤ _; omega, ?_, by have := h.lo; show _ ≤ s.rem; omega, by have := h.hi; show s.rem ≤ _; omega⟩
  show (s.told ++ oneA _ _).length ≤ _
  have := h.told
  rw [List.length_append]; omega
theorem Bd.clear {n : Nat} {s : St} (h : Bd n s) : Bd n (clearS s) := by
  refine ⟨h.st, ?_, by show 0 ≤ _; omega, h.told, h.lo, h.hi⟩
  have := h.wt
  show s.txt.length + 0 ≤ _
  omega
theorem Bd.endWord {n : Nat} {s : St} (h : Bd n s) : Bd (n + 1) (endWordS s) := by
  refine ⟨by show 0 ≤ 6; omega, ?_, by have := h.angle; show s.angle.length ≤ _; omega, by have := h.told; show s.told.length ≤ _; omega, by have := h.lo; show _ ≤ s.rem; omega, by have := h.hi; show s.rem ≤ _; omega⟩
  have := h.wt
  show 0 + lenW (s.words ++ [s.txt]) ≤ _
  rw [lenW_snoc]; omega
theorem Bd.endAngle {n : Nat} {s : St} (h : Bd n s) : Bd n (endAngleS s) := by
  have := h.wt
  exact ⟨by show 0 ≤ 6; omega, by show 0 + lenW s.words ≤ _; omega, by show s.txt.length ≤ _; omega, h.told, h.lo, h.hi⟩
theorem Bd.put {n : Nat} {s : St} (h : Bd n s) (c : UInt8) {k : Nat} (hk : k ≤ 6) : Bd (n + 1) { s with txt := s.txt ++ [c], st := k } := by
  have := h.wt
  exact ⟨hk, by show (s.txt ++ [c]).length + lenW s.words ≤ _; rw [List.length_append, List.length_singleton]; omega, by have := h.angle; show s.angle.length ≤ _; omega, by have := h.told; show s.told.length ≤ _; omega, by have := h.lo; show _ ≤ s.rem; omega, by have := h.hi; show s.rem ≤ _; omega⟩
theorem Bd.to {n : Nat} {s : St} (h : Bd n s) {k : Nat} (hk : k ≤ 6) (r : Int) (h1 : -((n : Int) + 1) ≤ r) (h2 : r ≤ n + 1) : Bd (n + 1) { s with st := k, rem := r } := by
  have := h.wt
  exact ⟨hk, by show s.txt.length + lenW s.words ≤ _; omega, by have := h.angle; show s.angle.length ≤ _; omega, by have := h.told; show s.told.length ≤ _; omega, by show _ ≤ r; omega, by show r ≤ _; omega⟩
/-- Two more for each byte: a word that ends, and one told. -/
theorem Bd.begin {n : Nat} {s : St} (h : Bd n s) (c : UInt8) : Bd (n + 1) (beginS s c) := by
  have := h.lo
  have := h.hi
  unfold beginS
  split
  · exact h.to (by omega) s.rem (by omega) (by omega)
  split
  · exact h.to (by omega) s.rem (by omega) (by omega)
  split
  · exact h.to (by omega) 1 (by omega) (by omega)
  split
  · exact h.tell.clear
  split
  · exact h.clear.up (by omega)
  split
  · exact h.up (by omega)
  · exact h.put c (by omega)
theorem Bd.step {n : Nat} {s : St} (h : Bd n s) (c : UInt8) : Bd (n + 2) (stepS s c) := by
  have h1 := h.lo
  have h2 := h.hi
  have h3 := h.st
  have hr : ∀ k, k ≤ 6 → Bd (n + 1) { s with st := k } := fun k hk => h.to hk s.rem (by omega) (by omega)
  unfold stepS
  split
  · split
    · exact h.endWord.begin c
    · exact (h.put c h3).up (by omega)
  split
  · exact (h.begin c).up (by omega)
  split
  · split
    · exact h.endWord.up (by omega)
    split
    · exact (hr 3 (by omega)).up (by omega)
    · exact (h.put c (by omega)).up (by omega)
  split
  · exact (h.put c (by omega)).up (by omega)
  split
  · unfold angleS
    split
    · exact h.endAngle.up (by omega)
    split
    · exact h.up (by omega)
    · exact (h.put c h3).up (by omega)
  split
  · unfold remarkS
    split
    · exact (hr 6 (by omega)).up (by omega)
    split
    · exact (h.to h3 (s.rem + 1) (by omega) (by omega)).up (by omega)
    split
    · split
      · exact (h.to (by omega) (s.rem - 1) (by omega) (by omega)).up (by omega)
      · exact (h.to h3 (s.rem - 1) (by omega) (by omega)).up (by omega)
    · exact h.up (by omega)
  split
  · exact (hr 5 (by omega)).up (by omega)
  · exact h.up (by omega)
theorem Bd.run {n : Nat} {s : St} (h : Bd n s) (l : List UInt8) : Bd (n + 2 * l.length) (run s l) := by
  induction l generalizing n s with
  | nil => exact h
  | cons c r ih =>
    rw [run_cons]
    exact (ih (h.step c)).up (by rw [List.length_cons]; omega)
theorem run_bd (l : List UInt8) : Bd (2 * l.length) (run (fresh []) l) := by
  have := (Bd.new []).run l
  simpa using this
theorem endS_bd {n : Nat} {s : St} (h : Bd n s) : Bd (n + 3) (endS s) := by
  unfold endS
  refine Bd.tell (n := n + 2) ?_
  split
  · have h2 : Bd (n + 1) { s with txt := s.txt ++ [92] } := h.put 92 h.st
    exact h2.endWord
  split
  · exact h.endWord.up (by omega)
  split
  · exact h.endAngle.up (by omega)
  · exact h.up (by omega)
theorem doc_len (l : List UInt8) : (docA l).length ≤ 2 * l.length + 3 := (endS_bd (run_bd l)).told

/-! ### Told ahead -/
def ahead (T : List Ad3) (s : St) : St := { s with told := T ++ s.told }
theorem ahead_tell (T : List Ad3) (s : St) : tellS (ahead T s) = ahead T (tellS s) := by
  show ({ s with told := (T ++ s.told) ++ _ } : St) = { s with told := T ++ (s.told ++ _) }
  rw [List.append_assoc]
  rfl
theorem ahead_begin (T : List Ad3) (s : St) (c : UInt8) : beginS (ahead T s) c = ahead T (beginS s c) := by
  unfold beginS
  rw [ahead_tell]
  split
  · rfl
  split
  · rfl
  split
  · rfl
  split
  · rfl
  split
  · rfl
  split <;> rfl
theorem ahead_step (T : List Ad3) (s : St) (c : UInt8) : stepS (ahead T s) c = ahead T (stepS s c) := by
  unfold stepS
  rw [show (ahead T s).st = s.st from rfl, show endWordS (ahead T s) = ahead T (endWordS s) from rfl, ahead_begin, ahead_begin]
  split
  · split <;> rfl
  split
  · rfl
  split
  · split
    · rfl
    split <;> rfl
  split
  · rfl
  split
  · unfold angleS
    split
    · rfl
    split <;> rfl
  split
  · unfold remarkS
    split
    · rfl
    split
    · rfl
    split
    · rw [show (ahead T s).rem = s.rem from rfl]
      split <;> rfl
    · rfl
  split <;> rfl
theorem ahead_run (T : List Ad3) (s : St) (l : List UInt8) : run (ahead T s) l = ahead T (run s l) := by
  induction l generalizing s with
  | nil => rfl
  | cons c r ih => rw [run_cons, run_cons, ahead_step, ih]
theorem ahead_end (T : List Ad3) (s : St) : (endS (ahead T s)).told = T ++ (endS s).told := by
  unfold endS
  rw [show (ahead T s).st = s.st from rfl]
  split
  · exact congrArg St.told (ahead_tell T (endWordS { s with txt := s.txt ++ [92] }))
  split
  · exact congrArg St.told (ahead_tell T (endWordS s))
  split
  · exact congrArg St.told (ahead_tell T (endAngleS s))
  · exact congrArg St.told (ahead_tell T s)
theorem fresh_run (T : List Ad3) (l : List UInt8) : (endS (run (fresh T) l)).told = T ++ docA l := by
  rw [show fresh T = ahead T (fresh []) by simp [ahead, fresh], ahead_run, ahead_end]
  rfl

/-! ### What is not open -/
structure Calm (s : St) : Prop where
  st : s.st = 0 ∧ s.txt = [] ∨ s.st = 1
  rem : s.rem = 0
theorem Calm.tell44 {s : St} (h : Calm s) (c : UInt8) (hc : c = 44 ∨ c = 59) : stepS s c = fresh (endS s).told := by
  have h0 : c ≠ 34 ∧ c ≠ 60 ∧ c ≠ 40 := by rcases hc with rfl | rfl <;> decide
  have he : endsB c = true := by rcases hc with rfl | rfl <;> decide
  have hb : ∀ x : St, beginS x c = clearS (tellS x) := fun x => by unfold beginS; rw [if_neg h0.1, if_neg h0.2.1, if_neg h0.2.2, if_pos hc]
  rcases h.st with ⟨h1, h2⟩ | h1
  · unfold stepS endS
    rw [h1, if_neg (by decide), if_pos rfl, hb, if_neg (by decide), if_neg (by decide), if_neg (by decide)]
    show (⟨s.st, s.rem, s.txt, [], [], false, (tellS s).told⟩ : St) = ⟨0, 0, [], [], [], false, (tellS s).told⟩
    rw [h1, h2, h.rem]
  · unfold stepS endS
    rw [h1, if_pos rfl, if_pos he, hb, if_neg (by decide), if_pos (Or.inr rfl)]
    show (⟨0, s.rem, [], [], [], false, (tellS (endWordS s)).told⟩ : St) = ⟨0, 0, [], [], [], false, (tellS (endWordS s)).told⟩
    rw [h.rem]
structure Bare (s : St) : Prop where
  calm : Calm s
theorem bare_step {s : St} (h : Calm s) {c : UInt8} (h1 : c ≠ 34) (h2 : c ≠ 40) (h3 : c ≠ 60) : Calm (stepS s c) := by
  have hb : ∀ x : St, x.st = 0 → x.txt = [] → x.rem = 0 → Calm (beginS x c) := fun x e1 e2 e3 => by
    unfold beginS
    rw [if_neg h1, if_neg h3, if_neg h2]
    split
    · exact ⟨Or.inl ⟨e1, e2⟩, e3⟩
    split
    · exact ⟨Or.inl ⟨e1, e2⟩, e3⟩
    split
    · exact ⟨Or.inl ⟨e1, e2⟩, e3⟩
    · exact ⟨Or.inr rfl, e3⟩
  rcases h.st with ⟨e1, e2⟩ | e1
  · unfold stepS
    rw [if_neg (by rw [e1]; decide), if_pos e1]
    exact hb s e1 e2 h.rem
  · unfold stepS
    rw [if_pos e1]
    split
    · exact hb (endWordS s) rfl rfl h.rem
    · exact ⟨Or.inr e1, h.rem⟩
theorem bare_run {s : St} (h : Calm s) : ∀ (l : List UInt8) (_ : ∀ c ∈ l, c ≠ 34 ∧ c ≠ 40 ∧ c ≠ 60), Calm (run s l)
  | [], _ => h
  | c :: r, hl => by
    rw [run_cons]
    obtain ⟨h1, h2, h3⟩ := hl c (by simp)
    exact bare_run (bare_step h h1 h2 h3) r (fun x hx => hl x (by simp [hx]))
theorem fresh_calm (T : List Ad3) : Calm (fresh T) := ⟨Or.inl ⟨rfl, rfl⟩, rfl⟩
theorem doc_joins (a b : List UInt8) (h : ∀ c ∈ a, c ≠ 34 ∧ c ≠ 40 ∧ c ≠ 60) : docA (a ++ 44 :: b) = docA a ++ docA b := by
  show (endS (run (fresh []) (a ++ 44 :: b))).told = _
  rw [run_app, run_cons, (bare_run (fresh_calm []) a h).tell44 44 (Or.inl rfl), fresh_run]
  rfl
end Go.Proofs.YtnnbbjdidbggmaaGreatDoor.Ad
