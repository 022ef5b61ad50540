/-
  Plain facts on parts: the word and the parameters of a header's value, the kids that some lines tell, the parts of some bytes. No program in this text. Conditions: none.
-/
import Derived.Test.YtnnbbjdidbggmaaGreatDoorF0Plain
import Derived.Test.YtnnbbjdidbggmaaGreatDoorTxPlain
namespace Go.Proofs.YtnnbbjdidbggmaaGreatDoor.Pt
open Go F0

abbrev Fl := List UInt8 × List UInt8
/-! ### Values -/
def ltrL (l : List UInt8) : List UInt8 := Lib.trimLeftS l [32, 9]
def rtrL (l : List UInt8) : List UInt8 := Lib.trimRightS l [32, 9]
def smallL (l : List UInt8) : List UInt8 := Tx.foldL (trimL l)
/-- What a quoted text tells, and what is behind its end. -/
def unqL : List UInt8 → List UInt8 × List UInt8
  | [] => ([], [])
  | [c] => if c = 34 then ([], []) else ([c], [])
  | c :: d :: r => if c = 34 then ([], d :: r) else if c = 92 then (d :: (unqL r).1, (unqL r).2) else (c :: (unqL (d :: r)).1, (unqL (d :: r)).2)
theorem unq_quote (r : List UInt8) : unqL (34 :: r) = ([], r) := by
  cases r with
  | nil => rfl
  | cons d r => rw [unqL, if_pos rfl]
theorem unq_esc (d : UInt8) (r : List UInt8) : unqL (92 :: d :: r) = (d :: (unqL r).1, (unqL r).2) := by rw [unqL, if_neg (by decide), if_pos rfl]
theorem unq_one {c : UInt8} (h : c ≠ 34) : unqL [c] = ([c], []) := by rw [unqL, if_neg h]
theorem unq_byte {c : UInt8} (h : c ≠ 34) (h2 : c ≠ 92) (r : List UInt8) : unqL (c :: r) = (c :: (unqL r).1, (unqL r).2) := by
  cases r with
  | nil => rw [unq_one h]; rfl
  | cons d r => rw [unqL, if_neg h, if_neg h2]
theorem unq_len : ∀ (n : Nat) (l : List UInt8) (_ : l.length ≤ n), (unqL l).1.length ≤ l.length ∧ (unqL l).2.length ≤ l.length
  | _, [], _ => by simp [unqL]
  | _, [c], _ => by rw [unqL]; split <;> simp
  | 0, c :: d :: r, h => by simp at h
  | n + 1, c :: d :: r, h => by
    have h1 : r.length ≤ n := by simp at h; omega
    have h2 : (d :: r).length ≤ n := by simp at h ⊢; omega
    have i1 := unq_len n r h1
    have i2 := unq_len n (d :: r) h2
    simp only [List.length_cons] at i2 ⊢
    rw [unqL]
    split
    · simp
    · split <;> simp only [List.length_cons] <;> omega
/-- Up to the first sign of equality or semicolon. -/
def isEq (c : UInt8) : Bool := c == 61 || c == 59
def noEq (c : UInt8) : Bool := !isEq c
def nextL (l : List UInt8) : Fl × Option (List UInt8) :=
  match l.dropWhile noEq with
  | [] => ((smallL (l.takeWhile noEq), []), none)
  | c :: r => if c = 59 then ((smallL (l.takeWhile noEq), []), some r) else
    match ltrL r with
    | [] => ((smallL (l.takeWhile noEq), []), none)
    | d :: q => if d = 34 then ((smallL (l.takeWhile noEq), (unqL q).1), (cutL 59 (unqL q).2).map (·.2)) else
      match cutL 59 (d :: q) with
      | none => ((smallL (l.takeWhile noEq), trimL (d :: q)), none)
      | some (v, r2) => ((smallL (l.takeWhile noEq), trimL v), some r2)
theorem span_at {a r : List UInt8} {c : UInt8} (ha : ∀ x ∈ a, isEq x = false) (hc : isEq c = true) : (a ++ c :: r).takeWhile noEq = a ∧ (a ++ c :: r).dropWhile noEq = c :: r := by
  induction a with
  | nil => simp [noEq, hc]
  | cons x a ih =>
    obtain ⟨h1, h2⟩ := ih (fun y hy => ha y (by simp [hy]))
    have hx : noEq x = true := by unfold noEq; rw [ha x (by simp)]; rfl
    rw [List.cons_append, List.takeWhile_cons, List.dropWhile_cons, if_pos hx, if_pos hx, h1, h2]
    exact ⟨rfl, rfl⟩
theorem span_no {l : List UInt8} (ha : ∀ x ∈ l, isEq x = false) : l.takeWhile noEq = l ∧ l.dropWhile noEq = [] := by
  induction l with
  | nil => exact ⟨rfl, rfl⟩
  | cons x a ih =>
    obtain ⟨h1, h2⟩ := ih (fun y hy => ha y (by simp [hy]))
    have hx : noEq x = true := by unfold noEq; rw [ha x (by simp)]; rfl
    rw [List.takeWhile_cons, List.dropWhile_cons, if_pos hx, if_pos hx, h1, h2]
    exact ⟨rfl, rfl⟩
theorem next_none {l : List UInt8} (h : ∀ x ∈ l, isEq x = false) : nextL l = ((smallL l, []), none) := by
  unfold nextL
  rw [(span_no h).1, (span_no h).2]
theorem next_semi {a : List UInt8} (r : List UInt8) (h : ∀ x ∈ a, isEq x = false) : nextL (a ++ 59 :: r) = ((smallL a, []), some r) := by
  unfold nextL
  rw [(span_at h rfl).1, (span_at h rfl).2]
  rfl
theorem next_empty {a r : List UInt8} (h : ∀ x ∈ a, isEq x = false) (hr : ltrL r = []) : nextL (a ++ 61 :: r) = ((smallL a, []), none) := by
  unfold nextL
  rw [(span_at h rfl).1, (span_at h rfl).2]
  simp only [hr]
  rfl
theorem next_quote {a r q : List UInt8} (h : ∀ x ∈ a, isEq x = false) (hr : ltrL r = 34 :: q) : nextL (a ++ 61 :: r) = ((smallL a, (unqL q).1), (cutL 59 (unqL q).2).map (·.2)) := by
  unfold nextL
  rw [(span_at h rfl).1, (span_at h rfl).2]
  simp only [hr]
  rfl
theorem next_last {a r q : List UInt8} {d : UInt8} (h : ∀ x ∈ a, isEq x = false) (hr : ltrL r = d :: q) (hd : d ≠ 34) (hc : ∀ c ∈ d :: q, c ≠ 59) : nextL (a ++ 61 :: r) = ((smallL a, trimL (d :: q)), none) := by
  unfold nextL
  rw [(span_at h rfl).1, (span_at h rfl).2]
  simp only [hr]
  rw [if_neg (by decide), if_neg hd, cutL_none hc]
theorem next_value {a r q v r2 : List UInt8} {d : UInt8} (h : ∀ x ∈ a, isEq x = false) (hr : ltrL r = d :: q) (hd : d ≠ 34) (hq : d :: q = v ++ 59 :: r2) (hc : ∀ c ∈ v, c ≠ 59) : nextL (a ++ 61 :: r) = ((smallL a, trimL v), some r2) := by
  unfold nextL
  rw [(span_at h rfl).1, (span_at h rfl).2]
  simp only [hr]
  rw [if_neg (by decide), if_neg hd, hq, cutL_some r2 hc]
theorem ltr_le (l : List UInt8) : (ltrL l).length ≤ l.length := dropWhile_le _ _
theorem cut_len {d : UInt8} : ∀ {l a r : List UInt8} (_ : cutL d l = some (a, r)), l = a ++ d :: r
  | [], _, _, h => by cases h
  | c :: l, a, r, h => by
    rw [cutL] at h
    split at h
    · rename_i hc
      injection h with h
      injection h with h1 h2
      subst h1 h2 hc
      rfl
    · cases hx : cutL d l with
      | none => rw [hx] at h; cases h
      | some x =>
        obtain ⟨a', r'⟩ := x
        rw [hx] at h
        injection h with h
        injection h with h1 h2
        subst h1 h2
        rw [cut_len hx]
        rfl
theorem small_le (l : List UInt8) : (smallL l).length ≤ l.length := by
  unfold smallL
  rw [Tx.foldL_length]
  exact trimL_le l
theorem span_split (l : List UInt8) : l = l.takeWhile noEq ++ l.dropWhile noEq := (List.takeWhile_append_dropWhile).symm
/-- What is left is less; the parameter's texts are no longer. -/
theorem next_len (l : List UInt8) : (∀ r, (nextL l).2 = some r → r.length < l.length) ∧ (nextL l).1.1.length ≤ l.length ∧ (nextL l).1.2.length ≤ l.length := by
  have hsp := congrArg List.length (span_split l)
  rw [List.length_append] at hsp
  have h1 := small_le (l.takeWhile noEq)
  unfold nextL
  split
  · refine ⟨?_, ?_, ?_⟩
    · intro r h; cases h
    · simp only; omega
    · simp
  · rename_i c r hd
    rw [hd, List.length_cons] at hsp
    split
    · refine ⟨?_, ?_, ?_⟩
      · intro r' h
        injection h with h
        subst h
        omega
      · simp only; omega
      · simp
    · have h2 := ltr_le r
      split
      · refine ⟨?_, ?_, ?_⟩
        · intro r h; cases h
        · simp only; omega
        · simp
      · rename_i d q hl
        rw [hl, List.length_cons] at h2
        split
        · have h3 := unq_len _ q (Nat.le_refl _)
          refine ⟨?_, ?_, ?_⟩
          · intro r' h
            cases hx : cutL 59 (unqL q).2 with
            | none => rw [hx] at h; cases h
            | some x =>
              obtain ⟨a', r2⟩ := x
              rw [hx] at h
              injection h with h
              have h4 := congrArg List.length (cut_len hx)
              simp only [List.length_append, List.length_cons] at h4
              simp only at h
              subst h
              omega
          · simp only; omega
          · simp only; omega
        · split
          · have h3 := trimL_le (d :: q)
            rw [List.length_cons] at h3
            refine ⟨?_, ?_, ?_⟩
            · intro r h; cases h
            · simp only; omega
            · simp only; omega
          · rename_i v r2 hx
            have h3 := trimL_le v
            have h4 := congrArg List.length (cut_len hx)
            simp only [List.length_append, List.length_cons] at h4
            refine ⟨?_, ?_, ?_⟩
            · intro r h
              injection h with h
              subst h
              omega
            · simp only; omega
            · simp only; omega
def keepL (f : Fl) : List Fl := if f.1.isEmpty then [] else [f]
def paramsG : Nat → List UInt8 → List Fl
  | 0, _ => []
  | n + 1, l => keepL (nextL l).1 ++ (match (nextL l).2 with
    | none => []
    | some r => paramsG n r)
def paramsL (l : List UInt8) : List Fl := paramsG (l.length + 1) l
theorem params_more : ∀ (n m : Nat) (l : List UInt8) (_ : l.length < n) (_ : l.length < m), paramsG n l = paramsG m l
  | 0, _, _, h, _ => by omega
  | _, 0, _, _, h => by omega
  | n + 1, m + 1, l, h1, h2 => by
    rw [paramsG, paramsG]
    cases hx : (nextL l).2 with
    | none => rfl
    | some r =>
      have := (next_len l).1 r hx
      simp only []
      rw [params_more n m r (by omega) (by omega)]
theorem params_last {l : List UInt8} {f : Fl} (h : nextL l = (f, none)) : paramsL l = keepL f := by
  unfold paramsL
  rw [paramsG, h]
  simp
theorem params_next {l r : List UInt8} {f : Fl} (h : nextL l = (f, some r)) : paramsL l = keepL f ++ paramsL r := by
  have := (next_len l).1 r (by rw [h])
  unfold paramsL
  rw [paramsG, h]
  simp only []
  rw [params_more l.length (r.length + 1) r this (by omega)]
theorem params_len : ∀ (n : Nat) (l : List UInt8), (paramsG n l).length ≤ n ∧ ∀ f ∈ paramsG n l, f.1.length ≤ l.length ∧ f.2.length ≤ l.length
  | 0, _ => by simp [paramsG]
  | n + 1, l => by
    rw [paramsG]
    have hk : (keepL (nextL l).1).length ≤ 1 := by unfold keepL; split <;> simp
    have hl := next_len l
    have hkm : ∀ f ∈ keepL (nextL l).1, f.1.length ≤ l.length ∧ f.2.length ≤ l.length := by
      intro f hf
      unfold keepL at hf
      split at hf
      · cases hf
      · simp only [List.mem_singleton] at hf
        rw [hf]
        exact hl.2
    cases hx : (nextL l).2 with
    | none => simp only [List.append_nil]; exact ⟨by omega, hkm⟩
    | some r =>
      have h1 := params_len n r
      have h2 := hl.1 r hx
      simp only [List.length_append]
      refine ⟨by omega, fun f hf => ?_⟩
      rcases List.mem_append.1 hf with hf | hf
      · exact hkm f hf
      · have := h1.2 f hf
        omega
def valuesL (l : List UInt8) : List UInt8 × List Fl :=
  match cutL 59 l with
  | none => (smallL l, [])
  | some (a, r) => (smallL a, paramsL r)
theorem values_none {l : List UInt8} (h : ∀ c ∈ l, c ≠ 59) : valuesL l = (smallL l, []) := by unfold valuesL; rw [cutL_none h]
theorem values_some {a : List UInt8} (r : List UInt8) (h : ∀ c ∈ a, c ≠ 59) : valuesL (a ++ 59 :: r) = (smallL a, paramsL r) := by unfold valuesL; rw [cutL_some r h]
theorem values_len (l : List UInt8) : (valuesL l).1.length ≤ l.length ∧ (valuesL l).2.length ≤ l.length ∧ ∀ f ∈ (valuesL l).2, f.1.length ≤ l.length ∧ f.2.length ≤ l.length := by
  unfold valuesL
  split
  · exact ⟨small_le l, by simp, by simp⟩
  · rename_i a r h
    have h1 := congrArg List.length (cut_len h)
    rw [List.length_append, List.length_cons] at h1
    have h2 := small_le a
    have h3 := params_len (r.length + 1) r
    refine ⟨by simp only; omega, by simp only [paramsL]; omega, fun f hf => ?_⟩
    have := h3.2 f hf
    omega

/-! ### Types -/
def plainT : List UInt8 := [116, 101, 120, 116, 47, 112, 108, 97, 105, 110]
def bit7 : List UInt8 := [55, 98, 105, 116]
def attachT : List UInt8 := [97, 116, 116, 97, 99, 104, 109, 101, 110, 116]
def multiT : List UInt8 := [109, 117, 108, 116, 105, 112, 97, 114, 116, 47]
def boundT : List UInt8 := [98, 111, 117, 110, 100, 97, 114, 121]
def ctypeT : List UInt8 := [67, 111, 110, 116, 101, 110, 116, 45, 84, 121, 112, 101]
def cencT : List UInt8 := [67, 111, 110, 116, 101, 110, 116, 45, 84, 114, 97, 110, 115, 102, 101, 114, 45, 69, 110, 99, 111, 100, 105, 110, 103]
def cdispT : List UInt8 := [67, 111, 110, 116, 101, 110, 116, 45, 68, 105, 115, 112, 111, 115, 105, 116, 105, 111, 110]
/-- Just one slash, with something on both sides. -/
def typedL (w : List UInt8) : Bool :=
  match cutL 47 w with
  | none => false
  | some (k, f) => !k.isEmpty && !f.isEmpty && (cutL 47 f).isNone
def fstL (fs : List Fl) (n : List UInt8) : Option Fl := fs.find? fun f => Tx.foldL f.1 == Tx.foldL n
def fvL (fs : List Fl) (n : List UInt8) : List UInt8 :=
  match fstL fs n with
  | some f => f.2
  | none => []
def typeL (fs : List Fl) : List UInt8 × List Fl := if typedL (valuesL (fvL fs ctypeT)).1 then valuesL (fvL fs ctypeT) else (plainT, [])
def encL (fs : List Fl) : List UInt8 :=
  match fstL fs cencT with
  | some f => smallL f.2
  | none => bit7
def attL (fs : List Fl) : Bool := (valuesL (fvL fs cdispT)).1 == attachT
theorem fst_mem {fs : List Fl} {n : List UInt8} {f : Fl} (h : fstL fs n = some f) : f ∈ fs := List.mem_of_find?_eq_some h
theorem fv_len {fs : List Fl} {M : Nat} (h : ∀ f ∈ fs, f.1.length ≤ M ∧ f.2.length ≤ M) (n : List UInt8) : (fvL fs n).length ≤ M := by
  unfold fvL
  cases hx : fstL fs n with
  | none => simp
  | some f => exact (h f (fst_mem hx)).2

/-! ### Lines that are marks -/
def isMark (bd t : List UInt8) : Bool := rtrL t == [45, 45] ++ bd
def isLast (bd t : List UInt8) : Bool := rtrL t == [45, 45] ++ bd ++ [45, 45]
theorem mark_not_last {bd t : List UInt8} (h : isMark bd t = true) : isLast bd t = false := by
  unfold isMark at h
  unfold isLast
  rw [beq_iff_eq] at h
  rw [h, beq_eq_false_iff_ne]
  intro e
  have := congrArg List.length e
  simp at this
/-- Whole lines without the end of the last one. -/
def woEnd (l : List UInt8) : List UInt8 := if Lib.hasSuffix l [10] then chopL (Lib.trimSuffix l [10]) else l
def backL (s : List UInt8) (f p : Nat) : Nat := f + (woEnd ((s.take p).drop f)).length
/-- The kids that lines tell: where each begins and ends; o: where the kid that is open begins; p: where the first line begins. -/
def kidsG (bd s : List UInt8) (b : Nat) : Option Nat → Nat → List (List UInt8 × Nat) → List (Nat × Nat)
  | o, _, [] => (o.map fun f => (f, b)).toList
  | o, p, (t, nx) :: r =>
    if isMark bd t then (o.map fun f => (f, backL s f p)).toList ++ kidsG bd s b (some nx) nx r
    else if isLast bd t then (o.map fun f => (f, backL s f p)).toList
    else kidsG bd s b o nx r
def segL (s : List UInt8) (a b : Nat) : List UInt8 := (s.take b).drop a
def kidsL (bd s : List UInt8) (a b : Nat) : List (Nat × Nat) := kidsG bd s b none a (linesL a (segL s a b))

/-! ### Parts -/
inductive P where
  | mk (ty : List UInt8) (ps : List Fl) (enc : List UInt8) (att : Bool) (h f t : Nat) (kids : List P)
def P.kids : P → List P
  | .mk _ _ _ _ _ _ _ k => k
def P.ty : P → List UInt8
  | .mk t _ _ _ _ _ _ _ => t
def P.ps : P → List Fl
  | .mk _ p _ _ _ _ _ _ => p
def P.enc : P → List UInt8
  | .mk _ _ e _ _ _ _ _ => e
def P.att : P → Bool
  | .mk _ _ _ a _ _ _ _ => a
def P.hd : P → Nat
  | .mk _ _ _ _ h _ _ _ => h
def P.fm : P → Nat
  | .mk _ _ _ _ _ f _ _ => f
def P.to : P → Nat
  | .mk _ _ _ _ _ _ t _ => t
def headL (s : List UInt8) (a b : Nat) : List Fl × Nat := splitL a b (segL s a b)
def partL (s : List UInt8) (a b : Nat) (kids : List P) : P :=
  .mk (typeL (headL s a b).1).1 (typeL (headL s a b).1).2 (encL (headL s a b).1) (attL (headL s a b).1) a (headL s a b).2 b kids
/-- The mark of the kids that there may be. -/
def markL (ty : List UInt8) (ps : List Fl) : Option (List UInt8) :=
  if Lib.hasPrefix ty multiT then (match fstL ps boundT with
    | some f => if f.2.isEmpty then none else some f.2
    | none => none) else none
def hasL (s : List UInt8) (a b : Nat) : Option (List UInt8) := markL (typeL (headL s a b).1).1 (typeL (headL s a b).1).2
def foldK (rd : Nat → Nat → Nat → P × Nat) : List (Nat × Nat) → Nat → List P × Nat
  | [], n => ([], n)
  | (f, e) :: r, n => if n < 30 then ((rd f e (n + 1)).1 :: (foldK rd r (rd f e (n + 1)).2).1, (foldK rd r (rd f e (n + 1)).2).2) else ([], n)
/-- The part from a place to another one, d others may still be in one another; n parts are counted, this one among them. -/
def readL (s : List UInt8) : Nat → Nat → Nat → Nat → P × Nat
  | 0, a, b, n => (partL s a b [], n)
  | d + 1, a, b, n => match hasL s a b with
    | none => (partL s a b [], n)
    | some bd => (partL s a b (foldK (readL s d) (kidsL bd s (headL s a b).2 b) n).1, (foldK (readL s d) (kidsL bd s (headL s a b).2 b) n).2)
def treeL (s : List UInt8) : P := (readL s 6 0 s.length 1).1

/-! ### Bounds -/
theorem suffix_le (l : List UInt8) : (Lib.trimSuffix l [10]).length ≤ l.length := by
  unfold Lib.trimSuffix
  split
  · rw [List.length_take]; omega
  · exact Nat.le_refl _
theorem chop_wo (l : List UInt8) : (woEnd l).length ≤ l.length := by
  unfold woEnd
  split
  · exact Nat.le_trans (chopL_le _) (suffix_le l)
  · exact Nat.le_refl _
theorem back_ge (s : List UInt8) (f p : Nat) : f ≤ backL s f p := by unfold backL; omega
theorem back_le (s : List UInt8) {f p : Nat} (h : f ≤ p) : backL s f p ≤ p := by
  unfold backL
  have h1 := chop_wo ((s.take p).drop f)
  rw [List.length_drop, List.length_take] at h1
  omega
theorem seg_len {s : List UInt8} {a b : Nat} (hb : b ≤ s.length) : (segL s a b).length = b - a := by
  unfold segL
  rw [List.length_drop, List.length_take]
  omega
theorem split_in {s : List UInt8} {a b : Nat} (h : a ≤ b) (hb : b ≤ s.length) : a ≤ (headL s a b).2 ∧ (headL s a b).2 ≤ b := by
  unfold headL splitL fieldsL
  have hl := seg_len (a := a) hb
  rcases upto_mem b (linesL a (segL s a b)) with ⟨h1, _⟩ | ⟨x, hx, _, he⟩
  · simp only [h1]; omega
  · have h1 := linesG_ge _ _ _ x hx
    have h2 := (linesG_le _ _ _ x hx).1
    simp only [he]
    omega
/-- The places of lines that rise. -/
def Rise (b : Nat) : Nat → List (List UInt8 × Nat) → Prop
  | _, [] => True
  | p, (_, nx) :: r => p ≤ nx ∧ nx ≤ b ∧ Rise b nx r
theorem linesG_rise (b : Nat) : ∀ (l cur : List UInt8) (p q : Nat) (_ : q ≤ p) (_ : p + l.length ≤ b), Rise b q (linesG p cur l)
  | [], cur, p, q, h, h2 => by
    rw [linesG]
    split
    · trivial
    · exact ⟨h, by simpa using h2, trivial⟩
  | c :: r, cur, p, q, h, h2 => by
    rw [List.length_cons] at h2
    rw [linesG]
    split
    · exact ⟨by omega, by omega, linesG_rise b r [] (p + 1) (p + 1) (Nat.le_refl _) (by omega)⟩
    · exact linesG_rise b r _ (p + 1) q (by omega) (by omega)
/-- Pairs of places, each behind the one ahead of it. -/
def Ord (b : Nat) : Nat → List (Nat × Nat) → Prop
  | _, [] => True
  | lo, (f, e) :: r => lo ≤ f ∧ f ≤ e ∧ e ≤ b ∧ Ord b e r
theorem Ord.low {b : Nat} : ∀ {l : List (Nat × Nat)} {lo lo' : Nat} (_ : Ord b lo l) (_ : lo' ≤ lo), Ord b lo' l
  | [], _, _, _, _ => trivial
  | _ :: _, _, _, h, hl => ⟨Nat.le_trans hl h.1, h.2.1, h.2.2.1, h.2.2.2⟩
theorem Ord.mem {b : Nat} : ∀ {l : List (Nat × Nat)} {lo : Nat} (_ : Ord b lo l), ∀ k ∈ l, lo ≤ k.1 ∧ k.1 ≤ k.2 ∧ k.2 ≤ b
  | [], _, _, k, hk => by cases hk
  | (f, e) :: r, lo, h, k, hk => by
    obtain ⟨h1, h2, h3, h4⟩ := h
    rcases List.mem_cons.1 hk with rfl | hk
    · exact ⟨h1, h2, h3⟩
    · have := Ord.mem h4 k hk
      omega
theorem kids_ord (bd s : List UInt8) (b : Nat) : ∀ (ls : List (List UInt8 × Nat)) (o : Option Nat) (p lo : Nat) (_ : Rise b p ls) (_ : p ≤ b) (_ : lo ≤ p) (_ : ∀ f, o = some f → lo ≤ f ∧ f ≤ p), Ord b lo (kidsG bd s b o p ls)
  | [], o, p, lo, _, hp, hl, ho => by
    rw [kidsG]
    cases o with
    | none => trivial
    | some f =>
      have := ho f rfl
      exact ⟨this.1, by omega, Nat.le_refl _, trivial⟩
  | (t, nx) :: r, o, p, lo, hr, hp, hl, ho => by
    obtain ⟨h1, h2, h3⟩ := hr
    rw [kidsG]
    split
    · have ih := kids_ord bd s b r (some nx) nx
      cases o with
      | none => exact ih lo h3 h2 (by omega) (fun f e => by cases e; exact ⟨by omega, Nat.le_refl _⟩)
      | some f =>
        obtain ⟨q1, q2⟩ := ho f rfl
        have q3 := back_ge s f p
        have q4 := back_le s q2
        exact ⟨q1, q3, by omega, ih _ h3 h2 (by omega) (fun f e => by cases e; exact ⟨by omega, Nat.le_refl _⟩)⟩
    · split
      · cases o with
        | none => trivial
        | some f =>
          obtain ⟨q1, q2⟩ := ho f rfl
          have q3 := back_ge s f p
          have q4 := back_le s q2
          exact ⟨q1, q3, by omega, trivial⟩
      · exact kids_ord bd s b r o nx lo h3 h2 (by omega) (fun f e => ⟨(ho f e).1, Nat.le_trans (ho f e).2 h1⟩)
theorem lines_rise {s : List UInt8} {a b : Nat} (h : a ≤ b) (hb : b ≤ s.length) : Rise b a (linesL a (segL s a b)) := by
  refine linesG_rise b _ [] a a (Nat.le_refl _) ?_
  rw [seg_len hb]
  omega
theorem kidsL_ord (bd s : List UInt8) {a b : Nat} (h : a ≤ b) (hb : b ≤ s.length) : Ord b a (kidsL bd s a b) :=
  kids_ord bd s b _ none a a (lines_rise h hb) h (Nat.le_refl _) (fun f e => by cases e)
theorem foldK_len (rd : Nat → Nat → Nat → P × Nat) : ∀ (l : List (Nat × Nat)) (n : Nat), (foldK rd l n).1.length ≤ l.length
  | [], n => by rw [foldK]; simp
  | (f, e) :: r, n => by
    rw [foldK]
    split
    · simp only [List.length_cons]
      have := foldK_len rd r (rd f e (n + 1)).2
      omega
    · simp
theorem kidsG_len (bd s : List UInt8) (b : Nat) : ∀ (ls : List (List UInt8 × Nat)) (o : Option Nat) (p : Nat), (kidsG bd s b o p ls).length ≤ ls.length + 1
  | [], o, p => by rw [kidsG]; cases o <;> simp
  | (t, nx) :: r, o, p => by
    have hop : ((o.map fun f => (f, backL s f p)).toList).length ≤ 1 := by cases o <;> simp
    rw [kidsG]
    split
    · rw [List.length_append, List.length_cons]
      have := kidsG_len bd s b r (some nx) nx
      omega
    · split
      · rw [List.length_cons]; omega
      · have := kidsG_len bd s b r o nx
        rw [List.length_cons]; omega
theorem kidsL_len (bd s : List UInt8) {a b : Nat} (hb : b ≤ s.length) : (kidsL bd s a b).length ≤ b - a + 2 := by
  unfold kidsL
  have h1 := kidsG_len bd s b (linesL a (segL s a b)) none a
  have h2 := linesG_count (segL s a b) [] a
  rw [seg_len hb] at h2
  unfold linesL at h1 ⊢
  omega
/-- Parts are counted up to thirty. -/
theorem foldK_count {rd : Nat → Nat → Nat → P × Nat} (h : ∀ f e n, n ≤ 30 → n ≤ (rd f e n).2 ∧ (rd f e n).2 ≤ 30) : ∀ (l : List (Nat × Nat)) (n : Nat) (_ : n ≤ 30), n ≤ (foldK rd l n).2 ∧ (foldK rd l n).2 ≤ 30 ∧ (foldK rd l n).1.length + n ≤ (foldK rd l n).2
  | [], n, hn => by rw [foldK]; simp; exact hn
  | (f, e) :: r, n, hn => by
    rw [foldK]
    split
    · rename_i hlt
      have h1 := h f e (n + 1) (by omega)
      have h2 := foldK_count h r (rd f e (n + 1)).2 h1.2
      simp only [List.length_cons]
      omega
    · simp
      exact hn
theorem read_count (s : List UInt8) : ∀ (d a b n : Nat) (_ : n ≤ 30), n ≤ (readL s d a b n).2 ∧ (readL s d a b n).2 ≤ 30
  | 0, a, b, n, h => by rw [readL]; exact ⟨Nat.le_refl _, h⟩
  | d + 1, a, b, n, h => by
    rw [readL]
    split
    · exact ⟨Nat.le_refl _, h⟩
    · rename_i bd _
      have := foldK_count (rd := readL s d) (fun f e n hn => read_count s d f e n hn) (kidsL bd s (headL s a b).2 b) n h
      exact ⟨this.1, this.2.1⟩
/-- A part that is within its places, its kids within one another. -/
def insL : P → Nat → Nat → Prop
  | .mk _ _ _ _ h f t kids, from_, to_ => from_ ≤ h ∧ h ≤ f ∧ f ≤ t ∧ t ≤ to_ ∧ kidsI kids f t
where kidsI : List P → Nat → Nat → Prop
  | [], _, _ => True
  | k :: r, lo, t => insL k lo t ∧ kidsI r k.to t
theorem foldK_ins {s : List UInt8} {rd : Nat → Nat → Nat → P × Nat} {b : Nat} (h : ∀ f e n, f ≤ e → e ≤ b → insL (rd f e n).1 f e ∧ (rd f e n).1.to = e) : ∀ (l : List (Nat × Nat)) (lo n : Nat) (_ : Ord b lo l), insL.kidsI (foldK rd l n).1 lo b
  | [], lo, n, _ => by rw [foldK]; trivial
  | (f, e) :: r, lo, n, ho => by
    obtain ⟨h1, h2, h3, h4⟩ := ho
    rw [foldK]
    split
    · obtain ⟨q1, q2⟩ := h f e (n + 1) h2 h3
      refine ⟨?_, ?_⟩
      · obtain ⟨k, hk⟩ : ∃ k, (rd f e (n + 1)).1 = k := ⟨_, rfl⟩
        rw [hk] at q1 ⊢
        obtain ⟨ty, ps, enc, att, hh, ff, tt, kids⟩ := k
        obtain ⟨r1, r2, r3, r4, r5⟩ := q1
        exact ⟨by omega, r2, r3, by omega, r5⟩
      · rw [q2]
        exact foldK_ins (s := s) h r e _ h4
    · trivial
theorem read_ins (s : List UInt8) : ∀ (d a b n : Nat) (_ : a ≤ b) (_ : b ≤ s.length), insL (readL s d a b n).1 a b ∧ (readL s d a b n).1.to = b
  | 0, a, b, n, h, hb => by
    have := split_in h hb
    rw [readL]
    exact ⟨⟨Nat.le_refl _, this.1, this.2, Nat.le_refl _, trivial⟩, rfl⟩
  | d + 1, a, b, n, h, hb => by
    have hs := split_in h hb
    rw [readL]
    split
    · exact ⟨⟨Nat.le_refl _, hs.1, hs.2, Nat.le_refl _, trivial⟩, rfl⟩
    · refine ⟨⟨Nat.le_refl _, hs.1, hs.2, Nat.le_refl _, ?_⟩, rfl⟩
      refine foldK_ins (s := s) (fun f e n h1 h2 => read_ins s d f e n h1 (Nat.le_trans h2 hb)) _ _ n ?_
      exact kidsL_ord _ s hs.2 hb
end Go.Proofs.YtnnbbjdidbggmaaGreatDoor.Pt
