/-
  Plain facts on JSON texts, for package json: a value within so many others, by the depth that is left; the program's own way with numbers comes to the same. No program in this text. Conditions: none.
-/
import Derived.Test.YtbjngdlkamdmdaaDoorJ7Plain
namespace Go.Proofs.YtbjngdlkamdmdaaDoor.J7
open Go

/-- The items of an array, an object. -/
def itemsG (val : List UInt8 → Out J) (obj : Bool) : Nat → List ByteArray → List J → List UInt8 → Out J
  | 0, _, _, _ => .error 3
  | f + 1, keys, kids, l => match keyO obj keys l with
    | .error e => .error e
    | .ok (ks, l1) => match val l1 with
      | .error e => .error e
      | .ok (j, l2) => match eatL (endO obj) (skipL l2) with
        | some r => .ok (listJ obj ks (kids ++ [j]), r)
        | none => match eatL 44 (skipL l2) with
          | some r => itemsG val obj f ks (kids ++ [j]) r
          | none => .error 3
def listG (val : List UInt8 → Out J) (obj : Bool) (l : List UInt8) : Out J := match eatL (endO obj) (skipL l) with
  | some r => .ok (listJ obj [] [], r)
  | none => itemsG val obj (l.length + 1) [] [] (skipL l)
def valueH (num : List UInt8 → Out J) (lst : Bool → List UInt8 → Out J) (l : List UInt8) : Out J := match skipL l with
  | [] => .error 3
  | c :: r =>
    if c = 110 then wordJ nullW 1 (c :: r)
    else if c = 102 then wordJ falseW 2 (c :: r)
    else if c = 116 then wordJ trueW 3 (c :: r)
    else if c = 34 then textJ r
    else if c = 91 then lst false r
    else if c = 123 then lst true r
    else num (c :: r)
/-- A value; so many arrays and objects may stand in one another yet. -/
def valueG (num : List UInt8 → Out J) : Nat → List UInt8 → Out J
  | 0 => valueH num (fun _ _ => .error 4)
  | n + 1 => valueH num (listG (valueG num n))
def lstG (num : List UInt8 → Out J) : Nat → Bool → List UInt8 → Out J
  | 0 => fun _ _ => .error 4
  | n + 1 => listG (valueG num n)
theorem valueG_eq (num : List UInt8 → Out J) (n : Nat) : valueG num n = valueH num (lstG num n) := by cases n <;> rfl
/-- What a text says. -/
def parseG (num : List UInt8 → Out J) (l : List UInt8) : Except Nat J :=
  if 65536 < l.length then .error 2 else match valueG num 24 l with
    | .error e => .error e
    | .ok (j, r) => if skipL r = [] then .ok j else .error 3

/-- A number as the program reads it: what stands behind it is left. -/
def digC (l : List UInt8) : Out Nat := match l with
  | [] => .error 3
  | c :: r => if c = 48 then .ok (0, r) else if (digsL (c :: r)).length = 0 ∨ maxNum < numV 0 (digsL (c :: r)) then .error 3 else .ok (numV 0 (digsL (c :: r)), restL (c :: r))
def numC (l : List UInt8) : Out J := match eatL 45 l with
  | some m => match digC m with
    | .error e => .error e
    | .ok (n, r) => if n = 0 then .error 3 else .ok (numJ (-(n : Int)), r)
  | none => match digC l with
    | .error e => .error e
    | .ok (n, r) => .ok (numJ (n : Int), r)
/-- A byte that nothing takes behind a number. -/
def stuckB (c : UInt8) : Bool := digB c || c == 46 || c == 101 || c == 69
theorem stuck_not {c : UInt8} (h : stuckB c = true) : blank c = false ∧ c ≠ 93 ∧ c ≠ 125 ∧ c ≠ 44 := by
  unfold stuckB digB at h
  simp only [Bool.or_eq_true, Bool.and_eq_true, decide_eq_true_eq, beq_iff_eq] at h
  unfold blank
  rcases h with ((⟨h1, h2⟩ | rfl) | rfl) | rfl
  · have hn : ∀ d : UInt8, d.toNat < 48 ∨ 57 < d.toNat → c ≠ d := fun d hd e => by subst e; omega
    refine ⟨?_, hn _ (Or.inr (by decide)), hn _ (Or.inr (by decide)), hn _ (Or.inl (by decide))⟩
    simp only [Bool.or_eq_false_iff, beq_eq_false_iff_ne]
    exact ⟨⟨⟨hn _ (Or.inl (by decide)), hn _ (Or.inl (by decide))⟩, hn _ (Or.inl (by decide))⟩, hn _ (Or.inl (by decide))⟩
  · decide
  · decide
  · decide
/-- One way of reading is as the other, or gives up where the other stands ahead of a byte that nothing takes. -/
def Near (o o' : Out J) : Prop := o = o' ∨ (o' = .error 3 ∧ ∃ j c r, o = .ok (j, c :: r) ∧ stuckB c = true)
theorem digs_head {c : UInt8} {r : List UInt8} (h : digB c = true) : digsL (c :: r) = c :: digsL r := by rw [digsL, if_pos h]
theorem rest_head {c : UInt8} {r : List UInt8} (h : digB c = true) : restL (c :: r) = restL r := by rw [restL, if_pos h]
theorem digs_none {c : UInt8} {r : List UInt8} (h : digB c = false) : digsL (c :: r) = [] := by rw [digsL, if_neg (by rw [h]; decide)]
theorem rest_none {c : UInt8} {r : List UInt8} (h : digB c = false) : restL (c :: r) = c :: r := by rw [restL, if_neg (by rw [h]; decide)]
theorem rest_stuck {l : List UInt8} (h : pointB (restL l) = true) : ∃ c r, restL l = c :: r ∧ stuckB c = true := by
  cases e : restL l with
  | nil => rw [e] at h; cases h
  | cons c r =>
    rw [e, pointB] at h
    refine ⟨c, r, rfl, ?_⟩
    unfold stuckB
    simp only [Bool.or_eq_true] at h ⊢
    rcases h with (h | h) | h
    · exact Or.inl (Or.inl (Or.inr h))
    · exact Or.inl (Or.inr h)
    · exact Or.inr h
/-- What is left over of a number that one way gives up and the other does not. -/
theorem digC_near (neg : Bool) (m : List UInt8) :
    (numberN neg m = match digC m with
      | .error e => .error e
      | .ok (n, r) => if neg = true ∧ n = 0 then .error 3 else .ok (numJ (if neg then -(n : Int) else (n : Int)), r)) ∨
    (numberN neg m = .error 3 ∧ ∃ n c r, digC m = .ok (n, c :: r) ∧ stuckB c = true) := by
  cases m with
  | nil =>
    left
    rw [digC, numberN, if_pos (by unfold badN; simp [digsL])]
  | cons c r =>
    rw [digC]
    by_cases h0 : c = 48
    · subst h0
      have hd : digB 48 = true := by decide
      rw [if_pos rfl]
      cases r with
      | nil =>
        left
        unfold numberN badN
        rw [digs_head hd, rest_head hd, show digsL [] = [] from rfl, show restL [] = [] from rfl, numV_cons, numV_nil]
        cases neg <;> rfl
      | cons a t =>
        by_cases hs : digB a = true
        · right
          refine ⟨?_, 0, a, t, rfl, by unfold stuckB; rw [hs]; rfl⟩
          rw [numberN, if_pos]
          unfold badN
          rw [digs_head hd, digs_head hs]
          simp
        · have hs' : digB a = false := by simpa using hs
          by_cases hp : (a == 46 || a == 101 || a == 69) = true
          · right
            refine ⟨?_, 0, a, t, rfl, by unfold stuckB; rw [hs']; simpa using hp⟩
            rw [numberN, if_pos]
            unfold badN
            rw [rest_head hd, rest_none hs', pointB, hp]
            simp
          · left
            have hp' : (a == 46 || a == 101 || a == 69) = false := by simpa using hp
            unfold numberN badN
            rw [digs_head hd, rest_head hd, digs_none hs', rest_none hs', pointB, hp', numV_cons, numV_nil]
            cases neg <;> rfl
    · rw [if_neg h0]
      by_cases h1 : (digsL (c :: r)).length = 0 ∨ maxNum < numV 0 (digsL (c :: r))
      · rw [if_pos h1]
        left
        rw [numberN, if_pos]
        unfold badN
        rcases h1 with h1 | h1
        · simp [h1]
        · simp [h1]
      · rw [if_neg h1]
        have h2 : (digsL (c :: r)).length ≠ 0 := fun e => h1 (Or.inl e)
        have h3 : ¬ maxNum < numV 0 (digsL (c :: r)) := fun e => h1 (Or.inr e)
        have hc : digB c = true := by
          cases e : digB c with
          | true => rfl
          | false => rw [digs_none e] at h2; exact absurd rfl h2
        have h4 : decide ((digsL (c :: r)).head? = some 48) = false := by
          rw [digs_head hc]
          simpa using h0
        have hb : badN neg (c :: r) = ((neg && decide (numV 0 (digsL (c :: r)) = 0)) || pointB (restL (c :: r))) := by
          unfold badN
          rw [h4, decide_eq_false h2, decide_eq_false h3]
          simp
        by_cases h5 : pointB (restL (c :: r)) = true
        · right
          obtain ⟨a, t, e, hs⟩ := rest_stuck h5
          refine ⟨?_, numV 0 (digsL (c :: r)), a, t, by rw [e], hs⟩
          rw [numberN, if_pos (by rw [hb, h5]; simp)]
        · left
          have h5' : pointB (restL (c :: r)) = false := by simpa using h5
          rw [numberN, hb, h5', Bool.or_false]
          by_cases h6 : neg = true ∧ numV 0 (digsL (c :: r)) = 0
          · rw [if_pos (by simp [h6])]
            show _ = if neg = true ∧ numV 0 (digsL (c :: r)) = 0 then _ else _
            rw [if_pos h6]
          · rw [if_neg (by simpa using h6)]
            show _ = if neg = true ∧ numV 0 (digsL (c :: r)) = 0 then _ else _
            rw [if_neg h6]
theorem num_near (l : List UInt8) : Near (numC l) (numberL l) := by
  unfold numC numberL
  cases e : eatL 45 l with
  | some m =>
    simp only
    rcases digC_near true m with h | ⟨h, n, c, r, hd, hs⟩
    · left
      rw [h]
      cases digC m with
      | error e => rfl
      | ok x => obtain ⟨n, r⟩ := x; simp
    · rw [h, hd]
      simp only
      by_cases hn : n = 0
      · left; rw [if_pos hn]
      · right
        rw [if_neg hn]
        exact ⟨rfl, _, c, r, rfl, hs⟩
  | none =>
    simp only
    rcases digC_near false l with h | ⟨h, n, c, r, hd, hs⟩
    · left
      rw [h]
      cases digC l with
      | error e => rfl
      | ok x => obtain ⟨n, r⟩ := x; simp
    · rw [h, hd]
      right
      exact ⟨rfl, _, c, r, rfl, hs⟩
theorem valueH_near {num num' : List UInt8 → Out J} (h : ∀ l, Near (num l) (num' l)) (lst : Bool → List UInt8 → Out J) (l : List UInt8) : Near (valueH num lst l) (valueH num' lst l) := by
  unfold valueH
  cases skipL l with
  | nil => exact Or.inl rfl
  | cons c r =>
    simp only
    split
    · exact Or.inl rfl
    · split
      · exact Or.inl rfl
      · split
        · exact Or.inl rfl
        · split
          · exact Or.inl rfl
          · split
            · exact Or.inl rfl
            · split
              · exact Or.inl rfl
              · exact h _
theorem eat_stuck {c : UInt8} {r : List UInt8} (h : stuckB c = true) (obj : Bool) : eatL (endO obj) (skipL (c :: r)) = none ∧ eatL 44 (skipL (c :: r)) = none := by
  obtain ⟨h1, h2, h3, h4⟩ := stuck_not h
  have e : skipL (c :: r) = c :: r := by rw [skipL, if_neg (by rw [h1]; decide)]
  rw [e, eatL, eatL, if_neg h4]
  refine ⟨?_, rfl⟩
  cases obj
  · exact if_neg h2
  · exact if_neg h3
theorem items_near {val val' : List UInt8 → Out J} (h : ∀ l, Near (val l) (val' l)) (obj : Bool) : ∀ (f : Nat) (keys : List ByteArray) (kids : List J) (l : List UInt8), itemsG val obj f keys kids l = itemsG val' obj f keys kids l
  | 0, _, _, _ => rfl
  | f + 1, keys, kids, l => by
    rw [itemsG, itemsG]
    cases keyO obj keys l with
    | error e => rfl
    | ok x =>
      obtain ⟨ks, l1⟩ := x
      simp only
      rcases h l1 with e | ⟨e, j, c, r, e2, hs⟩
      · rw [e]
        cases val' l1 with
        | error e => rfl
        | ok y =>
          obtain ⟨j, l2⟩ := y
          simp only
          cases eatL (endO obj) (skipL l2) with
          | some r => rfl
          | none =>
            simp only
            cases eatL 44 (skipL l2) with
            | some r => exact items_near h obj f _ _ _
            | none => rfl
      · rw [e, e2]
        simp only
        rw [(eat_stuck hs obj).1, (eat_stuck hs obj).2]
theorem list_near {val val' : List UInt8 → Out J} (h : ∀ l, Near (val l) (val' l)) : listG val = listG val' := by
  funext obj l
  unfold listG
  cases eatL (endO obj) (skipL l) with
  | some r => rfl
  | none => exact items_near h obj _ _ _ _
theorem value_near {num num' : List UInt8 → Out J} (h : ∀ l, Near (num l) (num' l)) : ∀ (n : Nat) (l : List UInt8), Near (valueG num n l) (valueG num' n l)
  | 0, l => valueH_near h _ l
  | n + 1, l => by
    show Near (valueH num (listG (valueG num n)) l) (valueH num' (listG (valueG num' n)) l)
    rw [list_near (value_near h n)]
    exact valueH_near h _ l
theorem parse_near (l : List UInt8) : parseG numC l = parseG numberL l := by
  unfold parseG
  split
  · rfl
  · rcases value_near num_near 24 l with e | ⟨e, j, c, r, e2, hs⟩
    · rw [e]
    · rw [e, e2]
      simp only
      rw [if_neg]
      have h1 := (stuck_not hs).1
      rw [skipL, if_neg (by rw [h1]; decide)]
      intro h
      cases h
/-! ### What stands behind is an end of the text -/
theorem digC_suffix {l r : List UInt8} {n : Nat} (h : digC l = .ok (n, r)) : r <:+ l ∧ r.length < l.length := by
  cases l with
  | nil => rw [digC] at h; cases h
  | cons c t =>
    rw [digC] at h
    split at h
    · obtain rfl := snd_of h
      exact ⟨List.suffix_cons _ _, by simp⟩
    · split at h
      · cases h
      · rename_i hb
        have e : restL (c :: t) = r := snd_of h
        have h1 : (digsL (c :: t)).length ≠ 0 := fun e => hb (Or.inl e)
        have h2 := congrArg List.length (digs_rest (c :: t))
        rw [List.length_append] at h2
        rw [← e]
        exact ⟨rest_suffix _, by omega⟩
theorem numC_suffix {l r : List UInt8} {j : J} (h : numC l = .ok (j, r)) : r <:+ l ∧ r.length < l.length := by
  unfold numC at h
  split at h
  · rename_i m e
    split at h
    · cases h
    · rename_i n r1 e1
      split at h
      · cases h
      · obtain rfl := snd_of h
        have := digC_suffix e1
        exact ⟨this.1.trans (eat_suffix e), by have := eat_lt e; omega⟩
  · split at h
    · cases h
    · rename_i n r1 e1
      obtain rfl := snd_of h
      exact digC_suffix e1
theorem itemsG_suffix {val : List UInt8 → Out J} (hv : ∀ l j r, val l = .ok (j, r) → r <:+ l) (obj : Bool) : ∀ (f : Nat) (keys : List ByteArray) (kids : List J) (l : List UInt8) (j : J) (r : List UInt8), itemsG val obj f keys kids l = .ok (j, r) → r <:+ l
  | 0, keys, kids, l, j, r, h => by rw [itemsG] at h; cases h
  | f + 1, keys, kids, l, j, r, h => by
    rw [itemsG] at h
    split at h
    · cases h
    · rename_i ks l1 e1
      have h1 := keyO_suffix e1
      split at h
      · cases h
      · rename_i k l2 e2
        have h2 := hv _ _ _ e2
        have h3 := skip_suffix l2
        split at h
        · rename_i r0 e3
          obtain rfl := snd_of h
          exact (((eat_suffix e3).trans h3).trans h2).trans h1
        · split at h
          · rename_i r0 e3
            exact ((((itemsG_suffix hv obj f _ _ _ _ _ h).trans (eat_suffix e3)).trans h3).trans h2).trans h1
          · cases h
theorem listG_suffix {val : List UInt8 → Out J} (hv : ∀ l j r, val l = .ok (j, r) → r <:+ l) (obj : Bool) (l : List UInt8) (j : J) (r : List UInt8) (h : listG val obj l = .ok (j, r)) : r <:+ l := by
  unfold listG at h
  split at h
  · rename_i r0 e
    obtain rfl := snd_of h
    exact (eat_suffix e).trans (skip_suffix l)
  · exact (itemsG_suffix hv obj _ _ _ _ _ _ h).trans (skip_suffix l)
theorem valueH_suffix {num : List UInt8 → Out J} {lst : Bool → List UInt8 → Out J} (hn : ∀ l j r, num l = .ok (j, r) → r <:+ l) (hl : ∀ obj l j r, lst obj l = .ok (j, r) → r <:+ l) (l : List UInt8) (j : J) (r : List UInt8) (h : valueH num lst l = .ok (j, r)) : r <:+ l := by
  unfold valueH at h
  have hs := skip_suffix l
  split at h
  · cases h
  · rename_i c t e
    rw [e] at hs
    refine List.IsSuffix.trans ?_ hs
    have ht : t <:+ c :: t := List.suffix_cons c t
    split at h
    · exact wordJ_suffix h
    · split at h
      · exact wordJ_suffix h
      · split at h
        · exact wordJ_suffix h
        · split at h
          · exact (textJ_suffix h).trans ht
          · split at h
            · exact (hl _ _ _ _ h).trans ht
            · split at h
              · exact (hl _ _ _ _ h).trans ht
              · exact hn _ _ _ h
theorem valueG_suffix {num : List UInt8 → Out J} (hn : ∀ l j r, num l = .ok (j, r) → r <:+ l) : ∀ (n : Nat) (l : List UInt8) (j : J) (r : List UInt8), valueG num n l = .ok (j, r) → r <:+ l
  | 0, l, j, r, h => valueH_suffix hn (fun _ _ _ _ h => by cases h) l j r h
  | n + 1, l, j, r, h => valueH_suffix hn (fun obj l j r h => listG_suffix (valueG_suffix hn n) obj l j r h) l j r h
/-- More steps than are wanted tell the same. -/
theorem itemsG_more {val : List UInt8 → Out J} (hv : ∀ l j r, val l = .ok (j, r) → r <:+ l) (obj : Bool) : ∀ (f g : Nat) (keys : List ByteArray) (kids : List J) (l : List UInt8), l.length < f → l.length < g → itemsG val obj f keys kids l = itemsG val obj g keys kids l
  | 0, _, _, _, _, h, _ => by omega
  | _ + 1, 0, _, _, _, _, h => by omega
  | f + 1, g + 1, keys, kids, l, hf, hg => by
    rw [itemsG, itemsG]
    split
    · rfl
    · rename_i ks l1 e1
      have q1 := (keyO_suffix e1).length_le
      split
      · rfl
      · rename_i k l2 e2
        have q2 := (hv _ _ _ e2).length_le
        have q3 := (skip_suffix l2).length_le
        split
        · rfl
        · split
          · rename_i r0 e3
            have q4 := eat_lt e3
            exact itemsG_more hv obj f g _ _ _ (by omega) (by omega)
          · rfl
end Go.Proofs.YtbjngdlkamdmdaaDoor.J7
