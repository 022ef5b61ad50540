/-
  Plain facts on encoded words: what a word at the beginning of a list of bytes says, the first word of a list, a list with its words turned into what they say. No program in this text. Conditions: none.
-/
import Derived.Test.YtnnbbjdidbggmaaGreatDoorU8Plain
import Derived.Test.YtnnbbjdidbggmaaGreatDoorB6Plain
import Derived.Test.YtnnbbjdidbggmaaGreatDoorQ4Plain
import Derived.Test.YtnnbbjdidbggmaaGreatDoorTxPlain
namespace Go.Proofs.YtnnbbjdidbggmaaGreatDoor.Wd
open Go

def visB (c : UInt8) : Bool := decide (33 ≤ c.toNat) && decide (c.toNat ≤ 126)
def visL (l : List UInt8) : Bool := l.all visB
theorem visB_low {c : UInt8} (h : c.toNat < 33) : visB c = false := by unfold visB; simp; omega
theorem visB_high {c : UInt8} (h : 126 < c.toNat) : visB c = false := by unfold visB; simp; omega
theorem visB_in {c : UInt8} (h : 33 ≤ c.toNat) (h2 : c.toNat ≤ 126) : visB c = true := by unfold visB; simp; omega
theorem visL_false {l : List UInt8} {k : Nat} (h : k < l.length) (hk : visB l[k] = false) : visL l = false := by
  unfold visL
  rw [List.all_eq_false]
  exact ⟨l[k], List.getElem_mem h, by simp [hk]⟩
theorem visL_true {l : List UInt8} (h : ∀ (k : Nat) (hk : k < l.length), visB l[k] = true) : visL l = true := by
  unfold visL
  rw [List.all_eq_true]
  intro c hc
  obtain ⟨k, hk, rfl⟩ := List.getElem_of_mem hc
  exact h k hk

/-! ### A list cut at a question mark -/
def cutQ : List UInt8 → Option (List UInt8 × List UInt8)
  | [] => none
  | c :: r => if c = 63 then some ([], r) else (cutQ r).map (fun p => (c :: p.1, p.2))
theorem cutQ_none : ∀ {l : List UInt8} (_ : ∀ c ∈ l, c ≠ 63), cutQ l = none
  | [], _ => rfl
  | c :: r, h => by rw [cutQ, if_neg (h c (by simp)), cutQ_none (fun x hx => h x (by simp [hx]))]; rfl
theorem cutQ_some : ∀ {a : List UInt8} (r : List UInt8) (_ : ∀ c ∈ a, c ≠ 63), cutQ (a ++ 63 :: r) = some (a, r)
  | [], r, _ => by simp [cutQ]
  | c :: a, r, h => by rw [List.cons_append, cutQ, if_neg (h c (by simp)), cutQ_some r (fun x hx => h x (by simp [hx]))]; rfl
theorem cutQ_back : ∀ {l a r : List UInt8} (_ : cutQ l = some (a, r)), l = a ++ 63 :: r ∧ ∀ c ∈ a, c ≠ 63
  | [], a, r, h => by cases h
  | c :: l, a, r, h => by
    rw [cutQ] at h
    split at h
    · rename_i hc
      obtain ⟨rfl, rfl⟩ : [] = a ∧ l = r := by simpa using h
      exact ⟨by rw [hc]; rfl, by simp⟩
    · rename_i hc
      cases hq : cutQ l with
      | none => rw [hq] at h; cases h
      | some p =>
        rw [hq] at h
        obtain ⟨p1, p2⟩ := p
        obtain ⟨rfl, rfl⟩ : c :: p1 = a ∧ p2 = r := by simpa using h
        obtain ⟨e1, e2⟩ := cutQ_back hq
        refine ⟨by rw [e1]; rfl, ?_⟩
        intro x hx
        rcases List.mem_cons.1 hx with rfl | hx
        · exact hc
        · exact e2 x hx

/-! ### What a word says -/
def blankU (l : List UInt8) : List UInt8 := l.map (fun c => if c = 95 then 32 else c)
def latinL (l : List UInt8) : List UInt8 := l.flatMap (fun c => U8.putL (c.toNat : Int))
def wayB (k : List UInt8) : Bool := k == [66] || k == [98]
def wayQ (k : List UInt8) : Bool := k == [81] || k == [113]
def octL (k t : List UInt8) : Option (List UInt8) :=
  if wayB k then some (B6.looseL t) else if wayQ k then some (Q4.plainL (blankU t)) else none
def utfN : List UInt8 := [117, 116, 102, 45, 56]
def ascN : List UInt8 := [117, 115, 45, 97, 115, 99, 105, 105]
def latN : List UInt8 := [105, 115, 111, 45, 56, 56, 53, 57, 45, 49]
def setL (a o : List UInt8) : Option (List UInt8) :=
  if Tx.foldL a = utfN ∨ Tx.foldL a = ascN then (if U8.validL o then some o else none)
  else if Tx.foldL a = latN then some (latinL o) else none
def saysL (a k t : List UInt8) : Option (List UInt8) :=
  match octL k t with
  | some o => setL a o
  | none => none
theorem blankU_length (l : List UInt8) : (blankU l).length = l.length := by simp [blankU]
theorem latin_len : ∀ (l : List UInt8), (latinL l).length ≤ 2 * l.length
  | [] => by simp [latinL]
  | c :: r => by
    have ih := latin_len r
    have h : (U8.putL (c.toNat : Int)).length ≤ 2 := by
      have := c.toNat_lt
      rw [U8.putL_length]
      rcases U8.sizeN_cases (c.toNat : Int) with h | h | h | h | h
      · omega
      · omega
      · omega
      · have := U8.sizeN_three.1 h; omega
      · have := U8.sizeN_four.1 h; omega
    rw [latinL, List.flatMap_cons, List.length_append, ← latinL, List.length_cons]
    omega
theorem latin_nil : latinL [] = [] := rfl
theorem latin_cons (c : UInt8) (r : List UInt8) : latinL (c :: r) = U8.putL (c.toNat : Int) ++ latinL r := by simp [latinL]
theorem latin_app (a b : List UInt8) : latinL (a ++ b) = latinL a ++ latinL b := by simp [latinL]
theorem oct_len {k t o : List UInt8} (h : octL k t = some o) : o.length ≤ t.length := by
  unfold octL at h
  split at h
  · rw [← Option.some.inj h]; exact B6.loose_length t
  · split at h
    · rw [← Option.some.inj h]; have := Q4.plain_length (blankU t); rw [blankU_length] at this; exact this
    · cases h
theorem set_len {a o x : List UInt8} (h : setL a o = some x) : x.length ≤ 2 * o.length := by
  unfold setL at h
  split at h
  · split at h
    · rw [← Option.some.inj h]; omega
    · cases h
  · split at h
    · rw [← Option.some.inj h]; exact latin_len o
    · cases h
theorem says_len {a k t x : List UInt8} (h : saysL a k t = some x) : x.length ≤ 2 * t.length := by
  unfold saysL at h
  cases ho : octL k t with
  | none => rw [ho] at h; cases h
  | some o => rw [ho] at h; have := oct_len ho; have := set_len h; omega
theorem says_way {a k t x : List UInt8} (h : saysL a k t = some x) : wayB k = true ∨ wayQ k = true := by
  unfold saysL octL at h
  cases h1 : wayB k
  · cases h2 : wayQ k
    · simp [h1, h2] at h
    · exact Or.inr rfl
  · exact Or.inl rfl

/-! ### A word at the beginning -/
/-- What stands behind the two signs that begin a word. -/
def tailL (r : List UInt8) : Option (List UInt8 × Nat) :=
  match cutQ r with
  | none => none
  | some (a, r1) => if visL a then (match cutQ r1 with
    | none => none
    | some (k, r2) => if visL k then (match cutQ r2 with
      | none => none
      | some (t, r3) => if visL t && (r3.head? == some 61) then (saysL a k t).map (fun x => (x, a.length + k.length + t.length + 6)) else none) else none) else none
def oneL (l : List UInt8) : Option (List UInt8 × Nat) := if l.take 2 = [61, 63] then tailL (l.drop 2) else none
theorem one_no {l : List UInt8} (h : l.take 2 ≠ [61, 63]) : oneL l = none := if_neg h
theorem one_yes (r : List UInt8) : oneL (61 :: 63 :: r) = tailL r := if_pos rfl
theorem one_nil : oneL [] = none := rfl
theorem one_ne {c : UInt8} (h : c ≠ 61) (r : List UInt8) : oneL (c :: r) = none := by
  apply one_no
  cases r with
  | nil => simp
  | cons d r => simp [h]
/-- No question mark, or what is not visible ahead of it. -/
theorem tail_no0 {r : List UInt8} (h : ∀ c ∈ r, c ≠ 63) : tailL r = none := by unfold tailL; rw [cutQ_none h]
theorem tail_bad0 {a r : List UInt8} (h : ∀ c ∈ a, c ≠ 63) (hv : visL a = false) : tailL (a ++ 63 :: r) = none := by unfold tailL; rw [cutQ_some r h]; simp [hv]
theorem tail_no1 {a r : List UInt8} (h : ∀ c ∈ a, c ≠ 63) (h1 : ∀ c ∈ r, c ≠ 63) : tailL (a ++ 63 :: r) = none := by
  unfold tailL; rw [cutQ_some r h]; simp only [cutQ_none h1]; simp
theorem tail_bad1 {a k r : List UInt8} (h : ∀ c ∈ a, c ≠ 63) (h1 : ∀ c ∈ k, c ≠ 63) (hv : visL k = false) : tailL (a ++ 63 :: (k ++ 63 :: r)) = none := by
  unfold tailL; rw [cutQ_some _ h]; simp only [cutQ_some r h1]; simp [hv]
theorem tail_no2 {a k r : List UInt8} (h : ∀ c ∈ a, c ≠ 63) (h1 : ∀ c ∈ k, c ≠ 63) (h2 : ∀ c ∈ r, c ≠ 63) : tailL (a ++ 63 :: (k ++ 63 :: r)) = none := by
  unfold tailL; rw [cutQ_some _ h]; simp only [cutQ_some r h1, cutQ_none h2]; simp
theorem tail_bad2 {a k t r : List UInt8} (h : ∀ c ∈ a, c ≠ 63) (h1 : ∀ c ∈ k, c ≠ 63) (h2 : ∀ c ∈ t, c ≠ 63) (hv : visL t = false) : tailL (a ++ 63 :: (k ++ 63 :: (t ++ 63 :: r))) = none := by
  unfold tailL; rw [cutQ_some _ h]; simp only [cutQ_some _ h1, cutQ_some r h2]; simp [hv]
theorem tail_open {a k t r : List UInt8} (h : ∀ c ∈ a, c ≠ 63) (h1 : ∀ c ∈ k, c ≠ 63) (h2 : ∀ c ∈ t, c ≠ 63) (hv : r.head? ≠ some 61) : tailL (a ++ 63 :: (k ++ 63 :: (t ++ 63 :: r))) = none := by
  unfold tailL; rw [cutQ_some _ h]; simp only [cutQ_some _ h1, cutQ_some r h2]; simp [hv]
theorem tail_full {a k t : List UInt8} (r : List UInt8) (h : ∀ c ∈ a, c ≠ 63) (h1 : ∀ c ∈ k, c ≠ 63) (h2 : ∀ c ∈ t, c ≠ 63) (v : visL a = true) (v1 : visL k = true) (v2 : visL t = true) :
    tailL (a ++ 63 :: (k ++ 63 :: (t ++ 63 :: 61 :: r))) = (saysL a k t).map (fun x => (x, a.length + k.length + t.length + 6)) := by
  unfold tailL; rw [cutQ_some _ h]; simp only [cutQ_some _ h1, cutQ_some _ h2]; simp [v, v1, v2]
theorem tail_mute {a k : List UInt8} (r : List UInt8) (h : ∀ c ∈ a, c ≠ 63) (h1 : ∀ c ∈ k, c ≠ 63) (hw : wayB k = false) (hq : wayQ k = false) : tailL (a ++ 63 :: (k ++ 63 :: r)) = none := by
  unfold tailL
  rw [cutQ_some _ h]
  simp only [cutQ_some _ h1]
  have e : ∀ t, saysL a k t = none := fun t => by unfold saysL octL; simp [hw, hq]
  cases cutQ r with
  | none => simp
  | some p => obtain ⟨t, r3⟩ := p; simp [e]
theorem tail_back {r x : List UInt8} {n : Nat} (h : tailL r = some (x, n)) : ∃ a k t r3, r = a ++ 63 :: (k ++ 63 :: (t ++ 63 :: 61 :: r3)) ∧ saysL a k t = some x ∧ n = a.length + k.length + t.length + 6 ∧ ((∀ c ∈ a, c ≠ 63) ∧ visL a = true) ∧ ((∀ c ∈ k, c ≠ 63) ∧ visL k = true) ∧ (∀ c ∈ t, c ≠ 63) ∧ visL t = true := by
  unfold tailL at h
  cases h0 : cutQ r with
  | none => rw [h0] at h; cases h
  | some p =>
    obtain ⟨a, r1⟩ := p
    rw [h0] at h
    simp only at h
    split at h
    · rename_i va
      cases h1 : cutQ r1 with
      | none => rw [h1] at h; cases h
      | some p =>
        obtain ⟨k, r2⟩ := p
        rw [h1] at h
        simp only at h
        split at h
        · rename_i vk
          cases h2 : cutQ r2 with
          | none => rw [h2] at h; cases h
          | some p =>
            obtain ⟨t, r3⟩ := p
            rw [h2] at h
            simp only at h
            split at h
            · rename_i hv
              obtain ⟨vt, hv⟩ := Bool.and_eq_true_iff.1 hv
              cases r3 with
              | nil => simp at hv
              | cons d r3 =>
                have hd : d = 61 := by simpa using hv
                cases hs : saysL a k t with
                | none => rw [hs] at h; cases h
                | some y =>
                  rw [hs] at h
                  obtain ⟨rfl, rfl⟩ : y = x ∧ a.length + k.length + t.length + 6 = n := by simpa using h
                  exact ⟨a, k, t, r3, by rw [(cutQ_back h0).1, (cutQ_back h1).1, (cutQ_back h2).1, hd], hs, rfl, ⟨(cutQ_back h0).2, va⟩, ⟨(cutQ_back h1).2, vk⟩, (cutQ_back h2).2, vt⟩
            · cases h
        · cases h
    · cases h
theorem one_back {l x : List UInt8} {n : Nat} (h : oneL l = some (x, n)) : 6 ≤ n ∧ n ≤ l.length ∧ x.length ≤ 2 * n := by
  unfold oneL at h
  split at h
  · rename_i h2
    obtain ⟨a, k, t, r3, e, hs, rfl, -⟩ := tail_back h
    have hx := says_len hs
    have hl : l.length = 2 + (l.drop 2).length := by
      have : 2 ≤ l.length := by
        have := congrArg List.length h2
        rw [List.length_take] at this
        simp at this
        omega
      rw [List.length_drop]; omega
    rw [e] at hl
    simp only [List.length_append, List.length_cons] at hl
    omega
  · cases h

/-! ### The first word -/
def findL : List UInt8 → Option (List UInt8 × List UInt8 × List UInt8)
  | [] => none
  | c :: r => match oneL (c :: r) with
    | some (x, n) => some ([], x, (c :: r).drop n)
    | none => (findL r).map (fun p => (c :: p.1, p.2.1, p.2.2))
theorem find_here {l x : List UInt8} {n : Nat} (h : oneL l = some (x, n)) : findL l = some ([], x, l.drop n) := by
  cases l with
  | nil => cases h
  | cons c r => rw [findL, h]
theorem find_next {c : UInt8} {r : List UInt8} (h : oneL (c :: r) = none) : findL (c :: r) = (findL r).map (fun p => (c :: p.1, p.2.1, p.2.2)) := by rw [findL, h]
theorem find_ahead : ∀ (g r : List UInt8) (_ : ∀ j, j < g.length → oneL ((g ++ r).drop j) = none), findL (g ++ r) = (findL r).map (fun p => (g ++ p.1, p.2.1, p.2.2))
  | [], r, _ => by cases h : findL r <;> simp [h]
  | c :: g, r, h => by
    have h0 := h 0 (by simp)
    rw [List.cons_append, find_next (by simpa using h0), find_ahead g r (fun j hj => by have := h (j + 1) (by simpa using hj); simpa using this)]
    cases findL r <;> simp
theorem find_nil : findL [] = none := rfl
theorem find_none (l : List UInt8) (h : ∀ j, j < l.length → oneL (l.drop j) = none) : findL l = none := by
  have := find_ahead l [] (by simpa using h)
  simpa [find_nil] using this
theorem find_some {l x : List UInt8} {k n : Nat} (hk : k ≤ l.length) (h : ∀ j, j < k → oneL (l.drop j) = none) (h1 : oneL (l.drop k) = some (x, n)) : findL l = some (l.take k, x, l.drop (k + n)) := by
  have e : l.take k ++ l.drop k = l := List.take_append_drop k l
  have := find_ahead (l.take k) (l.drop k) (by rw [e, List.length_take]; intro j hj; exact h j (by omega))
  rw [e, find_here h1] at this
  rw [this]
  simp [List.drop_drop]
theorem find_back : ∀ {l g x r : List UInt8} (_ : findL l = some (g, x, r)), ∃ n, l = g ++ l.drop g.length ∧ oneL (l.drop g.length) = some (x, n) ∧ r = l.drop (g.length + n)
  | [], g, x, r, h => by cases h
  | c :: l, g, x, r, h => by
    cases h1 : oneL (c :: l) with
    | some p =>
      obtain ⟨y, n⟩ := p
      rw [find_here h1] at h
      obtain ⟨rfl, rfl, rfl⟩ : [] = g ∧ y = x ∧ (c :: l).drop n = r := by simpa using h
      exact ⟨n, by simp, by simpa using h1, by simp⟩
    | none =>
      rw [find_next h1] at h
      cases h2 : findL l with
      | none => rw [h2] at h; cases h
      | some p =>
        obtain ⟨g', y, r'⟩ := p
        rw [h2] at h
        obtain ⟨rfl, rfl, rfl⟩ : c :: g' = g ∧ y = x ∧ r' = r := by simpa using h
        obtain ⟨n, e1, e2, e3⟩ := find_back h2
        refine ⟨n, ?_, by simpa using e2, ?_⟩
        · rw [List.length_cons, List.drop_succ_cons, List.cons_append, ← e1]
        · rw [e3, List.length_cons, show g'.length + 1 + n = g'.length + n + 1 by omega, List.drop_succ_cons]
theorem find_len {l g x r : List UInt8} (h : findL l = some (g, x, r)) : g.length + r.length + 6 ≤ l.length ∧ g.length + x.length + 2 * r.length ≤ 2 * l.length := by
  obtain ⟨n, e1, e2, e3⟩ := find_back h
  obtain ⟨a1, a2, a3⟩ := one_back e2
  have h1 : l.length = g.length + (l.drop g.length).length := by have := congrArg List.length e1; rw [List.length_append] at this; exact this
  rw [List.length_drop] at h1 a2
  have h2 : r.length = l.length - (g.length + n) := by rw [e3, List.length_drop]
  omega
/-- Where no sign of equality stands there is no word. -/
theorem find_plain : ∀ (l : List UInt8) (_ : ∀ c ∈ l, c ≠ 61), findL l = none
  | [], _ => rfl
  | c :: r, h => by rw [find_next (one_ne (h c (by simp)) r), find_plain r (fun x hx => h x (by simp [hx]))]; rfl

/-! ### A list with its words turned -/
def blankB (c : UInt8) : Bool := c == 32 || c == 9
def blankL (l : List UInt8) : Bool := l.all blankB
def decF : Nat → Bool → List UInt8 → List UInt8
  | 0, _, l => l
  | f + 1, b, l => match findL l with
    | none => l
    | some (g, x, r) => (if b || !blankL g then g else []) ++ (x ++ decF f false r)
def decW (b : Bool) (l : List UInt8) : List UInt8 := decF (l.length + 1) b l
theorem decF_more : ∀ (f h : Nat) (b : Bool) (l : List UInt8), l.length < f → l.length < h → decF f b l = decF h b l
  | 0, h, b, l, hf, _ => by omega
  | f + 1, 0, b, l, _, hh => by omega
  | f + 1, h + 1, b, l, hf, hh => by
    rw [decF, decF]
    cases e : findL l with
    | none => rfl
    | some p =>
      obtain ⟨g, x, r⟩ := p
      have := find_len e
      simp only
      rw [decF_more f h false r (by omega) (by omega)]
theorem decW_none {l : List UInt8} (b : Bool) (h : findL l = none) : decW b l = l := by rw [decW, decF, h]
theorem decW_some {l g x r : List UInt8} (b : Bool) (h : findL l = some (g, x, r)) : decW b l = (if b || !blankL g then g else []) ++ (x ++ decW false r) := by
  have := find_len h
  rw [decW, decF, h]
  simp only
  rw [decF_more l.length (r.length + 1) false r (by omega) (by omega)]
  rfl
theorem decW_nil (b : Bool) : decW b [] = [] := decW_none b rfl
theorem decW_len : ∀ (n : Nat) (b : Bool) (l : List UInt8), l.length ≤ n → (decW b l).length ≤ 2 * l.length
  | 0, b, l, h => by
    obtain rfl : l = [] := List.length_eq_zero_iff.1 (by omega)
    rw [decW_nil]; simp
  | n + 1, b, l, h => by
    cases e : findL l with
    | none => rw [decW_none b e]; omega
    | some p =>
      obtain ⟨g, x, r⟩ := p
      have h1 := find_len e
      have ih := decW_len n false r (by omega)
      rw [decW_some b e, List.length_append, List.length_append]
      have h2 : (if b || !blankL g then g else []).length ≤ g.length := by split <;> simp
      omega

/-! ### As the document's answer goes: byte by byte, blanks behind a word held back -/
/-- Behind a word, and g, blanks alone. -/
def heldW (g l : List UInt8) : List UInt8 :=
  match findL l with
  | none => g ++ l
  | some (h, x, r) => (if blankL (g ++ h) then [] else g ++ h) ++ (x ++ decW false r)
theorem held_nil (l : List UInt8) : heldW [] l = decW false l := by
  unfold heldW
  cases e : findL l with
  | none => rw [decW_none _ e]; rfl
  | some p =>
    obtain ⟨h, x, r⟩ := p
    rw [decW_some _ e]
    simp only [List.nil_append, Bool.false_or]
    cases blankL h <;> simp
theorem held_end (g : List UInt8) : heldW g [] = g := by unfold heldW; rw [find_nil]; simp
theorem held_word {g l x : List UInt8} {n : Nat} (hg : blankL g = true) (h : oneL l = some (x, n)) : heldW g l = x ++ decW false (l.drop n) := by
  unfold heldW
  rw [find_here h]
  simp [hg]
theorem blank_app (a b : List UInt8) : blankL (a ++ b) = (blankL a && blankL b) := by simp [blankL]
theorem held_blank {c : UInt8} (g r : List UInt8) (h : oneL (c :: r) = none) : heldW g (c :: r) = heldW (g ++ [c]) r := by
  unfold heldW
  rw [find_next h]
  cases findL r with
  | none => simp
  | some p => obtain ⟨a, x, q⟩ := p; simp
theorem held_other {c : UInt8} (g r : List UInt8) (h : oneL (c :: r) = none) (hc : blankB c = false) : heldW g (c :: r) = g ++ [c] ++ decW true r := by
  rw [held_blank g r h]
  unfold heldW
  cases e : findL r with
  | none => rw [decW_none _ e]
  | some p =>
    obtain ⟨a, x, q⟩ := p
    rw [decW_some _ e]
    have : blankL (g ++ [c] ++ a) = false := by rw [blank_app, blank_app]; simp [blankL, hc]
    simp only [this]
    simp
theorem dec_word {l x : List UInt8} {n : Nat} (b : Bool) (h : oneL l = some (x, n)) : decW b l = x ++ decW false (l.drop n) := by
  rw [decW_some b (find_here h)]
  simp
theorem dec_step {c : UInt8} (r : List UInt8) (h : oneL (c :: r) = none) : decW true (c :: r) = c :: decW true r := by
  cases e : findL r with
  | none => rw [decW_none _ e, decW_none _ (by rw [find_next h, e]; rfl)]
  | some p =>
    obtain ⟨a, x, q⟩ := p
    rw [decW_some _ e, decW_some _ (by rw [find_next h, e]; rfl)]
    simp

/-! ### Blanks at the ends -/
theorem drop_all (p : UInt8 → Bool) : ∀ l : List UInt8, l.dropWhile p = [] ↔ l.all p = true
  | [] => by simp
  | c :: r => by
    rw [List.dropWhile_cons]
    cases h : p c
    · simp [h]
    · simp only [if_true, List.all_cons, h, Bool.true_and]; exact drop_all p r
end Go.Proofs.YtnnbbjdidbggmaaGreatDoor.Wd
