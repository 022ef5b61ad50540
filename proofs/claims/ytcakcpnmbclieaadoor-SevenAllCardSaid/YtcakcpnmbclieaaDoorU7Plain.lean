/-
  Plain facts on names of mailboxes: a text's code points, rows of UTF-16 in base64, what a name tells, that it gives back, that names are printable, of two texts put together. No program in this text. Conditions: none.
-/
import Derived.Test.YtcakcpnmbclieaaDoorU8Plain
import Derived.Test.YtcakcpnmbclieaaDoorB6Plain
namespace Go.Proofs.YtcakcpnmbclieaaDoor.U7
open Go
open U8 (putL decL validL sizeN decL_some decL_put decL_append validL_some validL_none validL_append valid_induct putL_length)
open B6 (letL sg six looseL)

/-! ### Code points of a text -/
def ptsF : Nat → List UInt8 → List Nat
  | 0, _ => []
  | f + 1, l => match decL l with
    | none => []
    | some (r, n) => r :: ptsF f (l.drop n)
def ptsL (l : List UInt8) : List Nat := ptsF l.length l
theorem ptsF_more : ∀ (f g : Nat) (l : List UInt8), l.length ≤ f → l.length ≤ g → ptsF f l = ptsF g l
  | 0, 0, _, _, _ => rfl
  | 0, g + 1, l, h, _ => by
    have : l = [] := List.length_eq_zero_iff.1 (by omega)
    subst this
    rfl
  | f + 1, 0, l, _, h => by
    have : l = [] := List.length_eq_zero_iff.1 (by omega)
    subst this
    rfl
  | f + 1, g + 1, l, hf, hg => by
    unfold ptsF
    cases h : decL l with
    | none => rfl
    | some p =>
      obtain ⟨r, n⟩ := p
      obtain ⟨_, h2, h3, _⟩ := decL_some h
      simp only
      rw [ptsF_more f g _ (by rw [List.length_drop]; omega) (by rw [List.length_drop]; omega)]
theorem pts_nil : ptsL [] = [] := rfl
theorem pts_none {l : List UInt8} (h : decL l = none) : ptsL l = [] := by
  unfold ptsL
  cases l with
  | nil => rfl
  | cons c t => show ptsF (t.length + 1) _ = _; rw [ptsF, h]
theorem pts_some {l : List UInt8} {r n : Nat} (h : decL l = some (r, n)) : ptsL l = r :: ptsL (l.drop n) := by
  obtain ⟨_, h2, h3, _⟩ := decL_some h
  unfold ptsL
  cases l with
  | nil => cases h
  | cons c t =>
    show ptsF (t.length + 1) _ = _
    rw [show ptsF (t.length + 1) (c :: t) = r :: ptsF t.length ((c :: t).drop n) by rw [ptsF, h]]
    rw [ptsF_more t.length ((c :: t).drop n).length _ (by rw [List.length_drop]; simp; omega) (Nat.le_refl _)]
/-- The bytes of code points. -/
def putsL : List Nat → List UInt8
  | [] => []
  | r :: rs => putL (r : Int) ++ putsL rs
theorem puts_append (a b : List Nat) : putsL (a ++ b) = putsL a ++ putsL b := by
  induction a with
  | nil => rfl
  | cons r a ih => rw [List.cons_append, putsL, ih, putsL, List.append_assoc]
def Scalar (r : Nat) : Prop := sizeN (r : Int) ≠ 0
theorem scalar_iff (r : Nat) : Scalar r ↔ ¬ (55296 ≤ r ∧ r ≤ 57343) ∧ r ≤ 1114111 := by
  unfold Scalar
  rw [Ne, U8.sizeN_none]
  omega
theorem pts_scalar (l : List UInt8) (hv : validL l = true) : ∀ r ∈ ptsL l, Scalar r := by
  refine valid_induct (P := fun l => ∀ r ∈ ptsL l, Scalar r) (by simp [pts_nil]) ?_ l hv
  intro l r n h _ ih x hx
  rw [pts_some h] at hx
  rcases List.mem_cons.1 hx with rfl | hx
  · obtain ⟨h1, h2, _⟩ := decL_some h
    unfold Scalar
    rw [h1]
    exact h2
  · exact ih x hx
theorem puts_pts (l : List UInt8) (hv : validL l = true) : putsL (ptsL l) = l := by
  refine valid_induct (P := fun l => putsL (ptsL l) = l) rfl ?_ l hv
  intro l r n h _ ih
  obtain ⟨_, _, _, h4⟩ := decL_some h
  rw [pts_some h, putsL, ih, ← h4, List.take_append_drop]
theorem pts_append (l t : List UInt8) (hv : validL l = true) : ptsL (l ++ t) = ptsL l ++ ptsL t := by
  refine valid_induct (P := fun l => ptsL (l ++ t) = ptsL l ++ ptsL t) rfl ?_ l hv
  intro l r n h _ ih
  obtain ⟨_, _, h3, _⟩ := decL_some h
  rw [pts_some (decL_append h t), U8.drop_append h3, ih, pts_some h]
  rfl
theorem dec_puts (r : Nat) (rs : List Nat) (h : Scalar r) : decL (putsL (r :: rs)) = some (r, sizeN (r : Int)) := by
  rw [putsL, decL_put (r : Int) h]
  simp
theorem valid_puts : ∀ (rs : List Nat), (∀ r ∈ rs, Scalar r) → validL (putsL rs) = true
  | [], _ => rfl
  | r :: rs, h => by
    rw [putsL, validL_append _ _ (U8.validL_put _)]
    exact valid_puts rs (fun x hx => h x (List.mem_cons_of_mem _ hx))
theorem pts_puts : ∀ (rs : List Nat), (∀ r ∈ rs, Scalar r) → ptsL (putsL rs) = rs
  | [], _ => rfl
  | r :: rs, h => by
    have hr := h r List.mem_cons_self
    rw [pts_some (dec_puts r rs hr), putsL, ← putL_length, List.drop_append_of_le_length (Nat.le_refl _), List.drop_length, List.nil_append, pts_puts rs (fun x hx => h x (List.mem_cons_of_mem _ hx))]

/-! ### Rows -/
def com (c : UInt8) : UInt8 := if c = 47 then 44 else c
def uncom (c : UInt8) : UInt8 := if c = 44 then 47 else c
/-- A code point in UTF-16, the higher byte first. -/
def u16 (r : Nat) : List UInt8 :=
  if 65535 < r then [UInt8.ofNat ((55296 + (r - 65536) / 1024) / 256), UInt8.ofNat ((55296 + (r - 65536) / 1024) % 256), UInt8.ofNat ((56320 + (r - 65536) % 1024) / 256), UInt8.ofNat ((56320 + (r - 65536) % 1024) % 256)]
  else [UInt8.ofNat (r / 256), UInt8.ofNat (r % 256)]
def u16s : List Nat → List UInt8
  | [] => []
  | r :: rs => u16 r ++ u16s rs
theorem u16s_snoc (a : List Nat) (r : Nat) : u16s (a ++ [r]) = u16s a ++ u16 r := by
  induction a with
  | nil => simp [u16s]
  | cons x a ih => rw [List.cons_append, u16s, ih, u16s, List.append_assoc]
theorem u16_ne (r : Nat) : u16 r ≠ [] := by unfold u16; split <;> simp
theorem u16_len (r : Nat) : (u16 r).length ≤ 4 ∧ 1 ≤ (u16 r).length := by unfold u16; split <;> simp
/-- The letters of a row between its signs; of none nothing. -/
def rowL (row : List UInt8) : List UInt8 := if row = [] then [] else 38 :: ((letL row).map com ++ [45])
theorem row_nil : rowL [] = [] := rfl
theorem row_cons {row : List UInt8} (h : row ≠ []) : rowL row = 38 :: ((letL row).map com ++ [45]) := by rw [rowL, if_neg h]
def litL (r : Nat) : List UInt8 := if r = 38 then [38, 45] else [UInt8.ofNat r]
def plainP (r : Nat) : Bool := decide (32 ≤ r) && decide (r ≤ 126)
/-- The name, of a row that is open, and what follows. -/
def nameP : List UInt8 → List Nat → List UInt8
  | row, [] => rowL row
  | row, r :: rs => if plainP r then rowL row ++ (litL r ++ nameP [] rs) else nameP (row ++ u16 r) rs
theorem name_nil (row : List UInt8) : nameP row [] = rowL row := by rw [nameP]
theorem name_plain (row : List UInt8) {r : Nat} (h : plainP r = true) (rs : List Nat) : nameP row (r :: rs) = rowL row ++ (litL r ++ nameP [] rs) := by rw [nameP, if_pos h]
theorem name_other (row : List UInt8) {r : Nat} (h : plainP r = false) (rs : List Nat) : nameP row (r :: rs) = nameP (row ++ u16 r) rs := by rw [nameP, h]; rfl
def encU (l : List UInt8) : Option (List UInt8) := if validL l then some (nameP [] (ptsL l)) else none
theorem enc_valid {l : List UInt8} (h : validL l = true) : encU l = some (nameP [] (ptsL l)) := by rw [encU, if_pos h]
theorem enc_not {l : List UInt8} (h : validL l = false) : encU l = none := by rw [encU, h]; rfl
theorem enc_some {l x : List UInt8} (h : encU l = some x) : validL l = true ∧ nameP [] (ptsL l) = x := by
  unfold encU at h
  split at h
  · rename_i hv
    exact ⟨hv, Option.some.inj h⟩
  · cases h
/-- A printable byte between. -/
theorem name_mid {m : Nat} (hm : plainP m = true) (b : List Nat) : ∀ (a : List Nat) (row : List UInt8), nameP row (a ++ m :: b) = nameP row a ++ (litL m ++ nameP [] b)
  | [], row => by rw [List.nil_append, name_plain row hm, name_nil]
  | r :: a, row => by
    rw [List.cons_append]
    cases h : plainP r with
    | true => rw [name_plain row h, name_plain row h, name_mid hm b a [], List.append_assoc, List.append_assoc]
    | false => rw [name_other row h, name_other row h, name_mid hm b a]
theorem row_len (row : List UInt8) : (rowL row).length ≤ 2 * row.length + 3 := by
  by_cases h : row = []
  · subst h; simp [row_nil]
  · rw [row_cons h]
    simp only [List.length_cons, List.length_append, List.length_map, B6.letL_length, List.length_nil]
    omega
theorem lit_len (r : Nat) : (litL r).length ≤ 2 := by unfold litL; split <;> simp
theorem name_len : ∀ (ps : List Nat) (row : List UInt8), (nameP row ps).length ≤ 2 * row.length + 3 + 12 * ps.length
  | [], row => by rw [name_nil]; have := row_len row; simp; omega
  | r :: ps, row => by
    cases h : plainP r with
    | true =>
      have ih := name_len ps []
      have h3 := row_len row
      have h4 := lit_len r
      rw [name_plain row h, List.length_append, List.length_append, List.length_cons]
      simp only [List.length_nil] at ih
      omega
    | false =>
      have h2 := u16_len r
      have ih := name_len ps (row ++ u16 r)
      rw [name_other row h, List.length_cons]
      rw [List.length_append] at ih
      omega
theorem ptsF_len : ∀ (f : Nat) (l : List UInt8), (ptsF f l).length ≤ l.length
  | 0, _ => by simp [ptsF]
  | f + 1, l => by
    unfold ptsF
    cases h : decL l with
    | none => simp
    | some p =>
      obtain ⟨r, n⟩ := p
      obtain ⟨_, h2, h3, _⟩ := decL_some h
      have := ptsF_len f (l.drop n)
      rw [List.length_drop] at this
      simp only [List.length_cons]
      omega
theorem pts_len (l : List UInt8) : (ptsL l).length ≤ l.length := ptsF_len _ _
theorem name_size (l : List UInt8) : (nameP [] (ptsL l)).length ≤ 12 * l.length + 3 := by
  have h1 := name_len (ptsL l) []
  have h2 := pts_len l
  simp only [List.length_nil] at h1
  omega

/-! ### Letters of a row -/
theorem letter_all : ∀ k, k < 64 → com (sg k) ≠ 45 ∧ uncom (com (sg k)) = sg k ∧ 33 ≤ (com (sg k)).toNat ∧ (com (sg k)).toNat ≤ 126 := by decide +kernel
theorem letter_in {row : List UInt8} {c : UInt8} (h : c ∈ (letL row).map com) : c ≠ 45 ∧ 33 ≤ c.toNat ∧ c.toNat ≤ 126 := by
  obtain ⟨x, hx, rfl⟩ := List.mem_map.1 h
  obtain ⟨k, hk, rfl⟩ := List.mem_map.1 hx
  obtain ⟨h1, _, h3, h4⟩ := letter_all k (B6.six_lt row k hk)
  exact ⟨h1, h3, h4⟩
theorem letters_back (row : List UInt8) : ((letL row).map com).map uncom = letL row := by
  rw [List.map_map]
  unfold letL
  rw [List.map_map]
  apply List.map_congr_left
  intro k hk
  exact (letter_all k (B6.six_lt row k hk)).2.1
theorem loose_letters (row : List UInt8) : looseL (letL row) = row := by
  have h : B6.sx (letL row) = six row := by
    have := B6.ahead_none (B6.letL_ne row) []
    rw [List.append_nil] at this
    unfold B6.sx
    rw [this, show B6.ahead [] = [] from rfl, List.append_nil]
    exact B6.vals_map _ (B6.six_lt row)
  rw [looseL, h, B6.unsix_six]
theorem let_ne {row : List UInt8} (h : row ≠ []) : (letL row).map com ≠ [] := by
  intro e
  have := congrArg List.length e
  rw [List.length_map, B6.letL_length] at this
  cases row with
  | nil => exact h rfl
  | cons c r => simp at this

/-! ### Names are printable -/
def Print (l : List UInt8) : Prop := ∀ c ∈ l, 32 ≤ c.toNat ∧ c.toNat ≤ 126
theorem print_append {a b : List UInt8} (ha : Print a) (hb : Print b) : Print (a ++ b) := by
  intro c hc
  rcases List.mem_append.1 hc with h | h
  · exact ha c h
  · exact hb c h
theorem print_row (row : List UInt8) : Print (rowL row) := by
  unfold rowL
  split
  · intro c hc; cases hc
  · intro c hc
    rcases List.mem_cons.1 hc with rfl | hc
    · decide
    · rcases List.mem_append.1 hc with hc | hc
      · have := letter_in hc
        omega
      · simp only [List.mem_singleton] at hc
        subst hc
        decide
theorem print_lit {r : Nat} (h : plainP r = true) : Print (litL r) := by
  unfold plainP at h
  simp only [Bool.and_eq_true, decide_eq_true_eq] at h
  unfold litL
  split
  · intro c hc
    simp at hc
    rcases hc with rfl | rfl <;> decide
  · intro c hc
    simp only [List.mem_singleton] at hc
    subst hc
    simp
    omega
theorem print_name : ∀ (ps : List Nat) (row : List UInt8), Print (nameP row ps)
  | [], row => by rw [name_nil]; exact print_row row
  | r :: ps, row => by
    cases h : plainP r with
    | true => rw [name_plain row h]; exact print_append (print_row row) (print_append (print_lit h) (print_name ps []))
    | false => rw [name_other row h]; exact print_name ps _

/-! ### What a row says -/
def un16 : List UInt8 → List UInt8
  | a :: b :: c :: d :: r =>
    if (55296 ≤ a.toNat * 256 + b.toNat ∧ a.toNat * 256 + b.toNat ≤ 56319) ∧ 56320 ≤ c.toNat * 256 + d.toNat ∧ c.toNat * 256 + d.toNat ≤ 57343 then
      putL ((65536 + (a.toNat * 256 + b.toNat - 55296) * 1024 + (c.toNat * 256 + d.toNat - 56320) : Nat) : Int) ++ un16 r
    else putL ((a.toNat * 256 + b.toNat : Nat) : Int) ++ un16 (c :: d :: r)
  | [a, b, _] => putL ((a.toNat * 256 + b.toNat : Nat) : Int)
  | [a, b] => putL ((a.toNat * 256 + b.toNat : Nat) : Int)
  | [_] => []
  | [] => []
def backL (s : List UInt8) : List UInt8 := un16 (looseL (s.map uncom))
theorem ofNat_u8 {x : Nat} (h : x < 256) : (UInt8.ofNat x).toNat = x := by simp; omega
theorem un16_one {a b : UInt8} (h : ¬ (55296 ≤ a.toNat * 256 + b.toNat ∧ a.toNat * 256 + b.toNat ≤ 56319)) (r : List UInt8) : un16 (a :: b :: r) = putL ((a.toNat * 256 + b.toNat : Nat) : Int) ++ un16 r := by
  rcases r with _ | ⟨c, _ | ⟨d, r⟩⟩
  · simp [un16]
  · simp [un16]
  · rw [un16, if_neg (fun e => h e.1)]
theorem un16_u16 (r : Nat) (h : Scalar r) (t : List UInt8) : un16 (u16 r ++ t) = putL (r : Int) ++ un16 t := by
  have hs := (scalar_iff r).1 h
  unfold u16
  by_cases h1 : 65535 < r
  · rw [if_pos h1]
    show un16 (_ :: _ :: _ :: _ :: t) = _
    rw [un16, ofNat_u8 (by omega), ofNat_u8 (by omega), ofNat_u8 (by omega), ofNat_u8 (by omega), if_pos (by omega),
      show 65536 + ((55296 + (r - 65536) / 1024) / 256 * 256 + (55296 + (r - 65536) / 1024) % 256 - 55296) * 1024 + ((56320 + (r - 65536) % 1024) / 256 * 256 + (56320 + (r - 65536) % 1024) % 256 - 56320) = r by omega]
  · rw [if_neg h1]
    show un16 (_ :: _ :: t) = _
    rw [un16_one (by rw [ofNat_u8 (by omega), ofNat_u8 (by omega)]; omega), ofNat_u8 (by omega), ofNat_u8 (by omega), show r / 256 * 256 + r % 256 = r by omega]
theorem un16_u16s : ∀ (ps : List Nat), (∀ r ∈ ps, Scalar r) → un16 (u16s ps) = putsL ps
  | [], _ => by simp [u16s, un16, putsL]
  | r :: ps, h => by
    rw [u16s, un16_u16 r (h r List.mem_cons_self), putsL, un16_u16s ps (fun x hx => h x (List.mem_cons_of_mem _ hx))]

/-! ### What a name says -/
/-- Ahead of the first '-', and behind it. -/
def dashL : List UInt8 → Option (List UInt8 × List UInt8)
  | [] => none
  | c :: r => if c = 45 then some ([], r) else match dashL r with
    | none => none
    | some (a, b) => some (c :: a, b)
theorem dash_len : ∀ {l a b : List UInt8}, dashL l = some (a, b) → a.length + b.length + 1 = l.length
  | [], _, _, h => by cases h
  | c :: r, a, b, h => by
    unfold dashL at h
    split at h
    · simp only [Option.some.injEq, Prod.mk.injEq] at h
      obtain ⟨rfl, rfl⟩ := h
      simp
    · cases e : dashL r with
      | none => rw [e] at h; cases h
      | some p =>
        obtain ⟨x, y⟩ := p
        rw [e] at h
        simp only [Option.some.injEq, Prod.mk.injEq] at h
        obtain ⟨rfl, rfl⟩ := h
        have := dash_len e
        simp only [List.length_cons]
        omega
theorem dash_at : ∀ {a : List UInt8}, (∀ c ∈ a, c ≠ 45) → ∀ (b : List UInt8), dashL (a ++ 45 :: b) = some (a, b)
  | [], _, b => by rw [List.nil_append, dashL, if_pos rfl]
  | c :: a, h, b => by
    rw [List.cons_append, dashL, if_neg (h c List.mem_cons_self), dash_at (fun x hx => h x (List.mem_cons_of_mem _ hx)) b]
theorem dash_none : ∀ {a : List UInt8}, (∀ c ∈ a, c ≠ 45) → dashL a = none
  | [], _ => rfl
  | c :: a, h => by rw [dashL, if_neg (h c List.mem_cons_self), dash_none (fun x hx => h x (List.mem_cons_of_mem _ hx))]
/-- What stands there, whether it is a name or not; none where a row is open. -/
def saysF : Nat → List UInt8 → Option (List UInt8)
  | _, [] => some []
  | 0, _ :: _ => none
  | f + 1, c :: r => if c ≠ 38 then (saysF f r).map (c :: ·) else match dashL r with
    | none => none
    | some (a, b) => (saysF f b).map ((if a = [] then [38] else backL a) ++ ·)
def saysL (l : List UInt8) : Option (List UInt8) := saysF l.length l
theorem saysF_more : ∀ (f g : Nat) (l : List UInt8), l.length ≤ f → l.length ≤ g → saysF f l = saysF g l
  | f, g, [], _, _ => by cases f <;> cases g <;> rfl
  | 0, _, c :: r, h, _ => by simp at h
  | _ + 1, 0, c :: r, _, h => by simp at h
  | f + 1, g + 1, c :: r, hf, hg => by
    simp only [List.length_cons] at hf hg
    unfold saysF
    split
    · rw [saysF_more f g r (by omega) (by omega)]
    · cases e : dashL r with
      | none => rfl
      | some p =>
        obtain ⟨a, b⟩ := p
        have := dash_len e
        simp only
        rw [saysF_more f g b (by omega) (by omega)]
theorem says_nil : saysL [] = some [] := rfl
theorem says_cons {c : UInt8} (h : c ≠ 38) (r : List UInt8) : saysL (c :: r) = (saysL r).map (c :: ·) := by
  unfold saysL
  show saysF (r.length + 1) _ = _
  rw [saysF, if_pos h]
theorem says_open {r : List UInt8} (h : dashL r = none) : saysL (38 :: r) = none := by
  unfold saysL
  show saysF (r.length + 1) _ = _
  rw [saysF, if_neg (by simp), h]
theorem says_row {r a b : List UInt8} (h : dashL r = some (a, b)) : saysL (38 :: r) = (saysL b).map ((if a = [] then [38] else backL a) ++ ·) := by
  have hl := dash_len h
  unfold saysL
  show saysF (r.length + 1) _ = _
  rw [saysF, if_neg (by simp), h]
  simp only
  rw [saysF_more r.length b.length b (by omega) (Nat.le_refl _)]
def decU (s : List UInt8) : Option (List UInt8) := match saysL s with
  | none => none
  | some t => if encU t = some s then some t else none

/-! ### A name gives back -/
theorem says_plain : ∀ {a : List UInt8}, (∀ c ∈ a, c ≠ 38) → ∀ (b : List UInt8), saysL (a ++ b) = (saysL b).map (a ++ ·)
  | [], _, b => by cases h : saysL b <;> simp [h]
  | c :: a, h, b => by
    rw [List.cons_append, says_cons (h c List.mem_cons_self), says_plain (fun x hx => h x (List.mem_cons_of_mem _ hx)) b]
    cases saysL b <;> simp
theorem says_rowL (qs : List Nat) (hq : ∀ r ∈ qs, Scalar r) (x : List UInt8) : saysL (rowL (u16s qs) ++ x) = (saysL x).map (putsL qs ++ ·) := by
  by_cases h : u16s qs = []
  · have e : qs = [] := by
      cases qs with
      | nil => rfl
      | cons r qs => exact absurd (List.append_eq_nil_iff.1 h).1 (u16_ne r)
    subst e
    rw [h, row_nil]
    cases e : saysL x <;> simp [e, putsL]
  · rw [row_cons h, List.cons_append, List.append_assoc]
    show saysL (38 :: ((letL (u16s qs)).map com ++ 45 :: x)) = _
    rw [says_row (dash_at (fun c hc => (letter_in hc).1) x), if_neg (let_ne h)]
    unfold backL
    rw [letters_back, loose_letters, un16_u16s qs hq]
theorem lit_back {r : Nat} (h : plainP r = true) (x : List UInt8) : saysL (litL r ++ x) = (saysL x).map (putL (r : Int) ++ ·) := by
  unfold plainP at h
  simp only [Bool.and_eq_true, decide_eq_true_eq] at h
  have hp : putL (r : Int) = [UInt8.ofNat r] := by
    rw [U8.putL_one (U8.sizeN_one.2 (by omega))]
    rfl
  rw [hp]
  unfold litL
  by_cases h1 : r = 38
  · subst h1
    rw [if_pos rfl]
    show saysL (38 :: 45 :: x) = _
    rw [says_row (a := []) (b := x) (by rw [dashL, if_pos rfl]), if_pos rfl]
    rfl
  · rw [if_neg h1]
    exact says_cons (c := UInt8.ofNat r) (by intro e; apply h1; have := congrArg UInt8.toNat e; simp at this; omega) x
theorem says_name : ∀ (ps qs : List Nat), (∀ r ∈ ps, Scalar r) → (∀ r ∈ qs, Scalar r) → saysL (nameP (u16s qs) ps) = some (putsL qs ++ putsL ps)
  | [], qs, _, hq => by
    have := says_rowL qs hq []
    rw [List.append_nil] at this
    rw [name_nil, this, says_nil]
    rfl
  | r :: ps, qs, hp, hq => by
    have hr := hp r List.mem_cons_self
    have hps : ∀ r ∈ ps, Scalar r := fun x hx => hp x (List.mem_cons_of_mem _ hx)
    cases h : plainP r with
    | true =>
      have ih := says_name ps [] hps (by simp)
      rw [show u16s [] = [] from rfl] at ih
      rw [name_plain _ h, says_rowL qs hq, lit_back h, ih]
      simp [putsL]
    | false =>
      have ih := says_name ps (qs ++ [r]) hps (by
        intro x hx
        rcases List.mem_append.1 hx with hx | hx
        · exact hq x hx
        · simp only [List.mem_singleton] at hx
          rw [hx]
          exact hr)
      rw [u16s_snoc] at ih
      rw [name_other _ h, ih, puts_append]
      simp [putsL]
theorem says_enc {t s : List UInt8} (h : encU t = some s) : saysL s = some t := by
  obtain ⟨hv, rfl⟩ := enc_some h
  have := says_name (ptsL t) [] (pts_scalar t hv) (by simp)
  rw [show u16s [] = [] from rfl, puts_pts t hv] at this
  rw [this]
  rfl
theorem dec_iff {s t : List UInt8} : decU s = some t ↔ encU t = some s := by
  constructor
  · intro h
    unfold decU at h
    split at h
    · cases h
    · split at h
      · rename_i e
        rw [Option.some.inj h] at e
        exact e
      · cases h
  · intro h
    rw [decU, says_enc h]
    simp only
    rw [if_pos h]
theorem dec_none {s : List UInt8} (h : ∀ t, encU t ≠ some s) : decU s = none := by
  cases e : decU s with
  | none => rfl
  | some t => exact absurd (dec_iff.1 e) (h t)
/-- Two unlike texts have unlike names. -/
theorem enc_inj {a b s : List UInt8} (ha : encU a = some s) (hb : encU b = some s) : a = b := by
  have h1 := says_enc ha
  rw [says_enc hb] at h1
  exact (Option.some.inj h1).symm
theorem print_enc {t s : List UInt8} (h : encU t = some s) : Print s := by
  obtain ⟨_, rfl⟩ := enc_some h
  exact print_name _ _

/-! ### Printable texts -/
theorem low_dec {c : UInt8} (h : c.toNat < 128) (r : List UInt8) : decL (c :: r) = some (c.toNat, 1) := by
  have h1 : sizeN (c.toNat : Int) = 1 := U8.sizeN_one.2 (by omega)
  have := decL_put (c.toNat : Int) (by rw [h1]; decide) r
  rw [U8.putL_one h1, h1, U8.b8_self] at this
  simpa using this
theorem low_valid {c : UInt8} (h : c.toNat < 128) (r : List UInt8) : validL (c :: r) = validL r := validL_some (low_dec h r)
theorem low_pts {c : UInt8} (h : c.toNat < 128) (r : List UInt8) : ptsL (c :: r) = c.toNat :: ptsL r := pts_some (low_dec h r)
def Flat (l : List UInt8) : Prop := ∀ c ∈ l, 32 ≤ c.toNat ∧ c.toNat ≤ 126 ∧ c.toNat ≠ 38
theorem flat_valid : ∀ {l : List UInt8}, Flat l → validL l = true
  | [], _ => rfl
  | c :: r, h => by
    have hc := h c List.mem_cons_self
    rw [low_valid (by omega)]
    exact flat_valid (fun x hx => h x (List.mem_cons_of_mem _ hx))
theorem flat_name : ∀ {l : List UInt8}, Flat l → nameP [] (ptsL l) = l
  | [], _ => rfl
  | c :: r, h => by
    have hc := h c List.mem_cons_self
    have hp : plainP c.toNat = true := by unfold plainP; simp; omega
    rw [low_pts (by omega), name_plain _ hp, row_nil, List.nil_append, flat_name (fun x hx => h x (List.mem_cons_of_mem _ hx)), litL, if_neg hc.2.2]
    simp
theorem flat_enc {l : List UInt8} (h : Flat l) : encU l = some l := by rw [enc_valid (flat_valid h), flat_name h]
theorem flat_dec {l : List UInt8} (h : Flat l) : decU l = some l := dec_iff.2 (flat_enc h)
theorem flat_ne {l : List UInt8} (h : Flat l) : ∀ c ∈ l, c ≠ 38 := by
  intro c hc e
  exact (h c hc).2.2 (by rw [e]; rfl)
/-- A row that is open. -/
theorem open_dec {l : List UInt8} (h : Flat l) : decU (l ++ [38, 65, 79, 81]) = none := by
  have hs : saysL (l ++ [38, 65, 79, 81]) = none := by
    rw [says_plain (flat_ne h), says_open (dash_none (by decide))]
    rfl
  rw [decU, hs]
/-- A row with another byte in it. -/
theorem spoilt_dec {l : List UInt8} (h : Flat l) : decU (l ++ [38, 65, 79, 33, 45]) = none := by
  have hb : backL [65, 79, 33] = [] := by decide +kernel
  have hs : saysL (l ++ [38, 65, 79, 33, 45]) = some l := by
    rw [says_plain (flat_ne h), says_row (r := [65, 79, 33, 45]) (a := [65, 79, 33]) (b := []) (by rfl), if_neg (by simp), hb, says_nil]
    simp
  rw [decU, hs]
  simp only
  rw [if_neg]
  rw [flat_enc h]
  intro e
  have := congrArg List.length (Option.some.inj e)
  rw [List.length_append] at this
  simp at this
/-- A byte that isn't printable. -/
theorem high_dec {c : UInt8} (h : 128 ≤ c.toNat) (l : List UInt8) : decU (c :: l) = none := by
  apply dec_none
  intro t e
  have := print_enc e c List.mem_cons_self
  omega
theorem high_bad {c : UInt8} (h : 128 ≤ c.toNat) : decL [c] = none := by
  have hc := c.toNat_lt
  simp only [decL]
  rw [if_pos]
  unfold U8.firstN
  simp only [List.length_nil]
  split
  · omega
  · split
    · exact Or.inl rfl
    · split
      · exact Or.inr (by omega)
      · split
        · exact Or.inr (by omega)
        · split
          · exact Or.inr (by omega)
          · exact Or.inl rfl
theorem bad_enc {a : List UInt8} (ha : validL a = true) {c : UInt8} (h : 128 ≤ c.toNat) : encU (a ++ [c]) = none := by
  apply enc_not
  rw [validL_append a _ ha, validL_none (by simp) (high_bad h)]
/-- Two texts with a printable byte between. -/
theorem join_enc {a b : List UInt8} (ha : validL a = true) (hb : validL b = true) {c : UInt8} (h1 : 32 ≤ c.toNat) (h2 : c.toNat ≤ 126) (h3 : c.toNat ≠ 38) :
    encU (a ++ (c :: b)) = some (nameP [] (ptsL a) ++ (c :: nameP [] (ptsL b))) := by
  have hp : plainP c.toNat = true := by unfold plainP; simp; omega
  have hv : validL (a ++ (c :: b)) = true := by rw [validL_append a _ ha, low_valid (by omega)]; exact hb
  rw [enc_valid hv, pts_append a _ ha, low_pts (by omega), name_mid hp, litL, if_neg h3]
  simp
end Go.Proofs.YtcakcpnmbclieaaDoor.U7
