/-
  Plain facts on JSON texts, for package json: a value as a tree, what a text says or why it says nothing. No program in this text. Conditions: none.
-/
import Derived.Test.YtoofcclcimkipaaDoorU8Plain
import Derived.Test.YtoofcclcimkipaaDoorQ4Plain
namespace Go.Proofs.YtoofcclcimkipaaDoor.J7
open Go

/-- A value: its kind, its number, its text, its keys, its kids. -/
inductive J where
  | mk (kind num : Int) (text : ByteArray) (keys : List ByteArray) (kids : List J)
namespace J
def kind : J → Int | mk k _ _ _ _ => k
def num : J → Int | mk _ n _ _ _ => n
def text : J → ByteArray | mk _ _ t _ _ => t
def keys : J → List ByteArray | mk _ _ _ l _ => l
def kids : J → List J | mk _ _ _ _ l => l
end J
def leafJ (k : Int) : J := .mk k 0 ⟨#[]⟩ [] []
def numJ (n : Int) : J := .mk 4 n ⟨#[]⟩ [] []
def strJ (t : List UInt8) : J := .mk 5 0 ⟨t.toArray⟩ [] []
/-- A reading: what it says and what stands behind, or the number of an error. -/
abbrev Out (α : Type) := Except Nat (α × List UInt8)

def maxNum : Nat := 9007199254740991
def blank (c : UInt8) : Bool := c == 32 || c == 9 || c == 10 || c == 13
def skipL : List UInt8 → List UInt8
  | [] => []
  | c :: r => if blank c then skipL r else c :: r
/-- A byte is gone by, if it stands there. -/
def eatL (c : UInt8) : List UInt8 → Option (List UInt8)
  | [] => none
  | a :: r => if a = c then some r else none
def wordL : List UInt8 → List UInt8 → Option (List UInt8)
  | [], l => some l
  | w :: ws, l => match eatL w l with
    | none => none
    | some r => wordL ws r
def digB (c : UInt8) : Bool := decide (48 ≤ c.toNat) && decide (c.toNat ≤ 57)
def digsL : List UInt8 → List UInt8
  | [] => []
  | c :: r => if digB c then c :: digsL r else []
def restL : List UInt8 → List UInt8
  | [] => []
  | c :: r => if digB c then restL r else c :: r
def numV (n : Nat) (l : List UInt8) : Nat := l.foldl (fun a c => 10 * a + (c.toNat - 48)) n
theorem numV_nil (n : Nat) : numV n [] = n := by unfold numV; rw [List.foldl_nil]
theorem numV_cons (n : Nat) (c : UInt8) (r : List UInt8) : numV n (c :: r) = numV (10 * n + (c.toNat - 48)) r := by unfold numV; rw [List.foldl_cons]
/-- Does a point or an exponent stand there? -/
def pointB : List UInt8 → Bool
  | [] => false
  | c :: _ => c == 46 || c == 101 || c == 69
def badN (neg : Bool) (m : List UInt8) : Bool :=
  decide ((digsL m).length = 0) || (decide (1 < (digsL m).length) && decide ((digsL m).head? = some 48)) || decide (maxNum < numV 0 (digsL m)) || (neg && decide (numV 0 (digsL m) = 0)) || pointB (restL m)
def numberN (neg : Bool) (m : List UInt8) : Out J :=
  if badN neg m then .error 3 else .ok (numJ (if neg then -(numV 0 (digsL m) : Int) else (numV 0 (digsL m) : Int)), restL m)
def numberL (l : List UInt8) : Out J := match eatL 45 l with
  | some m => numberN true m
  | none => numberN false l
def hexF : Nat → Nat → List UInt8 → Out Nat
  | 0, v, l => .ok (v, l)
  | _ + 1, _, [] => .error 3
  | k + 1, v, c :: r => match Q4.hx c with
    | none => .error 3
    | some h => hexF k (16 * v + h) r
def hexL (l : List UInt8) : Out Nat := hexF 4 0 l
/-- The second half of a pair. -/
def lowL (v : Nat) (l : List UInt8) : Out (List UInt8) := match eatL 92 l with
  | none => .error 3
  | some r => match eatL 117 r with
    | none => .error 3
    | some r1 => match hexL r1 with
      | .error e => .error e
      | .ok (w, r2) => if 56320 ≤ w ∧ w ≤ 57343 then .ok (U8.putL ((65536 + (v - 55296) * 1024 + (w - 56320) : Nat) : Int), r2) else .error 3
def unitL (l : List UInt8) : Out (List UInt8) := match hexL l with
  | .error e => .error e
  | .ok (v, r) => if 55296 ≤ v ∧ v ≤ 56319 then lowL v r else if 56320 ≤ v ∧ v ≤ 57343 then .error 3 else .ok (U8.putL (v : Int), r)
/-- What one sign behind a backslash says. -/
def signV (c : UInt8) : Option UInt8 :=
  if c = 34 ∨ c = 92 ∨ c = 47 then some c else if c = 98 then some 8 else if c = 102 then some 12 else if c = 110 then some 10 else if c = 114 then some 13 else if c = 116 then some 9 else none
def escapeL : List UInt8 → Out (List UInt8)
  | [] => .error 3
  | c :: r => match signV c with
    | some x => .ok ([x], r)
    | none => if c = 117 then unitL r else .error 3
/-- A text behind its first sign. -/
def textF : Nat → List UInt8 → List UInt8 → Out (List UInt8)
  | 0, _, _ => .error 3
  | _ + 1, _, [] => .error 3
  | f + 1, out, c :: r =>
    if c = 34 then .ok (out, r)
    else if c = 92 then match escapeL r with
      | .error e => .error e
      | .ok (t, r1) => textF f (out ++ t) r1
    else if c.toNat < 32 then .error 3
    else match U8.decL (c :: r) with
      | none => .error 3
      | some (_, n) => textF f (out ++ (c :: r).take n) ((c :: r).drop n)
def textL (l : List UInt8) : Out (List UInt8) := textF (l.length + 1) [] l
/-- A key and its colon, behind the keys that are there. -/
def colonL (keys : List ByteArray) (l : List UInt8) : Out (List ByteArray) := match eatL 58 (skipL l) with
  | none => .error 3
  | some r => .ok (keys, r)
/-- Is a text among the keys? -/
def hasB (keys : List ByteArray) (k : List UInt8) : Bool := keys.any fun x => x.data.toList == k
def keyL (keys : List ByteArray) (l : List UInt8) : Out (List ByteArray) := match eatL 34 (skipL l) with
  | none => .error 3
  | some r => match textL r with
    | .error e => .error e
    | .ok (k, r1) => if hasB keys k then .error 5 else colonL (keys ++ [⟨k.toArray⟩]) r1
def keyO (obj : Bool) (keys : List ByteArray) (l : List UInt8) : Out (List ByteArray) := if obj then keyL keys l else .ok (keys, l)
def kindO (obj : Bool) : Int := if obj then 7 else 6
def endO (obj : Bool) : UInt8 := if obj then 125 else 93
def listJ (obj : Bool) (keys : List ByteArray) (kids : List J) : J := .mk (kindO obj) 0 ⟨#[]⟩ keys kids
def wordJ (w : List UInt8) (k : Int) (l : List UInt8) : Out J := match wordL w l with
  | none => .error 3
  | some r => .ok (leafJ k, r)
def textJ (l : List UInt8) : Out J := match textL l with
  | .error e => .error e
  | .ok (t, r) => .ok (strJ t, r)
def nullW : List UInt8 := [110, 117, 108, 108]
def falseW : List UInt8 := [102, 97, 108, 115, 101]
def trueW : List UInt8 := [116, 114, 117, 101]
mutual
/-- A value within d others, of so many steps. -/
def valueF : Nat → Nat → List UInt8 → Out J
  | 0, _, _ => .error 3
  | f + 1, d, l => match skipL l with
    | [] => .error 3
    | c :: r =>
      if c = 110 then wordJ nullW 1 (c :: r)
      else if c = 102 then wordJ falseW 2 (c :: r)
      else if c = 116 then wordJ trueW 3 (c :: r)
      else if c = 34 then textJ r
      else if c = 91 then listF f d false r
      else if c = 123 then listF f d true r
      else numberL (c :: r)
def listF : Nat → Nat → Bool → List UInt8 → Out J
  | 0, _, _, _ => .error 3
  | f + 1, d, obj, l => if 24 ≤ d then .error 4 else match eatL (endO obj) (skipL l) with
    | some r => .ok (listJ obj [] [], r)
    | none => itemsF f (d + 1) obj [] [] (skipL l)
def itemsF : Nat → Nat → Bool → List ByteArray → List J → List UInt8 → Out J
  | 0, _, _, _, _, _ => .error 3
  | f + 1, d, obj, keys, kids, l => match keyO obj keys l with
    | .error e => .error e
    | .ok (ks, l1) => match valueF f d l1 with
      | .error e => .error e
      | .ok (j, l2) => match eatL (endO obj) (skipL l2) with
        | some r => .ok (listJ obj ks (kids ++ [j]), r)
        | none => match eatL 44 (skipL l2) with
          | some r => itemsF f d obj ks (kids ++ [j]) r
          | none => .error 3
end
/-- What a text says. -/
def parseL (l : List UInt8) : Except Nat J :=
  if 65536 < l.length then .error 2 else match valueF (3 * l.length + 3) 0 l with
    | .error e => .error e
    | .ok (j, r) => if skipL r = [] then .ok j else .error 3

/-! ### What stands behind is an end of the text -/
theorem snd_of {α : Type} {a b : α} {r r' : List UInt8} (h : (Except.ok (a, r) : Out α) = .ok (b, r')) : r = r' := congrArg Prod.snd (Except.ok.inj h)
theorem skip_suffix : ∀ l : List UInt8, skipL l <:+ l
  | [] => List.suffix_refl _
  | c :: r => by
    unfold skipL
    split
    · exact (skip_suffix r).trans (List.suffix_cons c r)
    · exact List.suffix_refl _
theorem eat_some {c : UInt8} {l r : List UInt8} (h : eatL c l = some r) : l = c :: r := by
  cases l with
  | nil => rw [eatL] at h; cases h
  | cons a t =>
    rw [eatL] at h
    by_cases e : a = c
    · rw [if_pos e] at h
      rw [Option.some.inj h, e]
    · rw [if_neg e] at h
      cases h
theorem eat_suffix {c : UInt8} {l r : List UInt8} (h : eatL c l = some r) : r <:+ l := by rw [eat_some h]; exact List.suffix_cons _ _
theorem eat_lt {c : UInt8} {l r : List UInt8} (h : eatL c l = some r) : r.length + 1 = l.length := by rw [eat_some h]; rfl
theorem word_suffix : ∀ {w l r : List UInt8}, wordL w l = some r → r <:+ l
  | [], l, r, h => by rw [wordL] at h; rw [Option.some.inj h]; exact List.suffix_refl _
  | w :: ws, l, r, h => by
    rw [wordL] at h
    split at h
    · cases h
    · rename_i r1 e
      exact (word_suffix h).trans (eat_suffix e)
theorem rest_suffix : ∀ l : List UInt8, restL l <:+ l
  | [] => List.suffix_refl _
  | c :: r => by
    unfold restL
    split
    · exact (rest_suffix r).trans (List.suffix_cons c r)
    · exact List.suffix_refl _
theorem digs_rest : ∀ l : List UInt8, digsL l ++ restL l = l
  | [] => rfl
  | c :: r => by
    unfold digsL restL
    split
    · rw [List.cons_append, digs_rest r]
    · rfl
theorem numberN_suffix {neg : Bool} {m r : List UInt8} {j : J} (h : numberN neg m = .ok (j, r)) : r <:+ m ∧ r.length < m.length := by
  unfold numberN at h
  split at h
  · cases h
  · rename_i hb
    have e : restL m = r := snd_of h
    have hd := digs_rest m
    have : (digsL m).length ≠ 0 := by
      intro h0
      apply hb
      unfold badN
      simp [h0]
    rw [← e]
    refine ⟨rest_suffix m, ?_⟩
    have := congrArg List.length hd
    rw [List.length_append] at this
    omega
theorem number_suffix {l r : List UInt8} {j : J} (h : numberL l = .ok (j, r)) : r <:+ l ∧ r.length < l.length := by
  unfold numberL at h
  split at h
  · rename_i m e
    have := numberN_suffix h
    exact ⟨this.1.trans (eat_suffix e), by have := eat_lt e; omega⟩
  · exact numberN_suffix h
theorem hexF_suffix : ∀ {k v : Nat} {l r : List UInt8} {n : Nat}, hexF k v l = .ok (n, r) → r <:+ l
  | 0, v, l, r, n, h => by
    rw [hexF] at h
    obtain rfl := snd_of h
    exact List.suffix_refl _
  | k + 1, v, [], r, n, h => by rw [hexF] at h; cases h
  | k + 1, v, c :: t, r, n, h => by
    rw [hexF] at h
    split at h
    · cases h
    · exact (hexF_suffix h).trans (List.suffix_cons c t)
theorem low_suffix {v : Nat} {l r t : List UInt8} (h : lowL v l = .ok (t, r)) : r <:+ l := by
  unfold lowL at h
  split at h
  · cases h
  · rename_i r0 e0
    split at h
    · cases h
    · rename_i r1 e1
      split at h
      · cases h
      · rename_i w r2 e2
        split at h
        · obtain rfl := snd_of h
          exact ((hexF_suffix e2).trans (eat_suffix e1)).trans (eat_suffix e0)
        · cases h
theorem unit_suffix {l r t : List UInt8} (h : unitL l = .ok (t, r)) : r <:+ l := by
  unfold unitL at h
  split at h
  · cases h
  · rename_i v r0 e
    split at h
    · exact (low_suffix h).trans (hexF_suffix e)
    · split at h
      · cases h
      · obtain rfl := snd_of h
        exact hexF_suffix e
theorem escape_suffix {l r t : List UInt8} (h : escapeL l = .ok (t, r)) : r <:+ l ∧ r.length < l.length := by
  cases l with
  | nil => rw [escapeL] at h; cases h
  | cons c u =>
    rw [escapeL] at h
    have hs : r <:+ u := by
      split at h
      · obtain rfl := snd_of h
        exact List.suffix_refl _
      · split at h
        · exact unit_suffix h
        · cases h
    exact ⟨hs.trans (List.suffix_cons c u), by have := hs.length_le; simp; omega⟩
theorem textF_suffix : ∀ {f : Nat} {out l r t : List UInt8}, textF f out l = .ok (t, r) → r <:+ l ∧ r.length < l.length
  | 0, out, l, r, t, h => by rw [textF] at h; cases h
  | f + 1, out, [], r, t, h => by rw [textF] at h; cases h
  | f + 1, out, c :: u, r, t, h => by
    rw [textF] at h
    split at h
    · obtain rfl := snd_of h
      exact ⟨List.suffix_cons c u, by simp⟩
    · split at h
      · split at h
        · cases h
        · rename_i x r1 e
          have h1 := textF_suffix h
          have h2 := escape_suffix e
          exact ⟨(h1.1.trans h2.1).trans (List.suffix_cons c u), by simp; omega⟩
      · split at h
        · cases h
        · split at h
          · cases h
          · rename_i x n e
            have h1 := textF_suffix h
            have h2 := U8.decL_some e
            refine ⟨h1.1.trans (List.drop_suffix n _), ?_⟩
            have := h1.2
            rw [List.length_drop] at this
            omega
theorem text_suffix {l r t : List UInt8} (h : textL l = .ok (t, r)) : r <:+ l ∧ r.length < l.length := textF_suffix h
theorem textF_more : ∀ (f g : Nat) (out l : List UInt8), l.length < f → l.length < g → textF f out l = textF g out l
  | 0, _, _, _, hf, _ => by omega
  | _, 0, _, _, _, hg => by omega
  | f + 1, g + 1, out, [], _, _ => rfl
  | f + 1, g + 1, out, c :: u, hf, hg => by
    rw [textF, textF]
    split
    · rfl
    · split
      · split
        · rfl
        · rename_i x r1 e
          have h2 := escape_suffix e
          rw [List.length_cons] at hf hg
          exact textF_more f g _ _ (by omega) (by omega)
      · split
        · rfl
        · split
          · rfl
          · rename_i x n e
            have h2 := U8.decL_some e
            refine textF_more f g _ _ ?_ ?_
            · rw [List.length_drop]; omega
            · rw [List.length_drop]; omega
theorem colon_suffix {keys ks : List ByteArray} {l r : List UInt8} (h : colonL keys l = .ok (ks, r)) : r <:+ l ∧ r.length < l.length := by
  unfold colonL at h
  split at h
  · cases h
  · rename_i r0 e
    obtain rfl := snd_of h
    have := eat_lt e
    have h2 := (skip_suffix l).length_le
    exact ⟨(eat_suffix e).trans (skip_suffix l), by omega⟩
theorem key_suffix {keys ks : List ByteArray} {l r : List UInt8} (h : keyL keys l = .ok (ks, r)) : r <:+ l ∧ r.length < l.length := by
  unfold keyL at h
  split at h
  · cases h
  · rename_i r0 e0
    split at h
    · cases h
    · rename_i k r1 e1
      split at h
      · cases h
      · have h1 := colon_suffix h
        have h2 := text_suffix e1
        have h3 := eat_lt e0
        have h4 := (skip_suffix l).length_le
        exact ⟨((h1.1.trans h2.1).trans (eat_suffix e0)).trans (skip_suffix l), by omega⟩
theorem keyO_suffix {obj : Bool} {keys ks : List ByteArray} {l r : List UInt8} (h : keyO obj keys l = .ok (ks, r)) : r <:+ l := by
  unfold keyO at h
  split at h
  · exact (key_suffix h).1
  · obtain rfl := snd_of h
    exact List.suffix_refl _
theorem wordJ_suffix {w l r : List UInt8} {k : Int} {j : J} (h : wordJ w k l = .ok (j, r)) : r <:+ l := by
  unfold wordJ at h
  split at h
  · cases h
  · rename_i r0 e
    obtain rfl := snd_of h
    exact word_suffix e
theorem textJ_suffix {l r : List UInt8} {j : J} (h : textJ l = .ok (j, r)) : r <:+ l := by
  unfold textJ at h
  split at h
  · cases h
  · rename_i t r0 e
    obtain rfl := snd_of h
    exact (text_suffix e).1
theorem all_suffix : ∀ f : Nat, (∀ d l j r, valueF f d l = .ok (j, r) → r <:+ l) ∧ (∀ d obj l j r, listF f d obj l = .ok (j, r) → r <:+ l) ∧ (∀ d obj keys kids l j r, itemsF f d obj keys kids l = .ok (j, r) → r <:+ l)
  | 0 => ⟨fun d l j r h => (by rw [valueF] at h; cases h), fun d obj l j r h => (by rw [listF] at h; cases h), fun d obj keys kids l j r h => (by rw [itemsF] at h; cases h)⟩
  | f + 1 => by
    obtain ⟨hv, hl, hi⟩ := all_suffix f
    refine ⟨fun d l j r h => ?_, fun d obj l j r h => ?_, fun d obj keys kids l j r h => ?_⟩
    · rw [valueF] at h
      have hs := skip_suffix l
      split at h
      · cases h
      · rename_i c t e
        rw [e] at hs
        refine List.IsSuffix.trans ?_ hs
        have ht : t <:+ c :: t := List.suffix_cons c t
        split at h
        · exact wordJ_suffix h
        · split at h
          · exact wordJ_suffix h
          · split at h
            · exact wordJ_suffix h
            · split at h
              · exact (textJ_suffix h).trans ht
              · split at h
                · exact (hl _ _ _ _ _ h).trans ht
                · split at h
                  · exact (hl _ _ _ _ _ h).trans ht
                  · exact (number_suffix h).1
    · rw [listF] at h
      split at h
      · cases h
      · split at h
        · rename_i r0 e
          obtain rfl := snd_of h
          exact (eat_suffix e).trans (skip_suffix l)
        · exact (hi _ _ _ _ _ _ _ h).trans (skip_suffix l)
    · rw [itemsF] at h
      split at h
      · cases h
      · rename_i ks l1 e1
        have h1 := keyO_suffix e1
        split at h
        · cases h
        · rename_i k l2 e2
          have h2 := hv _ _ _ _ e2
          have h3 := skip_suffix l2
          split at h
          · rename_i r0 e3
            obtain rfl := snd_of h
            exact (((eat_suffix e3).trans h3).trans h2).trans h1
          · split at h
            · rename_i r0 e3
              exact ((((hi _ _ _ _ _ _ _ h).trans (eat_suffix e3)).trans h3).trans h2).trans h1
            · cases h
theorem value_suffix {f d : Nat} {l r : List UInt8} {j : J} (h : valueF f d l = .ok (j, r)) : r <:+ l := (all_suffix f).1 _ _ _ _ h
/-- More steps than are wanted tell the same. -/
theorem all_more : ∀ f g : Nat, (∀ d l, 3 * l.length + 3 ≤ f → 3 * l.length + 3 ≤ g → valueF f d l = valueF g d l) ∧ (∀ d obj l, 3 * l.length + 5 ≤ f → 3 * l.length + 5 ≤ g → listF f d obj l = listF g d obj l) ∧ (∀ d obj keys kids l, 3 * l.length + 4 ≤ f → 3 * l.length + 4 ≤ g → itemsF f d obj keys kids l = itemsF g d obj keys kids l)
  | 0, _ => ⟨fun _ _ h => by omega, fun _ _ _ h => by omega, fun _ _ _ _ _ h => by omega⟩
  | _ + 1, 0 => ⟨fun _ _ _ h => by omega, fun _ _ _ _ h => by omega, fun _ _ _ _ _ _ h => by omega⟩
  | f + 1, g + 1 => by
    obtain ⟨hv, hl, hi⟩ := all_more f g
    refine ⟨fun d l h1 h2 => ?_, fun d obj l h1 h2 => ?_, fun d obj keys kids l h1 h2 => ?_⟩
    · rw [valueF, valueF]
      have hs := (skip_suffix l).length_le
      split
      · rfl
      · rename_i c t e
        rw [e, List.length_cons] at hs
        rw [hl d false t (by omega) (by omega), hl d true t (by omega) (by omega)]
    · rw [listF, listF]
      have hs := (skip_suffix l).length_le
      split
      · rfl
      · split
        · rfl
        · exact hi _ _ _ _ _ (by omega) (by omega)
    · rw [itemsF, itemsF]
      split
      · rfl
      · rename_i ks l1 e1
        have q1 := (keyO_suffix e1).length_le
        rw [hv d l1 (by omega) (by omega)]
        split
        · rfl
        · rename_i k l2 e2
          have q2 := (value_suffix e2).length_le
          have q3 := (skip_suffix l2).length_le
          split
          · rfl
          · split
            · rename_i r0 e3
              have q4 := eat_lt e3
              exact hi _ _ _ _ _ (by omega) (by omega)
            · rfl
end Go.Proofs.YtoofcclcimkipaaDoor.J7
