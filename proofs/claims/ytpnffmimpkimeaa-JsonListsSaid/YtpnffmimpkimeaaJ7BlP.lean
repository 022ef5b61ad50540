/-
  Plain facts on JSON texts: what stands behind a text, blanks or another byte. No program in this text. Conditions: none.
-/
import Derived.Test.YtpnffmimpkimeaaJ7RiteV
namespace Go.Proofs.Ytpnffmimpkimeaa.J7
open Go Go.RowKit Go.Joins Kit Dg

/-- All blanks. -/
def Bl (B : List UInt8) : Prop := ∀ c ∈ B, blank c = true
theorem bl_tail {c : UInt8} {t : List UInt8} (h : Bl (c :: t)) : Bl t := fun x hx => h x (List.mem_cons_of_mem _ hx)
theorem bl_head {c : UInt8} {t : List UInt8} (h : Bl (c :: t)) : blank c = true := h c List.mem_cons_self
theorem blank_cases {c : UInt8} (h : blank c = true) : c = 32 ∨ c = 9 ∨ c = 10 ∨ c = 13 := by
  unfold blank at h
  simp only [Bool.or_eq_true, beq_iff_eq] at h
  rcases h with ((h | h) | h) | h
  · exact Or.inl h
  · exact Or.inr (Or.inl h)
  · exact Or.inr (Or.inr (Or.inl h))
  · exact Or.inr (Or.inr (Or.inr h))
theorem skip_bl : ∀ {B : List UInt8}, Bl B → skipL B = []
  | [], _ => rfl
  | c :: r, h => by rw [skipL, if_pos (bl_head h)]; exact skip_bl (bl_tail h)
theorem skip_ahead : ∀ {A : List UInt8}, Bl A → ∀ l, skipL (A ++ l) = skipL l
  | [], _, _ => rfl
  | c :: r, h, l => by rw [List.cons_append, skipL, if_pos (bl_head h)]; exact skip_ahead (bl_tail h) l
theorem skip_behind_cons : ∀ {l : List UInt8} {c : UInt8} {t : List UInt8} (B : List UInt8), skipL l = c :: t → skipL (l ++ B) = c :: t ++ B
  | [], _, _, _, h => by cases h
  | a :: u, c, t, B, h => by
    rw [skipL] at h
    rw [List.cons_append, skipL]
    cases hb : blank a with
    | true => rw [hb, if_pos rfl] at h; rw [if_pos rfl]; exact skip_behind_cons B h
    | false =>
      rw [hb, if_neg (by decide)] at h
      rw [if_neg (by decide), ← List.cons_append, h]
theorem skip_behind_nil : ∀ {l : List UInt8} (B : List UInt8), skipL l = [] → skipL (l ++ B) = skipL B
  | [], _, _ => rfl
  | a :: u, B, h => by
    rw [skipL] at h
    rw [List.cons_append, skipL]
    cases hb : blank a with
    | true => rw [hb, if_pos rfl] at h; rw [if_pos rfl]; exact skip_behind_nil B h
    | false => rw [hb, if_neg (by decide)] at h; cases h
theorem value_ahead (num : List UInt8 → Out J) (d : Nat) {A : List UInt8} (hA : Bl A) (l : List UInt8) : valueG num d (A ++ l) = valueG num d l := by
  rw [valueG_eq]
  unfold valueH
  rw [skip_ahead hA]
/-- What is read with B behind it is what is read; a failing stays one where B is blank. -/
def Ap {α : Type} (B : List UInt8) (o o' : Out α) : Prop := (∀ a r, o = .ok (a, r) → o' = .ok (a, r ++ B)) ∧ (Bl B → ∀ e, o = .error e → o' = .error e)
theorem ap_ok {α : Type} {B : List UInt8} {a : α} {r : List UInt8} : Ap B (.ok (a, r)) (.ok (a, r ++ B)) :=
  ⟨fun x y h => by injection h with h; injection h with h1 h2; rw [h1, h2], fun _ e h => by cases h⟩
theorem ap_no {α : Type} {B : List UInt8} {e : Nat} {o' : Out α} (h : Bl B → o' = .error e) : Ap B (.error e) o' :=
  ⟨fun x y h => (by cases h), fun hB x hx => by injection hx with hx; rw [← hx]; exact h hB⟩
theorem ap_err {α : Type} {B : List UInt8} {e : Nat} : Ap (α := α) B (.error e) (.error e) := ap_no fun _ => rfl
theorem eat_behind {c : UInt8} {l r : List UInt8} (h : eatL c l = some r) (B : List UInt8) : eatL c (l ++ B) = some (r ++ B) := by
  rw [eat_some h, List.cons_append, eatL, if_pos rfl]
theorem eat_notc {c a : UInt8} {t : List UInt8} (h : eatL c (a :: t) = none) (B : List UInt8) : eatL c (a :: t ++ B) = none := by
  rw [eatL] at h
  rw [List.cons_append, eatL]
  split at h
  · cases h
  · rename_i hne; rw [if_neg hne]
theorem eat_not {c : UInt8} (hc : blank c = false) {l B : List UInt8} (hB : Bl B) (h : eatL c l = none) : eatL c (l ++ B) = none := by
  cases l with
  | nil =>
    cases B with
    | nil => rfl
    | cons a t =>
      rw [List.nil_append, eatL, if_neg]
      rintro rfl
      have := bl_head hB
      rw [hc] at this
      cases this
  | cons a t => exact eat_notc h B
theorem eskip_behind {c : UInt8} {l r : List UInt8} (h : eatL c (skipL l) = some r) (B : List UInt8) : eatL c (skipL (l ++ B)) = some (r ++ B) := by
  rw [skip_behind_cons B (eat_some h), List.cons_append, eatL, if_pos rfl]
theorem eskip_not {c : UInt8} {l B : List UInt8} (hB : Bl B) (h : eatL c (skipL l) = none) : eatL c (skipL (l ++ B)) = none := by
  cases e : skipL l with
  | nil => rw [skip_behind_nil B e, skip_bl hB]; rfl
  | cons a t => rw [skip_behind_cons B e]; rw [e] at h; exact eat_notc h B
theorem word_behind : ∀ {w l r : List UInt8}, wordL w l = some r → ∀ B, wordL w (l ++ B) = some (r ++ B)
  | [], l, r, h, B => by rw [wordL] at h ⊢; rw [Option.some.inj h]
  | c :: w, l, r, h, B => by
    rw [wordL] at h
    cases e : eatL c l with
    | none => rw [e] at h; cases h
    | some l1 =>
      rw [e] at h
      rw [wordL, eat_behind e B]
      exact word_behind h B
theorem word_not : ∀ {w l : List UInt8}, (∀ c ∈ w, blank c = false) → wordL w l = none → ∀ {B : List UInt8}, Bl B → wordL w (l ++ B) = none
  | [], l, _, h, _, _ => by rw [wordL] at h; cases h
  | c :: w, l, hw, h, B, hB => by
    rw [wordL] at h ⊢
    cases e : eatL c l with
    | none => rw [eat_not (hw c List.mem_cons_self) hB e]
    | some l1 =>
      rw [e] at h
      rw [eat_behind e B]
      exact word_not (fun x hx => hw x (List.mem_cons_of_mem _ hx)) h hB
theorem wordJ_ap {w : List UInt8} {k : Int} (B l : List UInt8) (hw : ∀ c ∈ w, blank c = false) : Ap B (wordJ w k l) (wordJ w k (l ++ B)) := by
  unfold wordJ
  cases e : wordL w l with
  | none => exact ap_no fun hB => by rw [word_not hw e hB]
  | some r => rw [word_behind e B]; exact ap_ok
theorem hx_blank {c : UInt8} (h : blank c = true) : Q4.hx c = none := by
  rcases blank_cases h with rfl | rfl | rfl | rfl <;> decide
theorem hexF_ap (B : List UInt8) : ∀ (k v : Nat) (l : List UInt8), Ap B (hexF k v l) (hexF k v (l ++ B))
  | 0, v, l => by rw [hexF, hexF]; exact ap_ok
  | k + 1, v, [] => by
    rw [hexF]
    refine ap_no fun hB => ?_
    cases B with
    | nil => rfl
    | cons c t => rw [List.nil_append, hexF, hx_blank (bl_head hB)]
  | k + 1, v, c :: u => by
    rw [hexF, List.cons_append, hexF]
    cases Q4.hx c with
    | none => exact ap_err
    | some h => exact hexF_ap B k _ u
theorem hexL_ap (B l : List UInt8) : Ap B (hexL l) (hexL (l ++ B)) := hexF_ap B 4 0 l
theorem lowL_ap (B : List UInt8) (v : Nat) (l : List UInt8) : Ap B (lowL v l) (lowL v (l ++ B)) := by
  unfold lowL
  cases e : eatL 92 l with
  | none => exact ap_no fun hB => by rw [eat_not (by decide) hB e]
  | some r =>
    rw [eat_behind e B]
    simp only
    cases e1 : eatL 117 r with
    | none => exact ap_no fun hB => by rw [eat_not (by decide) hB e1]
    | some r1 =>
      rw [eat_behind e1 B]
      simp only
      have h := hexL_ap B r1
      cases e2 : hexL r1 with
      | error x => exact ap_no fun hB => by rw [h.2 hB _ e2]
      | ok x =>
        obtain ⟨y, r2⟩ := x
        rw [h.1 _ _ e2]
        simp only
        split
        · exact ap_ok
        · exact ap_err
theorem unitL_ap (B l : List UInt8) : Ap B (unitL l) (unitL (l ++ B)) := by
  unfold unitL
  have h := hexL_ap B l
  cases e2 : hexL l with
  | error x => exact ap_no fun hB => by rw [h.2 hB _ e2]
  | ok x =>
    obtain ⟨y, r2⟩ := x
    rw [h.1 _ _ e2]
    simp only
    split
    · exact lowL_ap B y r2
    · split
      · exact ap_err
      · exact ap_ok
theorem escapeL_ap (B l : List UInt8) : Ap B (escapeL l) (escapeL (l ++ B)) := by
  cases l with
  | nil =>
    rw [escapeL]
    refine ap_no fun hB => ?_
    cases B with
    | nil => rfl
    | cons c t => rcases blank_cases (bl_head hB) with rfl | rfl | rfl | rfl <;> rfl
  | cons c u =>
    rw [escapeL, List.cons_append, escapeL]
    cases signV c with
    | some x => exact ap_ok
    | none =>
      simp only
      split
      · exact unitL_ap B u
      · exact ap_err
theorem decL_not {c : UInt8} {u B : List UInt8} (hB : Bl B) (h : U8.decL (c :: u) = none) : U8.decL (c :: u ++ B) = none := by
  cases e : U8.decL (c :: u ++ B) with
  | none => rfl
  | some x =>
    obtain ⟨r, n⟩ := x
    obtain ⟨h1, h2, h3, h4⟩ := U8.decL_some e
    exfalso
    rcases Nat.lt_or_ge (c :: u).length n with hn | hn
    · cases B with
      | nil => rw [List.append_nil] at h3; omega
      | cons b t =>
        have hb : b ∈ (c :: u ++ b :: t).take n := by
          refine List.mem_iff_getElem.2 ⟨(c :: u).length, ?_, ?_⟩
          · rw [List.length_take]; simp at hn ⊢; omega
          · rw [List.getElem_take, List.getElem_append_right (Nat.le_refl _)]; simp
        rw [h4] at hb
        have h7 := putL_high r (by rw [h1]; simp at hn; omega) b hb
        rcases blank_cases (bl_head hB) with rfl | rfl | rfl | rfl <;> revert h7 <;> decide
    · have h5 : U8.decL (c :: u) = some (r, n) := U8.decL_iff.2 ⟨h1, h2, by rw [← h4, List.take_append_of_le_length hn]⟩
      rw [h] at h5
      cases h5
theorem textF_bl : ∀ (g : Nat) (out B : List UInt8), Bl B → textF g out B = .error 3
  | 0, _, _, _ => rfl
  | g + 1, out, [], _ => rfl
  | g + 1, out, c :: t, h => by
    rcases blank_cases (bl_head h) with rfl | rfl | rfl | rfl
    · rw [textF, if_neg (by decide), if_neg (by decide), if_neg (by decide), decL_ascii 32 (by decide)]
      exact textF_bl g _ _ (bl_tail h)
    · rw [textF, if_neg (by decide), if_neg (by decide), if_pos (by decide)]
    · rw [textF, if_neg (by decide), if_neg (by decide), if_pos (by decide)]
    · rw [textF, if_neg (by decide), if_neg (by decide), if_pos (by decide)]
theorem textF_ap (B : List UInt8) : ∀ (f g : Nat) (out l : List UInt8), l.length < f → (l ++ B).length < g → Ap B (textF f out l) (textF g out (l ++ B))
  | 0, _, _, _, h, _ => by omega
  | _ + 1, 0, _, _, _, h => by omega
  | f + 1, g + 1, out, [], _, _ => by
    rw [textF]
    exact ap_no fun hB => textF_bl (g + 1) out B hB
  | f + 1, g + 1, out, c :: u, hf, hg => by
    rw [List.length_append, List.length_cons] at hg
    rw [List.length_cons] at hf
    rw [textF, List.cons_append, textF]
    by_cases h1 : c = 34
    · simp only [if_pos h1]; exact ap_ok
    simp only [if_neg h1]
    by_cases h2 : c = 92
    · simp only [if_pos h2]
      have he := escapeL_ap B u
      cases e : escapeL u with
      | error x => exact ap_no fun hB => by rw [he.2 hB _ e]
      | ok x =>
        obtain ⟨t, r1⟩ := x
        rw [he.1 _ _ e]
        simp only
        have := escape_suffix e
        exact textF_ap B f g _ r1 (by omega) (by rw [List.length_append]; omega)
    simp only [if_neg h2]
    by_cases h3 : c.toNat < 32
    · simp only [if_pos h3]; exact ap_err
    simp only [if_neg h3]
    cases e : U8.decL (c :: u) with
    | none => exact ap_no fun hB => by rw [show U8.decL (c :: (u ++ B)) = none from decL_not hB e]
    | some x =>
      obtain ⟨p, n⟩ := x
      rw [show U8.decL (c :: (u ++ B)) = some (p, n) from U8.decL_append e B]
      simp only
      obtain ⟨q1, q2, q3, q4⟩ := U8.decL_some e
      rw [← List.cons_append, List.take_append_of_le_length q3, List.drop_append_of_le_length q3]
      rw [List.length_cons] at q3
      exact textF_ap B f g _ _ (by rw [List.length_drop, List.length_cons]; omega) (by rw [List.length_append, List.length_drop, List.length_cons]; omega)
theorem textL_ap (B l : List UInt8) : Ap B (textL l) (textL (l ++ B)) := textF_ap B _ _ [] l (Nat.lt_succ_self _) (Nat.lt_succ_self _)
theorem textJ_ap (B l : List UInt8) : Ap B (textJ l) (textJ (l ++ B)) := by
  unfold textJ
  have he := textL_ap B l
  cases e : textL l with
  | error x => exact ap_no fun hB => by rw [he.2 hB _ e]
  | ok x =>
    obtain ⟨t, r1⟩ := x
    rw [he.1 _ _ e]
    exact ap_ok
theorem colonL_ap (B : List UInt8) (keys : List ByteArray) (l : List UInt8) : Ap B (colonL keys l) (colonL keys (l ++ B)) := by
  unfold colonL
  cases e : eatL 58 (skipL l) with
  | none => exact ap_no fun hB => by rw [eskip_not hB e]
  | some r => rw [eskip_behind e B]; exact ap_ok
theorem keyO_ap (B : List UInt8) (obj : Bool) (keys : List ByteArray) (l : List UInt8) : Ap B (keyO obj keys l) (keyO obj keys (l ++ B)) := by
  cases obj with
  | false => exact ap_ok
  | true =>
    show Ap B (keyL keys l) (keyL keys (l ++ B))
    unfold keyL
    cases e : eatL 34 (skipL l) with
    | none => exact ap_no fun hB => by rw [eskip_not hB e]
    | some r =>
      rw [eskip_behind e B]
      simp only
      have he := textL_ap B r
      cases e1 : textL r with
      | error x => exact ap_no fun hB => by rw [he.2 hB _ e1]
      | ok x =>
        obtain ⟨t, r1⟩ := x
        rw [he.1 _ _ e1]
        simp only
        split
        · exact ap_err
        · exact colonL_ap B _ r1
theorem digs_behind : ∀ {l B : List UInt8}, (Bl B ∨ restL l ≠ []) → digsL (l ++ B) = digsL l ∧ restL (l ++ B) = restL l ++ B
  | [], B, h => by
    have hB : Bl B := h.resolve_right fun h => h rfl
    cases B with
    | nil => exact ⟨rfl, rfl⟩
    | cons c t =>
      have : digB c = false := by rcases blank_cases (bl_head hB) with rfl | rfl | rfl | rfl <;> decide
      exact ⟨digs_none this, rest_none this⟩
  | c :: u, B, h => by
    cases hd : digB c with
    | true =>
      rw [rest_head hd] at h
      have := digs_behind (l := u) h
      rw [List.cons_append, digs_head hd, rest_head hd, digs_head hd, rest_head hd]
      exact ⟨by rw [this.1], this.2⟩
    | false =>
      rw [List.cons_append, digs_none hd, rest_none hd, digs_none hd, rest_none hd]
      exact ⟨rfl, rfl⟩
theorem digC_ap (B l : List UInt8) : (∀ a r, digC l = .ok (a, r) → (Bl B ∨ r ≠ []) → digC (l ++ B) = .ok (a, r ++ B)) ∧ (Bl B → ∀ e, digC l = .error e → digC (l ++ B) = .error e) := by
  cases l with
  | nil =>
    refine ⟨fun a r h => (by rw [digC] at h; cases h), fun hB e h => ?_⟩
    rw [digC] at h
    injection h with h
    rw [← h]
    cases B with
    | nil => rfl
    | cons c t =>
      have h1 : digB c = false ∧ c ≠ 48 := by rcases blank_cases (bl_head hB) with rfl | rfl | rfl | rfl <;> decide
      rw [List.nil_append, digC, if_neg h1.2, if_pos (Or.inl (by rw [digs_none h1.1]; rfl))]
  | cons c u =>
    by_cases h0 : c = 48
    · rw [digC, List.cons_append, digC, if_pos h0, if_pos h0]
      exact ⟨fun a r h _ => (by injection h with h; injection h with h1 h2; rw [h1, h2]), fun _ e h => by cases h⟩
    · rw [digC, List.cons_append, digC, if_neg h0, if_neg h0, ← List.cons_append]
      constructor
      · intro a r h hq
        split at h
        · cases h
        · rename_i hn
          injection h with h
          injection h with e1 e2
          subst e1 e2
          have := digs_behind hq
          rw [this.1, this.2, if_neg hn]
      · intro hB e h
        split at h
        · rename_i hn
          injection h with h
          have := digs_behind (l := c :: u) (Or.inl hB)
          rw [this.1, if_pos hn, h]
        · cases h
/-- The same of a value: of a number where something stands behind it already. -/
def ApV (B : List UInt8) (o o' : Out J) : Prop := (∀ j r, o = .ok (j, r) → (Bl B ∨ r ≠ [] ∨ j.kind ≠ 4) → o' = .ok (j, r ++ B)) ∧ (Bl B → ∀ e, o = .error e → o' = .error e)
theorem apv_of {B : List UInt8} {o o' : Out J} (h : Ap B o o') : ApV B o o' := ⟨fun j r e _ => h.1 j r e, h.2⟩
theorem numC_ap (B l : List UInt8) : ApV B (numC l) (numC (l ++ B)) := by
  have hk : ∀ (n : Int) (r : List UInt8), (Bl B ∨ r ≠ [] ∨ (numJ n).kind ≠ 4) → (Bl B ∨ r ≠ []) := fun n r h => by
    rcases h with h | h | h
    · exact Or.inl h
    · exact Or.inr h
    · exact absurd rfl h
  unfold numC
  cases e : eatL 45 l with
  | some m =>
    rw [eat_behind e B]
    simp only
    have hd := digC_ap B m
    cases e1 : digC m with
    | error x => exact apv_of (ap_no fun hB => by rw [hd.2 hB _ e1])
    | ok x =>
      obtain ⟨n, r⟩ := x
      simp only
      by_cases h0 : n = 0
      · simp only [if_pos h0]
        refine apv_of (ap_no fun hB => ?_)
        rw [hd.1 _ _ e1 (Or.inl hB)]
        simp only [if_pos h0]
      · simp only [if_neg h0]
        refine ⟨fun j s h hq => ?_, fun _ e h => by cases h⟩
        injection h with h
        injection h with h1 h2
        subst h1 h2
        rw [hd.1 _ _ e1 (hk _ _ hq)]
        simp only [if_neg h0]
  | none =>
    have hd := digC_ap B l
    constructor
    · intro j r h hq
      simp only at h
      cases e1 : digC l with
      | error x => rw [e1] at h; cases h
      | ok x =>
        obtain ⟨n, s⟩ := x
        rw [e1] at h
        simp only at h
        injection h with h
        injection h with h1 h2
        subst h1 h2
        have e2 : eatL 45 (l ++ B) = none := by
          cases l with
          | nil => rw [digC] at e1; cases e1
          | cons a t => exact eat_notc e B
        rw [e2]
        simp only
        rw [hd.1 _ _ e1 (hk _ _ hq)]
    · intro hB x h
      rw [eat_not (by decide) hB e]
      simp only at h ⊢
      cases e1 : digC l with
      | error y => rw [e1] at h; rw [hd.2 hB _ e1]; exact h
      | ok y => rw [e1] at h; cases h
theorem items_nil {val : List UInt8 → Out J} (hs : ∀ l j r, val l = .ok (j, r) → r <:+ l) (obj : Bool) (f : Nat) (keys : List ByteArray) (kids : List J) (j : J) (r : List UInt8) : itemsG val obj f keys kids [] ≠ .ok (j, r) := by
  cases f with
  | zero => intro h; cases h
  | succ f =>
    intro h
    rw [itemsG] at h
    cases e : keyO obj keys [] with
    | error x => rw [e] at h; cases h
    | ok x =>
      obtain ⟨ks, l1⟩ := x
      rw [e] at h
      simp only at h
      have h1 : l1 = [] := List.suffix_nil.1 (keyO_suffix e)
      subst h1
      cases e1 : val [] with
      | error x => rw [e1] at h; cases h
      | ok x =>
        obtain ⟨j1, l2⟩ := x
        rw [e1] at h
        have h1 : l2 = [] := List.suffix_nil.1 (hs _ _ _ e1)
        subst h1
        cases h
theorem items_ap {val : List UInt8 → Out J} (B : List UInt8) (hs : ∀ l j r, val l = .ok (j, r) → r <:+ l) (hv : ∀ l, ApV B (val l) (val (l ++ B))) (obj : Bool) :
    ∀ (f g : Nat) (keys : List ByteArray) (kids : List J) (l : List UInt8), l.length < f → (l ++ B).length < g → Ap B (itemsG val obj f keys kids l) (itemsG val obj g keys kids (l ++ B))
  | 0, _, _, _, _, h, _ => by omega
  | _ + 1, 0, _, _, _, _, h => by omega
  | f + 1, g + 1, keys, kids, l, hf, hg => by
    rw [itemsG, itemsG]
    have hk := keyO_ap B obj keys l
    rw [List.length_append] at hg
    cases e : keyO obj keys l with
    | error x => exact ap_no fun hB => by rw [hk.2 hB _ e]
    | ok x =>
      obtain ⟨ks, l1⟩ := x
      rw [hk.1 _ _ e]
      simp only
      have n1 := (keyO_suffix e).length_le
      have hv1 := hv l1
      cases e1 : val l1 with
      | error x => exact ap_no fun hB => by rw [hv1.2 hB _ e1]
      | ok x =>
        obtain ⟨j, l2⟩ := x
        simp only
        have n2 := (hs _ _ _ e1).length_le
        by_cases hq : Bl B ∨ l2 ≠ [] ∨ j.kind ≠ 4
        · rw [hv1.1 _ _ e1 hq]
          simp only
          have n3 := skip_len l2
          cases e2 : eatL (endO obj) (skipL l2) with
          | some r => rw [eskip_behind e2 B]; exact ap_ok
          | none =>
            simp only
            cases e3 : skipL l2 with
            | nil =>
              refine ap_no fun hB => ?_
              rw [skip_behind_nil B e3, skip_bl hB]
              rfl
            | cons a t =>
              rw [e3] at e2 n3
              rw [skip_behind_cons B e3, eat_notc e2 B]
              simp only
              cases e4 : eatL 44 (a :: t) with
              | none => rw [eat_notc e4 B]; exact ap_err
              | some r =>
                rw [eat_behind e4 B]
                simp only
                have n4 := eat_len e4
                exact items_ap B hs hv obj f g _ _ r (by omega) (by rw [List.length_append]; omega)
        · have h2 : l2 = [] := Decidable.byContradiction fun h => hq (Or.inr (Or.inl h))
          subst h2
          exact ap_no fun hB => absurd (Or.inl hB) hq
theorem list_ap {val : List UInt8 → Out J} (B : List UInt8) (hs : ∀ l j r, val l = .ok (j, r) → r <:+ l) (hv : ∀ l, ApV B (val l) (val (l ++ B))) (obj : Bool) (l : List UInt8) : Ap B (listG val obj l) (listG val obj (l ++ B)) := by
  unfold listG
  have n3 := skip_len l
  cases e3 : skipL l with
  | nil =>
    rw [skip_behind_nil B e3]
    refine ⟨fun j r h => absurd h (items_nil hs obj _ _ _ j r), fun hB e h => ?_⟩
    rw [skip_bl hB]
    rw [← h]
    exact itemsG_more hs obj _ _ _ _ [] (by simp) (by simp)
  | cons a t =>
    rw [e3] at n3
    rw [skip_behind_cons B e3]
    cases e2 : eatL (endO obj) (a :: t) with
    | some r => rw [eat_behind e2 B]; exact ap_ok
    | none =>
      rw [eat_notc e2 B]
      exact items_ap B hs hv obj _ _ _ _ (a :: t) (by omega) (by rw [List.length_append, List.length_append]; omega)
theorem valueH_ap (B : List UInt8) {lst : Bool → List UInt8 → Out J} (hl : ∀ obj l, Ap B (lst obj l) (lst obj (l ++ B))) (l : List UInt8) : ApV B (valueH numC lst l) (valueH numC lst (l ++ B)) := by
  unfold valueH
  cases e : skipL l with
  | nil =>
    rw [skip_behind_nil B e]
    exact apv_of (ap_no fun hB => by rw [skip_bl hB])
  | cons c t =>
    rw [skip_behind_cons B e]
    show ApV B (if c = 110 then _ else _) (if c = 110 then _ else _)
    by_cases h1 : c = 110
    · simp only [if_pos h1]; exact apv_of (wordJ_ap B (c :: t) (by decide))
    simp only [if_neg h1]
    by_cases h2 : c = 102
    · simp only [if_pos h2]; exact apv_of (wordJ_ap B (c :: t) (by decide))
    simp only [if_neg h2]
    by_cases h3 : c = 116
    · simp only [if_pos h3]; exact apv_of (wordJ_ap B (c :: t) (by decide))
    simp only [if_neg h3]
    by_cases h4 : c = 34
    · simp only [if_pos h4]; exact apv_of (textJ_ap B t)
    simp only [if_neg h4]
    by_cases h5 : c = 91
    · simp only [if_pos h5]; exact apv_of (hl false t)
    simp only [if_neg h5]
    by_cases h6 : c = 123
    · simp only [if_pos h6]; exact apv_of (hl true t)
    simp only [if_neg h6]
    exact numC_ap B (c :: t)
theorem valueG_ap (B : List UInt8) : ∀ (d : Nat) (l : List UInt8), ApV B (valueG numC d l) (valueG numC d (l ++ B))
  | 0, l => by rw [valueG_eq]; exact valueH_ap B (lst := lstG numC 0) (fun _ _ => ap_err) l
  | d + 1, l => by
    rw [valueG_eq]
    exact valueH_ap B (lst := lstG numC (d + 1)) (fun obj l => list_ap B (fun l j r h => valueG_suffix (fun l j r h => (numC_suffix h).1) d l j r h) (valueG_ap B d) obj l) l
/-- Blanks ahead and behind change nothing. -/
theorem parse_blanks {A B : List UInt8} (l : List UInt8) (hA : Bl A) (hB : Bl B) (h : (A ++ l ++ B).length ≤ 65536) : parseG numC (A ++ l ++ B) = parseG numC l := by
  have hl : l.length ≤ 65536 := by
    rw [List.length_append, List.length_append] at h
    omega
  unfold parseG
  rw [if_neg (by omega), if_neg (by omega), List.append_assoc, value_ahead numC 24 hA]
  have hv := valueG_ap B 24 l
  cases e : valueG numC 24 l with
  | error x => rw [hv.2 hB _ e]
  | ok x =>
    obtain ⟨j, r⟩ := x
    rw [hv.1 _ _ e (Or.inl hB)]
    simp only
    cases e2 : skipL r with
    | nil => rw [skip_behind_nil B e2, skip_bl hB]
    | cons a t => rw [skip_behind_cons B e2]; rfl
/-- Another byte behind what is no number: the text says nothing. -/
theorem parse_other {l : List UInt8} {j : J} {c : UInt8} (h : parseG numC l = .ok j) (hk : j.kind ≠ 4) (hc : blank c = false) (hl : l.length < 65536) : parseG numC (l ++ [c]) = .error 3 := by
  unfold parseG at h ⊢
  rw [if_neg (by omega)] at h
  rw [if_neg (by rw [List.length_append]; simp; omega)]
  have hv := valueG_ap [c] 24 l
  cases e : valueG numC 24 l with
  | error x => rw [e] at h; cases h
  | ok x =>
    obtain ⟨j1, r⟩ := x
    rw [e] at h
    simp only at h
    split at h
    · rename_i hr
      injection h with h
      subst h
      rw [hv.1 _ _ e (Or.inr (Or.inr hk))]
      simp only
      have hs : skipL [c] = [c] := by rw [skipL, if_neg (by rw [hc]; decide)]
      rw [skip_behind_nil [c] hr, hs]
      exact if_neg fun h => by cases h
    · cases h
end Go.Proofs.Ytpnffmimpkimeaa.J7
