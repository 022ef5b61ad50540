/-
  Plain facts on JSON texts: what is read is right, and its text is no longer than what was read: values. No program in this text. Conditions: none.
-/
import Derived.Test.YtpnffmimpkimeaaJ7RiteP
namespace Go.Proofs.Ytpnffmimpkimeaa.J7
open Go Go.RowKit Go.Joins Kit Dg

theorem eat_len {c : UInt8} {l r : List UInt8} (h : eatL c l = some r) : l.length = r.length + 1 := by
  cases l with
  | nil => cases h
  | cons a t =>
    rw [eatL] at h
    split at h
    · injection h with h; rw [h]; rfl
    · cases h
theorem word_len : ∀ {w l r : List UInt8}, wordL w l = some r → l.length = r.length + w.length
  | [], l, r, h => by rw [wordL] at h; injection h with h; rw [h]; rfl
  | c :: w, l, r, h => by
    rw [wordL] at h
    cases e : eatL c l with
    | none => rw [e] at h; cases h
    | some l1 =>
      rw [e] at h
      have h1 := word_len h
      have h2 := eat_len e
      rw [List.length_cons]
      omega
theorem skip_len (l : List UInt8) : (skipL l).length ≤ l.length := (skip_suffix l).length_le
/-- What an array's, an object's items are while they are read. -/
structure ItemsOk (d : Nat) (obj : Bool) (keys : List ByteArray) (kids : List J) : Prop where
  kid : ∀ j ∈ kids, RightJ d j
  arr : obj = false → keys = []
  len : obj = true → keys.length = kids.length
  val : ∀ k ∈ keys, U8.validL k.data.toList = true
  nod : (keys.map fun k => k.data.toList).Nodup
  siz : ∀ k ∈ keys, k.size ≤ 300000
theorem right_list_mk {d : Nat} {obj : Bool} {K : List ByteArray} {V : List J} (h : ItemsOk d obj K V) (hV : V.length ≤ 65536) : RightJ (d + 1) (listJ obj K V) := by
  have hK : K.length ≤ 65536 := by
    cases obj with
    | false => rw [h.arr rfl]; exact Nat.zero_le _
    | true => rw [h.len rfl]; exact hV
  refine ⟨?_, ?_, fun _ => rfl, by show (0 : Int) ≤ 9007199254740991; omega, by show (-9007199254740991 : Int) ≤ 0; omega, fun _ => rfl, rfl, ?_, ?_, ?_, fun _ => rfl, h.kid, h.val, h.nod, by show (0 : Nat) ≤ 300000; omega, h.siz, hK, hV⟩
  · show 1 ≤ kindO obj; cases obj <;> decide
  · show kindO obj ≤ 7; cases obj <;> decide
  · intro hk; have hk : kindO obj < 6 := hk; exfalso; revert hk; cases obj <;> decide
  · intro hk
    cases obj with
    | false => exact h.arr rfl
    | true => exact absurd rfl hk
  · intro hk
    cases obj with
    | false => exact absurd (show (6 : Int) = 7 from hk) (by decide)
    | true => exact h.len rfl
theorem right_leaf_mk (d : Nat) (k : Int) (hk : k = 1 ∨ k = 2 ∨ k = 3) : RightJ d (leafJ k) := by
  have : ∀ sub, RightH sub (leafJ k) := fun sub =>
    ⟨by show 1 ≤ k; omega, by show k ≤ 7; omega, fun _ => rfl, by show (0 : Int) ≤ 9007199254740991; omega, by show (-9007199254740991 : Int) ≤ 0; omega, fun _ => rfl, rfl, fun _ => rfl, fun _ => rfl, fun _ => rfl, fun h => absurd (show (6 : Int) ≤ k from h) (by omega), fun _ hk => absurd hk List.not_mem_nil, fun _ hk => absurd hk List.not_mem_nil, List.nodup_nil, by show (0 : Nat) ≤ 300000; omega, fun _ hk => absurd hk List.not_mem_nil, by show (0 : Nat) ≤ 65536; omega, by show (0 : Nat) ≤ 65536; omega⟩
  cases d
  · exact this _
  · exact this _
theorem putKs_snoc (obj : Bool) (k1 : List ByteArray) (j : J) : ∀ (first : Bool) (keys : List ByteArray) (kids : List J), (obj = false → keys = [] ∧ k1 = []) → (obj = true → keys.length = kids.length) →
    putKs obj first (keys ++ k1) (kids ++ [j]) = putKs obj first keys kids ++ putKs obj (first && kids.isEmpty) k1 [j]
  | first, keys, [], h0, h1 => by
    have hk : keys = [] := by
      cases obj with
      | false => exact (h0 rfl).1
      | true => exact List.length_eq_zero_iff.1 (h1 rfl)
    rw [hk, putKs_nil, List.nil_append, List.nil_append, List.nil_append]
    simp
  | first, keys, a :: u, h0, h1 => by
    have hk : ((keys ++ k1).headD ⟨#[]⟩ = keys.headD ⟨#[]⟩ ∨ obj = false) ∧ (keys ++ k1).tail = keys.tail ++ k1 := by
      cases obj with
      | false => obtain ⟨rfl, rfl⟩ := h0 rfl; exact ⟨Or.inr rfl, rfl⟩
      | true =>
        cases keys with
        | nil => have := h1 rfl; simp at this
        | cons k kr => exact ⟨Or.inl rfl, rfl⟩
    have ih := putKs_snoc obj k1 j false keys.tail u (fun h => by obtain ⟨e1, e2⟩ := h0 h; exact ⟨by rw [e1]; rfl, e2⟩) (fun h => by have := h1 h; rw [List.length_tail, this]; rfl)
    rw [List.cons_append, putKs_cons, putKs_cons, hk.2, ih]
    have e : (if obj = true then quoteL ((keys ++ k1).headD ⟨#[]⟩).data.toList ++ [58] else []) = (if obj = true then quoteL (keys.headD ⟨#[]⟩).data.toList ++ [58] else []) := by
      rcases hk.1 with e | e
      · rw [e]
      · rw [e]; rfl
    rw [e]
    simp
/-- A key that was read. -/
theorem keyO_right {obj : Bool} {keys ks : List ByteArray} {l r : List UInt8} {d : Nat} {kids : List J} (hs : ItemsOk d obj keys kids) (hl : l.length ≤ 65536) (h : keyO obj keys l = .ok (ks, r)) :
    ∃ k1, ks = keys ++ k1 ∧ (obj = false → k1 = []) ∧ (obj = true → k1.length = 1) ∧ (∀ k ∈ ks, U8.validL k.data.toList = true) ∧ (ks.map fun k => k.data.toList).Nodup ∧ (∀ k ∈ ks, k.size ≤ 300000) ∧
      (∀ j, (putKs obj true k1 [j]).length + r.length ≤ (putJ j).length + l.length) := by
  cases obj with
  | false =>
    have h : (.ok (keys, l) : Out (List ByteArray)) = .ok (ks, r) := h
    injection h with h
    injection h with e1 e2
    subst e1 e2
    refine ⟨[], by simp, fun _ => rfl, fun h => (by cases h), hs.val, hs.nod, hs.siz, fun j => ?_⟩
    rw [putKs_cons, putKs_nil]
    simp
  | true =>
    have h : keyL keys l = .ok (ks, r) := h
    unfold keyL at h
    cases he : eatL 34 (skipL l) with
    | none => rw [he] at h; cases h
    | some l1 =>
      rw [he] at h
      simp only at h
      cases ht : textL l1 with
      | error e => rw [ht] at h; cases h
      | ok x =>
        obtain ⟨k, l2⟩ := x
        rw [ht] at h
        simp only at h
        cases hb : hasB keys k with
        | true => rw [hb] at h; cases h
        | false =>
          rw [hb, if_neg (by decide)] at h
          unfold colonL at h
          cases hc : eatL 58 (skipL l2) with
          | none => rw [hc] at h; cases h
          | some l3 =>
            rw [hc] at h
            simp only at h
            injection h with h
            injection h with e1 e2
            subst e1 e2
            obtain ⟨g1, g2⟩ := textL_right ht
            have n1 := eat_len he
            have n2 := eat_len hc
            have n3 := skip_len l
            have n4 := skip_len l2
            have n5 := qL_ge k
            have hmem : ∀ (Q : ByteArray → Prop), (∀ x ∈ keys, Q x) → Q ⟨k.toArray⟩ → ∀ x ∈ keys ++ [⟨k.toArray⟩], Q x := fun Q h1 h2 x hx => by
              rcases List.mem_append.1 hx with hx | hx
              · exact h1 x hx
              · rw [List.mem_singleton.1 hx]; exact h2
            refine ⟨[⟨k.toArray⟩], rfl, fun h => (by cases h), fun _ => rfl, hmem _ hs.val g1, ?_, hmem _ hs.siz ?_, fun j => ?_⟩
            · rw [List.map_append, List.nodup_append]
              refine ⟨hs.nod, by simp, ?_⟩
              intro a ha b hb'
              simp only [List.map_cons, List.map_nil, List.mem_singleton] at hb'
              subst hb'
              obtain ⟨x, hx, rfl⟩ := List.mem_map.1 ha
              unfold hasB at hb
              rw [List.any_eq_false] at hb
              have := hb x hx
              simpa using this
            · rw [Lib.size_eq]; show k.length ≤ 300000; omega
            · rw [putKs_cons, putKs_nil]
              simp only [if_pos, List.headD_cons, List.nil_append, List.append_nil, List.length_append, List.length_cons, List.length_nil]
              unfold quoteL
              simp only [List.length_append, List.length_cons, List.length_nil]
              omega
theorem items_right (d : Nat) (obj : Bool) (hv : ∀ l j r, l.length ≤ 65536 → valueG numC d l = .ok (j, r) → RightJ d j ∧ (putJ j).length + r.length ≤ l.length) :
    ∀ (f : Nat) (keys : List ByteArray) (kids : List J) (l : List UInt8) (j : J) (r : List UInt8), l.length ≤ 65536 → ItemsOk d obj keys kids → itemsG (valueG numC d) obj f keys kids l = .ok (j, r) →
      ∃ K V, j = listJ obj K V ∧ ItemsOk d obj K V ∧ (putKs obj true K V).length + 1 + r.length ≤ (putKs obj true keys kids).length + (if kids.isEmpty then 0 else 1) + l.length
  | 0, _, _, _, _, _, _, _, h => by cases h
  | f + 1, keys, kids, l, j, r, hl, hs, h => by
    rw [itemsG] at h
    cases hk : keyO obj keys l with
    | error e => rw [hk] at h; cases h
    | ok x =>
      obtain ⟨ks, l1⟩ := x
      rw [hk] at h
      simp only at h
      obtain ⟨k1, rfl, q1, q2, q3, q4, q5, q6⟩ := keyO_right hs hl hk
      cases hj : valueG numC d l1 with
      | error e => rw [hj] at h; cases h
      | ok y =>
        obtain ⟨j1, l2⟩ := y
        rw [hj] at h
        simp only at h
        have hq := q6 j1
        have hl1 : l1.length ≤ l.length := by
          have := q6 j1
          have h2 : (putJ j1).length ≤ (putKs obj true k1 [j1]).length := by
            rw [putKs_cons]
            simp only [List.length_append]
            omega
          omega
        obtain ⟨w1, w2⟩ := hv l1 j1 l2 (by omega) hj
        have hs' : ItemsOk d obj (keys ++ k1) (kids ++ [j1]) := by
          refine ⟨fun x hx => ?_, fun h => by rw [hs.arr h, q1 h]; rfl, fun h => by rw [List.length_append, List.length_append, hs.len h, q2 h]; rfl, q3, q4, q5⟩
          rcases List.mem_append.1 hx with hx | hx
          · exact hs.kid x hx
          · rw [List.mem_singleton.1 hx]; exact w1
        have hlen : (putKs obj true (keys ++ k1) (kids ++ [j1])).length + l2.length ≤ (putKs obj true keys kids).length + (if kids.isEmpty then 0 else 1) + l.length := by
          rw [putKs_snoc obj k1 j1 true keys kids (fun h => ⟨hs.arr h, q1 h⟩) hs.len, List.length_append, Bool.true_and]
          cases hke : kids.isEmpty with
          | true => simp; omega
          | false =>
            rw [putKs_comma]
            simp
            omega
        have n3 := skip_len l2
        cases he : eatL (endO obj) (skipL l2) with
        | some r1 =>
          rw [he] at h
          simp only at h
          injection h with h
          injection h with e1 e2
          subst e1 e2
          have n1 := eat_len he
          exact ⟨_, _, rfl, hs', by omega⟩
        | none =>
          rw [he] at h
          simp only at h
          cases hc : eatL 44 (skipL l2) with
          | none => rw [hc] at h; cases h
          | some r1 =>
            rw [hc] at h
            simp only at h
            have n1 := eat_len hc
            obtain ⟨K, V, e, hK, hn⟩ := items_right d obj hv f (keys ++ k1) (kids ++ [j1]) r1 j r (by omega) hs' h
            refine ⟨K, V, e, hK, ?_⟩
            have : (kids ++ [j1]).isEmpty = false := by cases kids <;> rfl
            rw [this] at hn
            simp only [Bool.false_eq_true, if_false] at hn
            omega
theorem wordJ_right {d : Nat} {w l r : List UInt8} {k : Int} {j : J} (hk : k = 1 ∨ k = 2 ∨ k = 3) (hw : putJ (leafJ k) = w) (h : wordJ w k l = .ok (j, r)) : RightJ d j ∧ (putJ j).length + r.length ≤ l.length := by
  unfold wordJ at h
  cases e : wordL w l with
  | none => rw [e] at h; cases h
  | some r1 =>
    rw [e] at h
    simp only at h
    injection h with h
    injection h with e1 e2
    subst e1 e2
    have := word_len e
    exact ⟨right_leaf_mk d k hk, by rw [hw]; omega⟩
theorem valueH_right (d : Nat) {lst : Bool → List UInt8 → Out J} (hls : ∀ obj l j r, l.length ≤ 65536 → lst obj l = .ok (j, r) → RightJ d j ∧ (putJ j).length + r.length ≤ l.length + 1) (l : List UInt8) (j : J) (r : List UInt8) (hl : l.length ≤ 65536) (h : valueH numC lst l = .ok (j, r)) :
    RightJ d j ∧ (putJ j).length + r.length ≤ l.length := by
  have n1 := skip_len l
  unfold valueH at h
  cases hs : skipL l with
  | nil => rw [hs] at h; cases h
  | cons c u =>
    rw [hs] at h
    simp only at h
    have n2 : (c :: u).length ≤ l.length := by rw [← hs]; exact n1
    have n3 : u.length + 1 ≤ l.length := n2
    split at h
    · obtain ⟨h1, h2⟩ := wordJ_right (d := d) (Or.inl rfl) (by unfold leafJ; rw [putJ]; rfl) h; exact ⟨h1, by omega⟩
    split at h
    · obtain ⟨h1, h2⟩ := wordJ_right (d := d) (Or.inr (Or.inl rfl)) (by unfold leafJ; rw [putJ]; rfl) h; exact ⟨h1, by omega⟩
    split at h
    · obtain ⟨h1, h2⟩ := wordJ_right (d := d) (Or.inr (Or.inr rfl)) (by unfold leafJ; rw [putJ]; rfl) h; exact ⟨h1, by omega⟩
    split at h
    · unfold textJ at h
      cases ht : textL u with
      | error e => rw [ht] at h; cases h
      | ok x =>
        obtain ⟨t, r1⟩ := x
        rw [ht] at h
        simp only at h
        injection h with h
        injection h with e1 e2
        subst e1 e2
        obtain ⟨g1, g2⟩ := textL_right ht
        have g3 := qL_ge t
        have hp : putJ (strJ t) = quoteL t := put_str ⟨t.toArray⟩
        refine ⟨right_str ⟨t.toArray⟩ (by rw [Lib.size_eq]; show t.length ≤ 300000; omega) g1 d, ?_⟩
        rw [hp]
        unfold quoteL
        simp only [List.length_cons, List.length_append, List.length_nil]
        omega
    split at h
    · obtain ⟨h1, h2⟩ := hls false u j r (by omega) h; exact ⟨h1, by omega⟩
    split at h
    · obtain ⟨h1, h2⟩ := hls true u j r (by omega) h; exact ⟨h1, by omega⟩
    · obtain ⟨n, rfl, g1, g2, g3⟩ := numC_right h
      exact ⟨right_num n g1 g2 d, by rw [put_num]; omega⟩
theorem list_right (d : Nat) (obj : Bool) (hv : ∀ l j r, l.length ≤ 65536 → valueG numC d l = .ok (j, r) → RightJ d j ∧ (putJ j).length + r.length ≤ l.length) (l : List UInt8) (j : J) (r : List UInt8) (hl : l.length ≤ 65536) (h : listG (valueG numC d) obj l = .ok (j, r)) :
    RightJ (d + 1) j ∧ (putJ j).length + r.length ≤ l.length + 1 := by
  have n1 := skip_len l
  unfold listG at h
  cases he : eatL (endO obj) (skipL l) with
  | some r1 =>
    rw [he] at h
    simp only at h
    injection h with h
    injection h with e1 e2
    subst e1 e2
    have n2 := eat_len he
    refine ⟨right_list_mk ⟨fun _ h => absurd h List.not_mem_nil, fun _ => rfl, fun _ => rfl, fun _ h => absurd h List.not_mem_nil, List.nodup_nil, fun _ h => absurd h List.not_mem_nil⟩ (Nat.zero_le _), ?_⟩
    rw [putJ_list, putKs_nil]
    simp only [List.nil_append, List.length_cons, List.length_nil]
    omega
  | none =>
    rw [he] at h
    simp only at h
    obtain ⟨K, V, rfl, hK, hn⟩ := items_right d obj hv _ [] [] (skipL l) j r (by omega) ⟨fun _ h => absurd h List.not_mem_nil, fun _ => rfl, fun _ => rfl, fun _ h => absurd h List.not_mem_nil, List.nodup_nil, fun _ h => absurd h List.not_mem_nil⟩ h
    rw [putKs_nil] at hn
    simp only [List.isEmpty_nil, if_pos, List.length_nil] at hn
    have n2 := putKs_len d obj true K V hK.kid
    refine ⟨right_list_mk hK (by omega), ?_⟩
    rw [putJ_list]
    simp only [List.length_cons, List.length_append, List.length_nil]
    omega
theorem value_right (d : Nat) : ∀ l j r, l.length ≤ 65536 → valueG numC d l = .ok (j, r) → RightJ d j ∧ (putJ j).length + r.length ≤ l.length := by
  induction d with
  | zero => exact fun l j r hl h => valueH_right 0 (lst := lstG numC 0) (fun _ _ j r _ h => by have h : (.error 4 : Out J) = .ok (j, r) := h; cases h) l j r hl (by rw [valueG_eq] at h; exact h)
  | succ d ih => exact fun l j r hl h => valueH_right (d + 1) (lst := lstG numC (d + 1)) (fun obj l j r hl h => list_right d obj ih l j r hl h) l j r hl (by rw [valueG_eq] at h; exact h)
/-- What the program reads is right; its text is no longer; and it is read back. -/
theorem parse_right {l : List UInt8} {j : J} (h : parseG numC l = .ok j) : RightJ 24 j ∧ (putJ j).length ≤ l.length ∧ l.length ≤ 65536 := by
  unfold parseG at h
  split at h
  · cases h
  · rename_i hl
    cases hv : valueG numC 24 l with
    | error e => rw [hv] at h; cases h
    | ok x =>
      obtain ⟨j1, r⟩ := x
      rw [hv] at h
      simp only at h
      split at h
      · injection h with h
        subst h
        obtain ⟨h1, h2⟩ := value_right 24 l j1 r (by omega) hv
        exact ⟨h1, by omega, by omega⟩
      · cases h
end Go.Proofs.Ytpnffmimpkimeaa.J7
