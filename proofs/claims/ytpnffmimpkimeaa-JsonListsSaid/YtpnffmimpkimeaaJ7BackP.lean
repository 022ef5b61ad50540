/-
  Plain facts on JSON texts: a right value's text is read back. No program in this text. Conditions: none.
-/
import Derived.Test.YtpnffmimpkimeaaJ7TwicP
namespace Go.Proofs.Ytpnffmimpkimeaa.J7
open Go Go.RowKit Go.Joins Kit Dg

theorem putJ_leaf (k n : Int) (t : ByteArray) (hk : k = 1 ∨ k = 2 ∨ k = 3 ∨ k = 4 ∨ k = 5) :
    putJ (.mk k n t [] []) = if k = 1 then nullW else if k = 2 then falseW else if k = 3 then trueW else if k = 4 then numT n else quoteL t.data.toList := by
  rw [putJ]
  rcases hk with rfl | rfl | rfl | rfl | rfl <;> rfl
theorem putJ_list (obj : Bool) (keys : List ByteArray) (kids : List J) : putJ (listJ obj keys kids) = (if obj then 123 else 91) :: (putKs obj true keys kids ++ [endO obj]) := by
  unfold listJ
  rw [putJ]
  cases obj <;> rfl
/-- A text's first byte. -/
theorem put_head (d : Nat) (j : J) (h : RightJ d j) : ∃ c r, putJ j = c :: r ∧ blank c = false ∧ c ≠ 93 := by
  obtain ⟨k, n, t, keys, kids⟩ := j
  rcases right_cases d k n t keys kids h with ⟨rfl, rfl, hk, _⟩ | ⟨d', rfl, rfl, rfl, ⟨obj, hk, _⟩, _⟩
  · rw [putJ_leaf k n t hk]
    rcases hk with rfl | rfl | rfl | rfl | rfl
    · exact ⟨_, _, rfl, by decide, by decide⟩
    · exact ⟨_, _, rfl, by decide, by decide⟩
    · exact ⟨_, _, rfl, by decide, by decide⟩
    · obtain ⟨c, r, e, hc⟩ := numT_head n
      refine ⟨c, r, e, ?_, ?_⟩
      · rcases hc with rfl | hc
        · decide
        · exact (dig_ne hc).2.1
      · rcases hc with rfl | hc
        · decide
        · intro e; subst e; exact absurd hc (by decide)
    · exact ⟨_, _, rfl, by decide, by decide⟩
  · subst hk
    have := putJ_list obj keys kids
    refine ⟨_, _, this, ?_, ?_⟩ <;> cases obj <;> decide
theorem putKs_cons (obj first : Bool) (keys : List ByteArray) (j : J) (r : List J) : putKs obj first keys (j :: r) = (if first then [] else [44]) ++ ((if obj then quoteL (keys.headD ⟨#[]⟩).data.toList ++ [58] else []) ++ (putJ j ++ putKs obj false keys.tail r)) := by rw [putKs]
theorem putKs_comma (obj : Bool) (keys : List ByteArray) (j : J) (r : List J) : putKs obj false keys (j :: r) = 44 :: putKs obj true keys (j :: r) := by
  rw [putKs_cons, putKs_cons]
  rfl
theorem putKs_len (d : Nat) (obj : Bool) : ∀ (first : Bool) (keys : List ByteArray) (kids : List J), (∀ j ∈ kids, RightJ d j) → kids.length ≤ (putKs obj first keys kids).length
  | _, _, [], _ => Nat.zero_le _
  | first, keys, j :: r, h => by
    have ih := putKs_len d obj false keys.tail r fun x hx => h x (List.mem_cons_of_mem _ hx)
    obtain ⟨c, u, e, _⟩ := put_head d j (h j List.mem_cons_self)
    rw [putKs_cons, e]
    simp only [List.length_append, List.length_cons]
    omega
theorem hasB_false {ks : List ByteArray} {k : ByteArray} {r : List ByteArray} (h : ((ks ++ k :: r).map fun k => k.data.toList).Nodup) : hasB ks k.data.toList = false := by
  unfold hasB
  rw [List.any_eq_false]
  intro x hx
  rw [List.map_append, List.nodup_append] at h
  have := h.2.2 _ (List.mem_map_of_mem hx) k.data.toList (by rw [List.map_cons]; exact List.mem_cons_self)
  simpa using this
/-- The items' text is read back. -/
theorem items_put (d : Nat) (obj : Bool) (t : List UInt8) (hv : ∀ j, RightJ d j → ∀ t, digsL t = [] → restL t = t → valueG numC d (putJ j ++ t) = .ok (j, t)) :
    ∀ (kids : List J) (f : Nat) (ks keys : List ByteArray) (kids0 : List J), kids ≠ [] → kids.length ≤ f → (∀ j ∈ kids, RightJ d j) → (obj = false → keys = []) → (obj = true → keys.length = kids.length) →
      (∀ k ∈ keys, U8.validL k.data.toList = true) → ((ks ++ keys).map fun k => k.data.toList).Nodup →
      itemsG (valueG numC d) obj f ks kids0 (putKs obj true keys kids ++ endO obj :: t) = .ok (listJ obj (ks ++ keys) (kids0 ++ kids), t)
  | [], _, _, _, _, h, _, _, _, _, _, _ => absurd rfl h
  | j :: r, f, ks, keys, kids0, _, hf, hr, ho, hoo, hkv, hnd => by
    obtain ⟨f, rfl⟩ : ∃ g, f = g + 1 := ⟨f - 1, by rw [List.length_cons] at hf; omega⟩
    obtain ⟨X, hX⟩ : ∃ X, putKs obj false keys.tail r ++ endO obj :: t = X := ⟨_, rfl⟩
    have hXd : digsL X = [] ∧ restL X = X := by
      rw [← hX]
      cases r with
      | nil => rw [putKs_nil]; cases obj <;> exact ⟨digs_none (by decide), rest_none (by decide)⟩
      | cons a u => rw [putKs_comma]; exact ⟨digs_none (by decide), rest_none (by decide)⟩
    have hval := hv j (hr j List.mem_cons_self) X hXd.1 hXd.2
    -- the key, if there is one
    have hkey : ∃ k1 krest, keys = k1 ++ krest ∧ keys.tail = krest ∧ keyO obj ks (putKs obj true keys (j :: r) ++ endO obj :: t) = .ok (ks ++ k1, putJ j ++ X) := by
      rw [putKs_cons, ← hX]
      cases obj with
      | false =>
        obtain rfl := ho rfl
        refine ⟨[], [], rfl, rfl, ?_⟩
        show (.ok (ks, _) : Out (List ByteArray)) = _
        simp
      | true =>
        cases keys with
        | nil => have := hoo rfl; simp at this
        | cons k kr =>
          refine ⟨[k], kr, rfl, rfl, ?_⟩
          have hq := keyL_quote ks k.data.toList (putJ j ++ (putKs true false kr r ++ endO true :: t)) (hkv k List.mem_cons_self)
          rw [hasB_false hnd, if_neg (by decide)] at hq
          rw [show ∀ keys l, keyO true keys l = keyL keys l from fun _ _ => rfl]
          unfold quoteL
          simp only [if_pos, List.headD_cons, List.nil_append, List.cons_append, List.append_assoc, List.tail_cons]
          exact hq
    obtain ⟨k1, krest, e1, e2, hkey⟩ := hkey
    rw [itemsG, hkey]
    simp only
    rw [hval]
    simp only
    cases r with
    | nil =>
      rw [putKs_nil] at hX
      have hkr : krest = [] := by
        cases obj with
        | false => have := ho rfl; rw [e1] at this; exact (List.append_eq_nil_iff.1 this).2
        | true =>
          have h1 := hoo rfl
          have h2 : krest.length = keys.length - 1 := by rw [← e2, List.length_tail]
          rw [h1] at h2
          exact List.length_eq_zero_iff.1 (by rw [h2]; rfl)
      rw [hkr, List.append_nil] at e1
      rw [← hX, e1, List.nil_append, skip_head (by cases obj <;> decide), eatL, if_pos rfl]
    | cons a u =>
      rw [putKs_comma] at hX
      have ih := items_put d obj t hv (a :: u) f (ks ++ k1) krest (kids0 ++ [j]) (by simp) (by simpa using hf) (fun x hx => hr x (List.mem_cons_of_mem _ hx))
        (fun h => by have := ho h; rw [e1] at this; exact (List.append_eq_nil_iff.1 this).2)
        (fun h => by have := hoo h; rw [← e2, List.length_tail, this]; rfl)
        (fun k hk => hkv k (by rw [e1]; exact List.mem_append_right _ hk))
        (by rw [List.append_assoc, ← e1]; exact hnd)
      rw [← hX, List.cons_append, skip_head (by decide), eatL, if_neg (by cases obj <;> decide)]
      simp only
      rw [eatL, if_pos rfl]
      simp only
      rw [e2, ih, List.append_assoc, ← e1, List.append_assoc]
      rfl
theorem value_str (num : List UInt8 → Out J) (d : Nat) (r : List UInt8) : valueG num d (34 :: r) = textJ r := by
  rw [valueG_eq]
  unfold valueH
  rw [skip_head (by decide)]
  simp only
  rw [if_neg (by decide), if_neg (by decide), if_neg (by decide), if_pos trivial]
theorem value_leaf (d : Nat) (k n : Int) (t : ByteArray) (keys : List ByteArray) (kids : List J)
    (h : keys = [] ∧ kids = [] ∧ (k = 1 ∨ k = 2 ∨ k = 3 ∨ k = 4 ∨ k = 5) ∧ (k ≠ 4 → n = 0) ∧ (k ≠ 5 → t = ⟨#[]⟩) ∧ n ≤ 9007199254740991 ∧ -9007199254740991 ≤ n ∧ t.size ≤ 300000 ∧ U8.validL t.data.toList = true)
    (T : List UInt8) (h1 : digsL T = []) (h2 : restL T = T) : valueG numC d (putJ (.mk k n t keys kids) ++ T) = .ok (.mk k n t keys kids, T) := by
  obtain ⟨rfl, rfl, hk, h3, h6, h4, h5, h15, h7⟩ := h
  rw [putJ_leaf k n t hk]
  rcases hk with rfl | rfl | rfl | rfl | rfl
  · obtain rfl := h3 (by decide)
    obtain rfl := h6 (by decide)
    rw [valueG_eq]
    rfl
  · obtain rfl := h3 (by decide)
    obtain rfl := h6 (by decide)
    rw [valueG_eq]
    rfl
  · obtain rfl := h3 (by decide)
    obtain rfl := h6 (by decide)
    rw [valueG_eq]
    rfl
  · obtain rfl := h6 (by decide)
    exact value_numT d n h4 h5 T h1 h2
  · obtain rfl := h3 (by decide)
    show valueG numC d (quoteL t.data.toList ++ T) = _
    unfold quoteL
    rw [List.cons_append, value_str, List.append_assoc]
    unfold textJ
    rw [show [34] ++ T = 34 :: T from rfl, textL_quote _ _ h7]
    rfl
/-- A value's text is read back. -/
theorem value_put (d : Nat) : ∀ j, RightJ d j → ∀ T, digsL T = [] → restL T = T → valueG numC d (putJ j ++ T) = .ok (j, T) := by
  induction d with
  | zero =>
    intro j h T h1 h2
    obtain ⟨k, n, t, keys, kids⟩ := j
    rcases right_cases 0 k n t keys kids h with hl | ⟨d', hd, _⟩
    · exact value_leaf 0 k n t keys kids hl T h1 h2
    · omega
  | succ d ih =>
    intro j h T h1 h2
    obtain ⟨k, n, t, keys, kids⟩ := j
    rcases right_cases (d + 1) k n t keys kids h with hl | ⟨d', hd, rfl, rfl, ⟨obj, hk, ho, hoo⟩, hr, h18, h17, h16, h13, h14⟩
    · exact value_leaf (d + 1) k n t keys kids hl T h1 h2
    · obtain rfl : d = d' := by omega
      subst hk
      have e := putJ_list obj keys kids
      rw [show J.mk (if obj = true then 7 else 6) 0 ⟨#[]⟩ keys kids = listJ obj keys kids from rfl, e]
      have hrm : ∀ j ∈ kids, RightJ d j := fun j hj => by obtain ⟨i, hi, rfl⟩ := List.getElem_of_mem hj; exact hr i hi
      have hhead : listG (valueG numC d) obj (putKs obj true keys kids ++ endO obj :: T) = .ok (listJ obj keys kids, T) := by
        cases kids with
        | nil =>
          have hkn : keys = [] := by
            cases obj with
            | false => exact ho rfl
            | true => exact List.length_eq_zero_iff.1 (hoo rfl)
          rw [hkn, putKs_nil, List.nil_append]
          unfold listG
          rw [skip_head (by cases obj <;> decide), eatL, if_pos rfl]
        | cons a u =>
          obtain ⟨c, r, hc, hb, hne⟩ : ∃ c r, putKs obj true keys (a :: u) = c :: r ∧ blank c = false ∧ c ≠ endO obj := by
            rw [putKs_cons]
            cases obj with
            | true => exact ⟨34, _, rfl, by decide, by decide⟩
            | false =>
              obtain ⟨c, r, e, hb, hne⟩ := put_head d a (hrm a List.mem_cons_self)
              rw [e]
              exact ⟨c, _, rfl, hb, hne⟩
          have hi := items_put d obj T ih (a :: u) ((putKs obj true keys (a :: u) ++ endO obj :: T).length + 1) [] keys [] (by simp) (by have := putKs_len d obj true keys (a :: u) hrm; rw [List.length_append]; omega) hrm ho hoo h13 h14
          rw [hc, List.cons_append] at hi ⊢
          unfold listG
          rw [skip_head hb, eatL, if_neg hne]
          simp only
          rw [hi]
          rfl
      rw [show ((if obj = true then (123 : UInt8) else 91) :: (putKs obj true keys kids ++ [endO obj])) ++ T = (if obj = true then 123 else 91) :: (putKs obj true keys kids ++ endO obj :: T) by simp]
      cases obj with
      | false => rw [if_neg (by decide), value_arr]; exact hhead
      | true => rw [if_pos rfl, value_obj]; exact hhead
theorem parse_put (j : J) (h : RightJ 24 j) (hl : (putJ j).length ≤ 65536) : parseG numC (putJ j) = .ok j := by
  have hv := value_put 24 j h [] rfl rfl
  rw [List.append_nil] at hv
  unfold parseG
  rw [if_neg (by omega), hv]
  rfl
end Go.Proofs.Ytpnffmimpkimeaa.J7
