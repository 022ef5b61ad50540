/-
  Plain facts on JSON texts: objects of one key and of two. No program in this text. Conditions: none.
-/
import Derived.Test.YtpnffmimpkimeaaJ7QuoP
namespace Go.Proofs.Ytpnffmimpkimeaa.J7
open Go Go.RowKit Go.Joins Kit Dg

theorem keyL_quote (keys : List ByteArray) (k r : List UInt8) (hv : U8.validL k = true) : keyL keys (34 :: (qL k ++ 34 :: 58 :: r)) = if hasB keys k then .error 5 else .ok (keys ++ [⟨k.toArray⟩], r) := by
  unfold keyL
  rw [skip_head (by decide), eatL, if_pos rfl]
  simp only
  rw [textL_quote k _ hv]
  simp only
  unfold colonL
  rw [skip_head (by decide), eatL, if_pos rfl]
theorem two_value (n : Nat) (t : List UInt8) (hd : digsL t = []) (hr : restL t = t) : valueG numC n (50 :: t) = .ok (numJ 2, t) := by
  have h := value_numT n 2 (by omega) (by omega) t hd hr
  rw [show numT 2 = [50] from by rw [numT_pos (by omega)]; exact Lib.decDigits_one (by decide)] at h
  exact h
/-- An object of one key. -/
theorem obj_one (n : Nat) (k : List UInt8) (c : UInt8) (t : List UInt8) (hv : U8.validL k = true) (j : J) (hval : valueG numC n (c :: 125 :: t) = .ok (j, 125 :: t)) : ∃ j', valueG numC (n + 1) (123 :: 34 :: (qL k ++ 34 :: 58 :: c :: 125 :: t)) = .ok (j', t) := by
  rw [value_obj]
  unfold listG
  rw [skip_head (by decide), show endO true = 125 from rfl, eatL, if_neg (by decide)]
  simp only
  rw [itemsG, show ∀ keys l, keyO true keys l = keyL keys l from fun _ _ => rfl, keyL_quote _ _ _ hv, show hasB [] k = false from rfl, if_neg (by decide)]
  simp only
  rw [hval]
  simp only
  rw [skip_head (by decide), show endO true = 125 from rfl, eatL, if_pos rfl]
  exact ⟨_, rfl⟩
theorem hasB_one (a b : List UInt8) : hasB ([] ++ [⟨a.toArray⟩]) b = (a == b) := by
  unfold hasB
  rw [List.nil_append, List.any_cons, List.any_nil, Bool.or_false]
/-- An object of two keys. -/
theorem obj_two (n : Nat) (a b : List UInt8) (ha : U8.validL a = true) (hb : U8.validL b = true) :
    (a = b → valueG numC (n + 1) (123 :: 34 :: (qL a ++ 34 :: 58 :: 49 :: 44 :: 34 :: (qL b ++ [34, 58, 50, 125]))) = .error 5) ∧
    (a ≠ b → ∃ j, valueG numC (n + 1) (123 :: 34 :: (qL a ++ 34 :: 58 :: 49 :: 44 :: 34 :: (qL b ++ [34, 58, 50, 125]))) = .ok (j, [])) := by
  rw [value_obj]
  unfold listG
  rw [skip_head (by decide), show endO true = 125 from rfl, eatL, if_neg (by decide)]
  simp only
  rw [itemsG, show ∀ keys l, keyO true keys l = keyL keys l from fun _ _ => rfl, keyL_quote _ _ _ ha, show hasB [] a = false from rfl, if_neg (by decide)]
  simp only
  rw [one_value n _ (digs_none (by decide)) (rest_none (by decide))]
  simp only
  rw [skip_head (by decide), show endO true = 125 from rfl, eatL, if_neg (by decide)]
  simp only
  rw [eatL, if_pos rfl]
  simp only
  rw [show (34 :: (qL a ++ 34 :: 58 :: 49 :: 44 :: 34 :: (qL b ++ [34, 58, 50, 125]))).length = ((qL a ++ 34 :: 58 :: 49 :: 44 :: 34 :: (qL b ++ [34, 58, 50, 125])).length) + 1 from rfl]
  rw [itemsG, show ∀ keys l, keyO true keys l = keyL keys l from fun _ _ => rfl, keyL_quote _ _ _ hb, hasB_one]
  refine ⟨fun h => ?_, fun h => ?_⟩
  · rw [show (a == b) = true by simpa using h, if_pos rfl]
  · rw [show (a == b) = false by simpa using h, if_neg (by decide)]
    simp only
    rw [two_value n _ (digs_none (by decide)) (rest_none (by decide))]
    simp only
    rw [skip_head (by decide), show endO true = 125 from rfl, eatL, if_pos rfl]
    exact ⟨_, rfl⟩
/-- The law's two texts. -/
def twoL (a b : List UInt8) : List UInt8 := 123 :: 34 :: (qL a ++ 34 :: 58 :: 49 :: 44 :: 34 :: (qL b ++ [34, 58, 50, 125]))
def apartL (a b : List UInt8) : List UInt8 := 91 :: 123 :: 34 :: (qL a ++ 34 :: 58 :: 49 :: 125 :: 44 :: 123 :: 34 :: (qL b ++ [34, 58, 50, 125, 93]))
theorem two_parse (a b : List UInt8) (ha : U8.validL a = true) (hb : U8.validL b = true) (la : a.length ≤ 300) (lb : b.length ≤ 300) : (a = b → parseG numC (twoL a b) = .error 5) ∧ (a ≠ b → ∃ j, parseG numC (twoL a b) = .ok j) := by
  have h1 := qL_length a
  have h2 := qL_length b
  obtain ⟨h3, h4⟩ := obj_two 23 a b ha hb
  have hl : ¬ 65536 < (twoL a b).length := by unfold twoL; simp only [List.length_cons, List.length_append, List.length_nil]; omega
  unfold parseG
  rw [if_neg hl]
  unfold twoL
  refine ⟨fun h => ?_, fun h => ?_⟩
  · rw [h3 h]
  · obtain ⟨j, hj⟩ := h4 h
    rw [hj]
    exact ⟨j, rfl⟩
theorem apart_parse (a b : List UInt8) (ha : U8.validL a = true) (hb : U8.validL b = true) (la : a.length ≤ 300) (lb : b.length ≤ 300) : ∃ j, parseG numC (apartL a b) = .ok j := by
  have h1 := qL_length a
  have h2 := qL_length b
  have hl : ¬ 65536 < (apartL a b).length := by unfold apartL; simp only [List.length_cons, List.length_append, List.length_nil]; omega
  obtain ⟨j1, e1⟩ := obj_one 22 a 49 (44 :: 123 :: 34 :: (qL b ++ [34, 58, 50, 125, 93])) ha _ (one_value 22 _ (digs_none (by decide)) (rest_none (by decide)))
  obtain ⟨j2, e2⟩ := obj_one 22 b 50 [93] hb _ (two_value 22 _ (digs_none (by decide)) (rest_none (by decide)))
  unfold parseG
  rw [if_neg hl]
  unfold apartL
  rw [value_arr, list_arr _ rfl (by decide) (by decide), itemsG, show ∀ keys l, keyO false keys l = .ok (keys, l) from fun _ _ => rfl]
  simp only
  rw [e1]
  simp only
  rw [skip_head (by decide), show endO false = 93 from rfl, eatL, if_neg (by decide)]
  simp only
  rw [eatL, if_pos rfl]
  simp only
  rw [List.length_cons, itemsG, show ∀ keys l, keyO false keys l = .ok (keys, l) from fun _ _ => rfl]
  simp only
  rw [e2]
  simp only
  rw [skip_head (by decide), show endO false = 93 from rfl, eatL, if_pos rfl]
  exact ⟨_, rfl⟩
/-- A text's own value. -/
theorem right_str (t : ByteArray) (ht : t.size ≤ 300000) (hv : U8.validL t.data.toList = true) (d : Nat) : RightJ d (.mk 5 0 t [] []) := by
  have : ∀ sub, RightH sub (.mk 5 0 t [] []) := fun sub =>
    ⟨by show (1 : Int) ≤ 5; omega, by show (5 : Int) ≤ 7; omega, fun _ => rfl, by show (0 : Int) ≤ 9007199254740991; omega, by show (-9007199254740991 : Int) ≤ 0; omega, fun h => absurd rfl h, hv, fun _ => rfl, fun _ => rfl, fun _ => rfl, fun h => absurd (show (6 : Int) ≤ 5 from h) (by omega), fun _ hk => absurd hk List.not_mem_nil, fun _ hk => absurd hk List.not_mem_nil, List.nodup_nil, ht, fun _ hk => absurd hk List.not_mem_nil, by show (0 : Nat) ≤ 65536; omega, by show (0 : Nat) ≤ 65536; omega⟩
  cases d
  · exact this _
  · exact this _
theorem put_str (t : ByteArray) : putJ (.mk 5 0 t [] []) = quoteL t.data.toList := by rw [putJ]; rfl
end Go.Proofs.Ytpnffmimpkimeaa.J7
