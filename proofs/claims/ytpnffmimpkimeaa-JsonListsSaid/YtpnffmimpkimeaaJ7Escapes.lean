/-
  The law JsonEscapes returns true, of any number. Conditions: none.
-/
import Derived.Test.YtpnffmimpkimeaaJ7Hx
import Derived.Test.YtpnffmimpkimeaaU8Ref
import Derived.Deep.RegionWith
namespace Go.Proofs.Ytpnffmimpkimeaa.J7
open Go Go.RowKit Go.Joins Kit

/-! ### Plain -/
theorem hx_dg : ∀ d : Nat, d < 16 → Q4.hx (dgE d) = some d := by decide +kernel
theorem hexL_E (n : Nat) (t : List UInt8) : hexL (hexE n ++ t) = .ok (n % 65536, t) := by
  have h1 := hx_dg (n / 4096 % 16) (by omega)
  have h2 := hx_dg (n / 256 % 16) (by omega)
  have h3 := hx_dg (n / 16 % 16) (by omega)
  have h4 := hx_dg (n % 16) (by omega)
  unfold hexL hexE
  rw [show [dgE (n / 4096 % 16), dgE (n / 256 % 16), dgE (n / 16 % 16), dgE (n % 16)] ++ t = dgE (n / 4096 % 16) :: dgE (n / 256 % 16) :: dgE (n / 16 % 16) :: dgE (n % 16) :: t from rfl]
  rw [hexF, h1]
  simp only
  rw [hexF, h2]
  simp only
  rw [hexF, h3]
  simp only
  rw [hexF, h4]
  simp only
  rw [hexF, show 16 * (16 * (16 * (16 * 0 + n / 4096 % 16) + n / 256 % 16) + n / 16 % 16) + n % 16 = n % 65536 by omega]
/-- A text in its signs, as a whole. -/
theorem parse_str (r : List UInt8) (hl : r.length + 1 ≤ 65536) : parseG numC (34 :: r) = match textL r with
    | .error e => .error e
    | .ok (t, r1) => if skipL r1 = [] then .ok (strJ t) else .error 3 := by
  unfold parseG
  rw [if_neg (by simp; omega), valueG_eq]
  have e : valueH numC (lstG numC 24) (34 :: r) = textJ r := by
    unfold valueH
    rw [skip_head (by decide)]
    simp only
    rw [if_neg (by decide), if_neg (by decide), if_neg (by decide), if_pos trivial]
  rw [e]
  unfold textJ
  cases textL r with
  | error e => rfl
  | ok x => obtain ⟨t, r1⟩ := x; rfl
/-- One escape by four digits, and what it leaves. -/
theorem esc_u (n : Nat) (t : List UInt8) : escapeL (117 :: (hexE n ++ t)) = if 55296 ≤ n % 65536 ∧ n % 65536 ≤ 56319 then lowL (n % 65536) t else if 56320 ≤ n % 65536 ∧ n % 65536 ≤ 57343 then .error 3 else .ok (U8.putL ((n % 65536 : Nat) : Int), t) := by
  rw [escapeL]
  show unitL (hexE n ++ t) = _
  unfold unitL
  rw [hexL_E]
theorem low_E (v m : Nat) (t : List UInt8) : lowL v (92 :: 117 :: (hexE m ++ t)) = if 56320 ≤ m % 65536 ∧ m % 65536 ≤ 57343 then .ok (U8.putL ((65536 + (v - 55296) * 1024 + (m % 65536 - 56320) : Nat) : Int), t) else .error 3 := by
  unfold lowL
  rw [eatL, if_pos rfl]
  simp only
  rw [eatL, if_pos rfl]
  simp only
  rw [hexL_E]
theorem textL_a (l : List UInt8) : textL (97 :: l) = textF (l.length + 1) [97] l := by
  unfold textL
  rw [List.length_cons, textF_plain (by decide) (by decide) (by decide), plain_one 97 (by decide)]
  rfl
theorem textF_b (f : Nat) (out : List UInt8) (hf : 2 ≤ f) : textF f out [98, 34] = .ok (out ++ [98], []) := by
  obtain ⟨f, rfl⟩ : ∃ g, f = g + 1 := ⟨f - 1, by omega⟩
  rw [textF_plain (by decide) (by decide) (by decide), plain_one 98 (by decide)]
  simp only
  obtain ⟨f, rfl⟩ : ∃ g, f = g + 1 := ⟨f - 1, by omega⟩
  rw [textF, if_pos rfl]
def escL (n : Nat) : List UInt8 := if 65535 < n then 92 :: 117 :: (hexE (55296 + (n - 65536) / 1024) ++ 92 :: 117 :: hexE (56320 + (n - 65536) % 1024)) else 92 :: 117 :: hexE n
theorem hexE_length (n : Nat) : (hexE n).length = 4 := rfl
theorem pair_back (n : Nat) (hn : n ≤ 1114111) (h : 65535 < n) : 65536 + ((55296 + (n - 65536) / 1024) % 65536 - 55296) * 1024 + ((56320 + (n - 65536) % 1024) % 65536 - 56320) = n := by omega
theorem pair_high (n : Nat) (hn : n ≤ 1114111) : 55296 ≤ (55296 + (n - 65536) / 1024) % 65536 ∧ (55296 + (n - 65536) / 1024) % 65536 ≤ 56319 := by omega
theorem pair_low (n : Nat) : 56320 ≤ (56320 + (n - 65536) % 1024) % 65536 ∧ (56320 + (n - 65536) % 1024) % 65536 ≤ 57343 := by omega
theorem strJ_cat (a : List UInt8) : (.ok (strJ ([97] ++ a ++ [98])) : Except Nat J) = .ok (strJ (97 :: ([] ++ (a ++ [98])))) := rfl
theorem pair_ok (A B : Nat) (hA : 55296 ≤ A % 65536 ∧ A % 65536 ≤ 56319) (hB : 56320 ≤ B % 65536 ∧ B % 65536 ≤ 57343) (m : Nat) (hm : 65536 + (A % 65536 - 55296) * 1024 + (B % 65536 - 56320) = m) :
    parseG numC (34 :: 97 :: ((92 :: 117 :: (hexE A ++ 92 :: 117 :: hexE B)) ++ [98, 34])) = .ok (strJ ([97] ++ U8.putL (m : Int) ++ [98])) := by
  rw [parse_str _ (by simp [hexE_length]), textL_a]
  simp only [List.cons_append, List.append_assoc, List.length_cons, List.length_append, hexE_length, List.length_nil]
  rw [textF_esc, esc_u, if_pos hA, low_E, if_pos hB, hm]
  simp only
  rw [textF_b _ _ (by decide)]
  simp only
  rw [if_pos (show skipL [] = [] from rfl)]
  simp only [List.nil_append, List.cons_append]
theorem escape_ok (n : Nat) (hn : n ≤ 1114111) (hs : ¬ (55296 ≤ n ∧ n ≤ 57343)) : parseG numC (34 :: 97 :: (escL n ++ [98, 34])) = .ok (strJ ([97] ++ U8.putL (n : Int) ++ [98])) := by
  unfold escL
  split
  · rename_i h
    exact pair_ok _ _ (pair_high n hn) (pair_low n) n (pair_back n hn h)
  · rename_i h
    rw [parse_str _ (by simp [hexE_length]), textL_a]
    simp only [List.cons_append, List.length_cons, List.length_append, hexE_length, List.length_nil]
    rw [textF_esc, esc_u, if_neg (by omega), if_neg (by omega)]
    simp only
    rw [textF_b _ _ (by decide)]
    simp only
    rw [if_pos (show skipL [] = [] from rfl), show n % 65536 = n by omega]
    simp only [List.nil_append, List.cons_append]
theorem escape_half (n : Nat) (hs : 55296 ≤ n ∧ n ≤ 57343) : parseG numC (34 :: 97 :: (escL n ++ [98, 34])) = .error 3 ∧ parseG numC (34 :: (escL n ++ [92, 117, 48, 48, 52, 49, 34])) = .error 3 := by
  unfold escL
  rw [if_neg (by omega)]
  constructor
  · rw [parse_str _ (by simp [hexE_length]), textL_a]
    simp only [List.cons_append, List.length_cons, List.length_append, hexE_length, List.length_nil]
    rw [textF_esc, esc_u]
    by_cases hh : 55296 ≤ n % 65536 ∧ n % 65536 ≤ 56319
    · rw [if_pos hh]
      rfl
    · rw [if_neg hh, if_pos (by omega)]
  · rw [parse_str _ (by simp [hexE_length])]
    unfold textL
    simp only [List.cons_append, List.length_cons, List.length_append, hexE_length, List.length_nil]
    rw [textF_esc, esc_u]
    by_cases hh : 55296 ≤ n % 65536 ∧ n % 65536 ≤ 56319
    · rw [if_pos hh, show ([92, 117, 48, 48, 52, 49, 34] : List UInt8) = 92 :: 117 :: (hexE 65 ++ [34]) from rfl, low_E, if_neg (by omega)]
    · rw [if_neg hh, if_pos (by omega)]
end Go.Proofs.Ytpnffmimpkimeaa.J7
