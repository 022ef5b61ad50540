/-
  Plain facts on JSON texts, and the bytes of texts converted: a right value's text is read back. Conditions: none but that the text has at most 65536 bytes.
-/
import Derived.Test.YtbjngdlkamdmdaaDoorJ7Awake
import Derived.Test.YtbjngdlkamdmdaaDoorU8Ref
import Derived.Test.YtbjngdlkamdmdaaDoorJ7Print
import Derived.Laws.IdiomStrings
import Derived.Lib.ConvBytes
import Derived.IntWalk
import Derived.Deep.RegionWith
namespace Go.Proofs.YtbjngdlkamdmdaaDoor.J7
open Go Go.RowKit Go.Joins Kit

/-- '[]byte(s)': a new row of its bytes. -/
theorem conv_bytes (s : ByteArray) (w : World) : ∃ cap w', (convert 9 40 (.string s)).run Tryd.prog w = .ok (.slice (some ⟨w.heap.size, 0, none⟩) s.size cap) w' ∧ BytesAt w' (.slice (some ⟨w.heap.size, 0, none⟩) s.size cap) s.data.toList ∧ Below w.heap.size w w' := by
  refine ⟨_, _, Lib.run_convert_string_bytes (P := Tryd.prog) w 9 40 5 s Tryd.underlying9 Tryd.underlying40 Tryd.underlying5, ?_, ?_⟩
  · refine Or.inr ⟨_, _, by rw [Lib.size_eq], fun j hj => ?_⟩
    have hj' : j < s.size := by rw [Lib.size_eq]; exact hj
    rw [show (⟨w.heap.size, 0, none⟩ : Addr).add j = ⟨w.heap.size, j, none⟩ by simp [Addr.add]; omega, Lib.bytesWorld_cell w 5 s j hj']
    rw [List.getD_eq_getElem?_getD, List.getElem?_eq_getElem hj, Option.getD_some]
  · refine ⟨rfl, rfl, rfl, by rw [Lib.bytesWorld_size]; omega, fun k hk => Lib.bytesWorld_at_old w 5 s k hk⟩

/-! ### Plain -/
def opn (obj : Bool) : List UInt8 := if obj then [123, 34, 97, 34, 58] else [91]
def cls (obj : Bool) : List UInt8 := if obj then [125] else [93]
def deepL (obj : Bool) : Nat → List UInt8 → List UInt8
  | 0, t => 49 :: t
  | k + 1, t => opn obj ++ deepL obj k (cls obj ++ t)
def rep (l : List UInt8) : Nat → List UInt8
  | 0 => []
  | k + 1 => rep l k ++ l
theorem rep_cons (l : List UInt8) : ∀ k, rep l (k + 1) = l ++ rep l k
  | 0 => by simp [rep]
  | k + 1 => by rw [rep, rep_cons l k, List.append_assoc, ← rep, ← rep_cons l k]
theorem rep_length (l : List UInt8) : ∀ k, (rep l k).length = k * l.length
  | 0 => by rw [rep]; simp
  | k + 1 => by rw [rep, List.length_append, rep_length l k, Nat.succ_mul]
theorem deep_eq (obj : Bool) : ∀ (k : Nat) (t : List UInt8), deepL obj k t = rep (opn obj) k ++ 49 :: (rep (cls obj) k ++ t)
  | 0, t => by rw [deepL, rep, rep]; rfl
  | k + 1, t => by
    rw [deepL, deep_eq obj k, rep_cons, rep]
    simp
theorem deep_whole (obj : Bool) (k : Nat) : rep (opn obj) k ++ [49] ++ rep (cls obj) k = deepL obj k [] := by rw [deep_eq, List.append_nil, List.append_assoc]; rfl
theorem deep_head (obj : Bool) (k : Nat) (t : List UInt8) : ∃ c r, deepL obj k t = c :: r ∧ blank c = false ∧ c ≠ 93 := by
  cases k with
  | zero => exact ⟨49, t, rfl, by decide, by decide⟩
  | succ k =>
    rw [deepL]
    cases obj
    · exact ⟨91, _, rfl, by decide, by decide⟩
    · exact ⟨123, _, rfl, by decide, by decide⟩
theorem skip_head {c : UInt8} {r : List UInt8} (h : blank c = false) : skipL (c :: r) = c :: r := by rw [skipL, if_neg (by rw [h]; decide)]
theorem plain_one (c : UInt8) (h : c.toNat < 128) (l : List UInt8) : plainT (c :: l) = .ok ([c], l) := by
  have h2 : U8.sizeN (c.toNat : Int) = 1 := U8.sizeN_one.2 ⟨by omega, by omega⟩
  have h1 : U8.putL (c.toNat : Int) = [c] := by rw [U8.putL_one h2, U8.b8_self]
  have := U8.decL_put (c.toNat : Int) (by rw [h2]; decide) l
  rw [h1, h2] at this
  unfold plainT
  rw [show c :: l = [c] ++ l from rfl, this]
  rfl
theorem key_a (D : List UInt8) : keyC [] (34 :: 97 :: 34 :: 58 :: D) = .ok ([⟨#[97]⟩], 58 :: D) := by
  unfold keyC quoL
  rw [skip_head (by decide), eatL, if_pos rfl]
  simp only
  unfold textL
  rw [textF_plain (by decide) (by decide) (by decide), plain_one 97 (by decide)]
  simp only
  rw [textF_end (by simp)]
  rfl
theorem one_value (n : Nat) (t : List UInt8) (hd : digsL t = []) (hr : restL t = t) : valueG numC n (49 :: t) = .ok (numJ 1, t) := by
  rw [valueG_eq]
  unfold valueH
  rw [skip_head (by decide)]
  simp only
  rw [if_neg (by decide), if_neg (by decide), if_neg (by decide), if_neg (by decide), if_neg (by decide), if_neg (by decide)]
  unfold numC
  rw [eatL, if_neg (by decide)]
  simp only
  rw [digC, if_neg (by decide), digs_head (by decide), rest_head (by decide), hd, hr, numV_cons, numV_nil]
  rfl
theorem cls_tail (obj : Bool) (t : List UInt8) : digsL (cls obj ++ t) = [] ∧ restL (cls obj ++ t) = cls obj ++ t := by
  cases obj
  · exact ⟨digs_none (by decide), rest_none (by decide)⟩
  · exact ⟨digs_none (by decide), rest_none (by decide)⟩
theorem value_arr (n : Nat) (D : List UInt8) : valueG numC (n + 1) (91 :: D) = listG (valueG numC n) false D := by
  show valueH numC (listG (valueG numC n)) (91 :: D) = _
  unfold valueH
  rw [skip_head (by decide)]
  simp only
  rw [if_neg (by decide), if_neg (by decide), if_neg (by decide), if_neg (by decide), if_pos trivial]
theorem value_obj (n : Nat) (D : List UInt8) : valueG numC (n + 1) (123 :: D) = listG (valueG numC n) true D := by
  show valueH numC (listG (valueG numC n)) (123 :: D) = _
  unfold valueH
  rw [skip_head (by decide)]
  simp only
  rw [if_neg (by decide), if_neg (by decide), if_neg (by decide), if_neg (by decide), if_neg (by decide), if_pos trivial]
theorem list_arr (val : List UInt8 → Out J) {D : List UInt8} {c : UInt8} {r : List UInt8} (hD : D = c :: r) (hb : blank c = false) (hc : c ≠ 93) : listG val false D = itemsG val false (D.length + 1) [] [] D := by
  subst hD
  unfold listG
  rw [skip_head hb]
  show (match eatL 93 (c :: r) with
    | some r => (.ok (listJ false [] [], r) : Out J)
    | none => _) = _
  rw [eatL, if_neg hc]
theorem list_a (val : List UInt8 → Out J) (D : List UInt8) : listG val true (34 :: 97 :: 34 :: 58 :: D) = afterKey val (D.length + 4) [⟨#[97]⟩] [] (.ok ((), D)) := by
  unfold listG
  rw [skip_head (by decide)]
  show (match eatL 125 (34 :: 97 :: 34 :: 58 :: D) with
    | some r => (.ok (listJ true [] [], r) : Out J)
    | none => _) = _
  rw [eatL, if_neg (by decide)]
  simp only [List.length_cons]
  rw [items_key_ok (key_a D)]
  have : wantL 58 (58 :: D) = .ok ((), D) := by
    unfold wantL
    rw [skip_head (by decide), eatL, if_pos rfl]
  rw [this]
theorem deep_ok (obj : Bool) : ∀ (k n : Nat) (t : List UInt8), k ≤ n → digsL t = [] → restL t = t → ∃ j, valueG numC n (deepL obj k t) = .ok (j, t)
  | 0, n, t, _, hd, hr => ⟨_, one_value n t hd hr⟩
  | k + 1, 0, t, h, _, _ => by omega
  | k + 1, n + 1, t, h, _, _ => by
    obtain ⟨j, hj⟩ := deep_ok obj k n (cls obj ++ t) (by omega) (cls_tail obj t).1 (cls_tail obj t).2
    obtain ⟨c, r, hD, hb, hc⟩ := deep_head obj k (cls obj ++ t)
    rw [deepL]
    cases obj
    · refine ⟨listJ false [] ([] ++ [j]), ?_⟩
      show valueG numC (n + 1) (91 :: deepL false k (cls false ++ t)) = _
      rw [value_arr, list_arr _ hD hb hc, items_ok hj]
      rw [show cls false ++ t = 93 :: t from rfl, skip_head (by decide), eatL, if_pos rfl]
    · refine ⟨listJ true [⟨#[97]⟩] ([] ++ [j]), ?_⟩
      show valueG numC (n + 1) (123 :: 34 :: 97 :: 34 :: 58 :: deepL true k (cls true ++ t)) = _
      rw [value_obj, list_a]
      unfold afterKey
      simp only [hj]
      rw [show cls true ++ t = 125 :: t from rfl, skip_head (by decide), eatL, if_pos rfl]
theorem deep_err (obj : Bool) : ∀ (k n : Nat) (t : List UInt8), n < k → valueG numC n (deepL obj k t) = .error 4
  | 0, n, t, h => by omega
  | k + 1, 0, t, _ => by
    rw [deepL]
    show valueH numC (fun _ _ => .error 4) (opn obj ++ deepL obj k (cls obj ++ t)) = _
    unfold valueH
    cases obj
    · rw [show opn false = [91] from rfl, List.singleton_append, skip_head (by decide)]
      rfl
    · rw [show opn true = [123, 34, 97, 34, 58] from rfl, List.cons_append, skip_head (by decide)]
      rfl
  | k + 1, n + 1, t, h => by
    have hj := deep_err obj k n (cls obj ++ t) (by omega)
    obtain ⟨c, r, hD, hb, hc⟩ := deep_head obj k (cls obj ++ t)
    rw [deepL]
    cases obj
    · show valueG numC (n + 1) (91 :: deepL false k (cls false ++ t)) = _
      rw [value_arr, list_arr _ hD hb hc, items_err hj (by omega)]
    · show valueG numC (n + 1) (123 :: 34 :: 97 :: 34 :: 58 :: deepL true k (cls true ++ t)) = _
      rw [value_obj, list_a]
      unfold afterKey
      simp only [hj]
theorem deep_parse (obj : Bool) (k : Nat) (hk : k ≤ 40) : (k ≤ 24 → ∃ j, parseG numC (deepL obj k []) = .ok j) ∧ (24 < k → parseG numC (deepL obj k []) = .error 4) := by
  have hl : ¬ 65536 < (deepL obj k []).length := by
    rw [deep_eq]
    simp only [List.length_append, List.length_cons, rep_length, List.length_nil]
    have : (opn obj).length ≤ 5 ∧ (cls obj).length ≤ 5 := by cases obj <;> decide
    have h1 : k * (opn obj).length ≤ 40 * 5 := Nat.mul_le_mul hk this.1
    have h2 : k * (cls obj).length ≤ 40 * 5 := Nat.mul_le_mul hk this.2
    omega
  unfold parseG
  rw [if_neg hl]
  constructor
  · intro h
    obtain ⟨j, hj⟩ := deep_ok obj k 24 [] h rfl rfl
    exact ⟨j, by rw [hj]; rfl⟩
  · intro h
    rw [deep_err obj k 24 [] h]

theorem parse_forms {w0 w : World} {o : Except Nat J} {e' : Ending} (h : ParseLeft w0 o e' w) : Below w0.heap.size w0 w ∧ ∃ x0 x1 x2 a3 l3 m3 a4 l4 m4, ∃ c : Int, e' = .returned (.tuple #[.agg #[.int .i64 x0, .int .i64 x1, .string x2, .slice a3 l3 m3, .slice a4 l4 m4], .int .i64 c]) ∧
    match o with
    | .ok j => c = 0 ∧ NodeAt (fun g => w0.heap.size ≤ g) w j (.agg #[.int .i64 x0, .int .i64 x1, .string x2, .slice a3 l3 m3, .slice a4 l4 m4])
    | .error e => c = (e : Int) ∧ (Value.agg #[.int .i64 x0, .int .i64 x1, .string x2, .slice a3 l3 m3, .slice a4 l4 m4]) = zeroN := by
  obtain ⟨hb, c0, c1, c2, c3, c4, c, he, hm⟩ := h
  cases o with
  | ok j =>
    obtain ⟨hc, hn⟩ := hm
    obtain ⟨x0, x1, x2, a3, l3, m3, a4, l4, m4, rfl, rfl, rfl, rfl, rfl⟩ := hn.forms
    exact ⟨hb, _, _, _, _, _, _, _, _, _, _, he, hc, hn⟩
  | error e =>
    obtain ⟨hc, hz⟩ := hm
    have hz' := hz
    unfold zeroN at hz'
    injection hz' with e; injection e with e; injection e with e0 e; injection e with e1 e; injection e with e2 e; injection e with e3 e; injection e with e4
    subst e0 e1 e2 e3 e4
    exact ⟨hb, _, _, _, _, _, _, _, _, _, _, he, hc, hz⟩
def bS (l : List UInt8) : ByteArray := ⟨l.toArray⟩
theorem bS_size (l : List UInt8) : (bS l).size = l.length := by rw [Lib.size_eq]; rfl
theorem bS_data (l : List UInt8) : (bS l).data.toList = l := rfl
theorem cat_bS {a b : ByteArray} {l m : List UInt8} (ha : a.data.toList = l) (hb : b.data.toList = m) : (a ++ b).data.toList = l ++ m := by
  rw [← ha, ← hb]
  simp

end Go.Proofs.YtbjngdlkamdmdaaDoor.J7
namespace Go.Proofs.YtbjngdlkamdmdaaDoor.J7
open Go Go.RowKit Go.Joins Kit

def hexT : ByteArray := ⟨#[48, 49, 50, 51, 52, 53, 54, 55, 56, 57, 97, 66, 99, 68, 101, 70]⟩
/-- A digit, as the statements have them. -/
def dgE (k : Nat) : UInt8 := hexT.data.toList.getD k 0
theorem and15 (r : Int) (h0 : 0 ≤ r) (h1 : r < 4611686018427387904) : bits .and .i64 r 15 = r % 16 := bits_mask .i64 62 (by decide) U8.wraps_i64 4 (by decide) r h0 (by omega)
theorem hexlt (k : Int) (h0 : 0 ≤ k) (h1 : k < 16) : k.toNat < (ByteArray.mk #[48, 49, 50, 51, 52, 53, 54, 55, 56, 57, 97, 66, 99, 68, 101, 70]).size := by show _ < 16; omega
theorem hexgetN (m : Nat) (h : m < hexT.size) : hexT[m] = dgE m := by
  unfold dgE
  rw [List.getD_eq_getElem?_getD, List.getElem?_eq_getElem (by rw [← Lib.size_eq]; exact h), Option.getD_some, byte_get hexT m h]
theorem hexget (k : Int) (h0 : 0 ≤ k) (h1 : k < 16) : (ByteArray.mk #[48, 49, 50, 51, 52, 53, 54, 55, 56, 57, 97, 66, 99, 68, 101, 70])[k.toNat]'(hexlt k h0 h1) = dgE k.toNat := hexgetN k.toNat (hexlt k h0 h1)
def hexE (n : Nat) : List UInt8 := [dgE (n / 4096 % 16), dgE (n / 256 % 16), dgE (n / 16 % 16), dgE (n % 16)]
end Go.Proofs.YtbjngdlkamdmdaaDoor.J7
namespace Go.Proofs.YtbjngdlkamdmdaaDoor.J7
open Go Go.RowKit Go.Joins Kit

/-! ### Plain -/
theorem hx_dg : ∀ d : Nat, d < 16 → Q4.hx (dgE d) = some d := by decide +kernel
theorem hexL_E (n : Nat) (t : List UInt8) : hexL (hexE n ++ t) = .ok (n % 65536, t) := by
  have h1 := hx_dg (n / 4096 % 16) (by omega)
  have h2 := hx_dg (n / 256 % 16) (by omega)
  have h3 := hx_dg (n / 16 % 16) (by omega)
  have h4 := hx_dg (n % 16) (by omega)
  unfold hexL hexE
  rw [show [dgE (n / 4096 % 16), dgE (n / 256 % 16), dgE (n / 16 % 16), dgE (n % 16)] ++ t = dgE (n / 4096 % 16) :: dgE (n / 256 % 16) :: dgE (n / 16 % 16) :: dgE (n % 16) :: t from rfl]
  rw [hexF, h1]
  simp only
  rw [hexF, h2]
  simp only
  rw [hexF, h3]
  simp only
  rw [hexF, h4]
  simp only
  rw [hexF, show 16 * (16 * (16 * (16 * 0 + n / 4096 % 16) + n / 256 % 16) + n / 16 % 16) + n % 16 = n % 65536 by omega]
/-- A text in its signs, as a whole. -/
theorem parse_str (r : List UInt8) (hl : r.length + 1 ≤ 65536) : parseG numC (34 :: r) = match textL r with
    | .error e => .error e
    | .ok (t, r1) => if skipL r1 = [] then .ok (strJ t) else .error 3 := by
  unfold parseG
  rw [if_neg (by simp; omega), valueG_eq]
  have e : valueH numC (lstG numC 24) (34 :: r) = textJ r := by
    unfold valueH
    rw [skip_head (by decide)]
    simp only
    rw [if_neg (by decide), if_neg (by decide), if_neg (by decide), if_pos trivial]
  rw [e]
  unfold textJ
  cases textL r with
  | error e => rfl
  | ok x => obtain ⟨t, r1⟩ := x; rfl
/-- One escape by four digits, and what it leaves. -/
theorem esc_u (n : Nat) (t : List UInt8) : escapeL (117 :: (hexE n ++ t)) = if 55296 ≤ n % 65536 ∧ n % 65536 ≤ 56319 then lowL (n % 65536) t else if 56320 ≤ n % 65536 ∧ n % 65536 ≤ 57343 then .error 3 else .ok (U8.putL ((n % 65536 : Nat) : Int), t) := by
  rw [escapeL]
  show unitL (hexE n ++ t) = _
  unfold unitL
  rw [hexL_E]
theorem low_E (v m : Nat) (t : List UInt8) : lowL v (92 :: 117 :: (hexE m ++ t)) = if 56320 ≤ m % 65536 ∧ m % 65536 ≤ 57343 then .ok (U8.putL ((65536 + (v - 55296) * 1024 + (m % 65536 - 56320) : Nat) : Int), t) else .error 3 := by
  unfold lowL
  rw [eatL, if_pos rfl]
  simp only
  rw [eatL, if_pos rfl]
  simp only
  rw [hexL_E]
theorem textL_a (l : List UInt8) : textL (97 :: l) = textF (l.length + 1) [97] l := by
  unfold textL
  rw [List.length_cons, textF_plain (by decide) (by decide) (by decide), plain_one 97 (by decide)]
  rfl
theorem textF_b (f : Nat) (out : List UInt8) (hf : 2 ≤ f) : textF f out [98, 34] = .ok (out ++ [98], []) := by
  obtain ⟨f, rfl⟩ : ∃ g, f = g + 1 := ⟨f - 1, by omega⟩
  rw [textF_plain (by decide) (by decide) (by decide), plain_one 98 (by decide)]
  simp only
  obtain ⟨f, rfl⟩ : ∃ g, f = g + 1 := ⟨f - 1, by omega⟩
  rw [textF, if_pos rfl]
def escL (n : Nat) : List UInt8 := if 65535 < n then 92 :: 117 :: (hexE (55296 + (n - 65536) / 1024) ++ 92 :: 117 :: hexE (56320 + (n - 65536) % 1024)) else 92 :: 117 :: hexE n
theorem hexE_length (n : Nat) : (hexE n).length = 4 := rfl
theorem pair_back (n : Nat) (hn : n ≤ 1114111) (h : 65535 < n) : 65536 + ((55296 + (n - 65536) / 1024) % 65536 - 55296) * 1024 + ((56320 + (n - 65536) % 1024) % 65536 - 56320) = n := by omega
theorem pair_high (n : Nat) (hn : n ≤ 1114111) : 55296 ≤ (55296 + (n - 65536) / 1024) % 65536 ∧ (55296 + (n - 65536) / 1024) % 65536 ≤ 56319 := by omega
theorem pair_low (n : Nat) : 56320 ≤ (56320 + (n - 65536) % 1024) % 65536 ∧ (56320 + (n - 65536) % 1024) % 65536 ≤ 57343 := by omega
theorem strJ_cat (a : List UInt8) : (.ok (strJ ([97] ++ a ++ [98])) : Except Nat J) = .ok (strJ (97 :: ([] ++ (a ++ [98])))) := rfl
theorem pair_ok (A B : Nat) (hA : 55296 ≤ A % 65536 ∧ A % 65536 ≤ 56319) (hB : 56320 ≤ B % 65536 ∧ B % 65536 ≤ 57343) (m : Nat) (hm : 65536 + (A % 65536 - 55296) * 1024 + (B % 65536 - 56320) = m) :
    parseG numC (34 :: 97 :: ((92 :: 117 :: (hexE A ++ 92 :: 117 :: hexE B)) ++ [98, 34])) = .ok (strJ ([97] ++ U8.putL (m : Int) ++ [98])) := by
  rw [parse_str _ (by simp [hexE_length]), textL_a]
  simp only [List.cons_append, List.append_assoc, List.length_cons, List.length_append, hexE_length, List.length_nil]
  rw [textF_esc, esc_u, if_pos hA, low_E, if_pos hB, hm]
  simp only
  rw [textF_b _ _ (by decide)]
  simp only
  rw [if_pos (show skipL [] = [] from rfl)]
  simp only [List.nil_append, List.cons_append]
theorem escape_ok (n : Nat) (hn : n ≤ 1114111) (hs : ¬ (55296 ≤ n ∧ n ≤ 57343)) : parseG numC (34 :: 97 :: (escL n ++ [98, 34])) = .ok (strJ ([97] ++ U8.putL (n : Int) ++ [98])) := by
  unfold escL
  split
  · rename_i h
    exact pair_ok _ _ (pair_high n hn) (pair_low n) n (pair_back n hn h)
  · rename_i h
    rw [parse_str _ (by simp [hexE_length]), textL_a]
    simp only [List.cons_append, List.length_cons, List.length_append, hexE_length, List.length_nil]
    rw [textF_esc, esc_u, if_neg (by omega), if_neg (by omega)]
    simp only
    rw [textF_b _ _ (by decide)]
    simp only
    rw [if_pos (show skipL [] = [] from rfl), show n % 65536 = n by omega]
    simp only [List.nil_append, List.cons_append]
theorem escape_half (n : Nat) (hs : 55296 ≤ n ∧ n ≤ 57343) : parseG numC (34 :: 97 :: (escL n ++ [98, 34])) = .error 3 ∧ parseG numC (34 :: (escL n ++ [92, 117, 48, 48, 52, 49, 34])) = .error 3 := by
  unfold escL
  rw [if_neg (by omega)]
  constructor
  · rw [parse_str _ (by simp [hexE_length]), textL_a]
    simp only [List.cons_append, List.length_cons, List.length_append, hexE_length, List.length_nil]
    rw [textF_esc, esc_u]
    by_cases hh : 55296 ≤ n % 65536 ∧ n % 65536 ≤ 56319
    · rw [if_pos hh]
      rfl
    · rw [if_neg hh, if_pos (by omega)]
  · rw [parse_str _ (by simp [hexE_length])]
    unfold textL
    simp only [List.cons_append, List.length_cons, List.length_append, hexE_length, List.length_nil]
    rw [textF_esc, esc_u]
    by_cases hh : 55296 ≤ n % 65536 ∧ n % 65536 ≤ 56319
    · rw [if_pos hh, show ([92, 117, 48, 48, 52, 49, 34] : List UInt8) = 92 :: 117 :: (hexE 65 ++ [34]) from rfl, low_E, if_neg (by omega)]
    · rw [if_neg hh, if_pos (by omega)]
end Go.Proofs.YtbjngdlkamdmdaaDoor.J7
namespace Go.Proofs.YtbjngdlkamdmdaaDoor.J7
open Go Go.RowKit Go.Joins Kit Dg

theorem dig_code (k : Nat) (h : k < 10) : digB (UInt8.ofNat (48 + k)) = true ∧ (UInt8.ofNat (48 + k)).toNat - 48 = k := by
  have e : (UInt8.ofNat (48 + k)).toNat = 48 + k := by
    show (48 + k) % 256 = 48 + k
    omega
  refine ⟨?_, by omega⟩
  unfold digB
  rw [e]
  simp
  omega
theorem digits_dig : ∀ (u : Nat), ∀ c ∈ Lib.decDigits u, digB c = true := fun u => by
  induction u using Nat.strongRecOn with
  | _ u ih =>
    intro c hc
    rw [Lib.decDigits] at hc
    by_cases h : u < 10
    · rw [dif_pos h] at hc
      obtain rfl := List.mem_singleton.1 hc
      exact (dig_code u h).1
    · rw [dif_neg h] at hc
      rcases List.mem_append.1 hc with hc | hc
      · exact ih (u / 10) (by omega) c hc
      · obtain rfl := List.mem_singleton.1 hc
        exact (dig_code (u % 10) (by omega)).1
theorem numV_app (n : Nat) (a b : List UInt8) : numV n (a ++ b) = numV (numV n a) b := by unfold numV; rw [List.foldl_append]
theorem numV_digits (u : Nat) : numV 0 (Lib.decDigits u) = u := by
  induction u using Nat.strongRecOn with
  | _ u ih =>
    rw [Lib.decDigits]
    by_cases h : u < 10
    · rw [dif_pos h, numV_cons, numV_nil, (dig_code u h).2]; omega
    · rw [dif_neg h, numV_app, ih (u / 10) (by omega), numV_cons, numV_nil, (dig_code (u % 10) (by omega)).2]; omega
theorem digs_all : ∀ (a t : List UInt8), (∀ c ∈ a, digB c = true) → digsL (a ++ t) = a ++ digsL t ∧ restL (a ++ t) = restL t
  | [], t, _ => ⟨rfl, rfl⟩
  | c :: a, t, h => by
    obtain ⟨h1, h2⟩ := digs_all a t fun x hx => h x (List.mem_cons_of_mem _ hx)
    have hc := h c List.mem_cons_self
    exact ⟨by rw [List.cons_append, digs_head hc, h1]; rfl, by rw [List.cons_append, rest_head hc, h2]⟩
/-- Digits, and what is no digit behind them. -/
theorem digC_digits (u : Nat) (hu : u ≤ maxNum) (t : List UInt8) (h1 : digsL t = []) (h2 : restL t = t) : digC (Lib.decDigits u ++ t) = .ok (u, t) := by
  obtain ⟨hd, hr⟩ := digs_all (Lib.decDigits u) t (digits_dig u)
  rw [h1, List.append_nil] at hd
  rw [h2] at hr
  by_cases h0 : u = 0
  · subst h0
    rw [Lib.decDigits_one (by decide)]
    rfl
  · have hh := Tx.digits_head u (by omega)
    have hv := numV_digits u
    cases e : Lib.decDigits u with
    | nil => exact absurd e (Tx.digits_ne u)
    | cons c r =>
      rw [e] at hd hr hh hv
      rw [List.cons_append] at hd hr ⊢
      rw [digC, if_neg (by intro h; exact hh (by rw [h]; rfl)), hd, hr, hv, if_neg (by rw [List.length_cons]; omega)]
theorem digits_cons (u : Nat) : ∃ c r, Lib.decDigits u = c :: r ∧ digB c = true := by
  have := digits_dig u
  cases e : Lib.decDigits u with
  | nil => exact absurd e (Tx.digits_ne u)
  | cons c r => exact ⟨c, r, rfl, this c (by rw [e]; exact List.mem_cons_self)⟩
theorem dig_ne {c : UInt8} (h : digB c = true) : c ≠ 45 ∧ blank c = false ∧ c ≠ 110 ∧ c ≠ 102 ∧ c ≠ 116 ∧ c ≠ 34 ∧ c ≠ 91 ∧ c ≠ 123 := by
  unfold digB at h
  simp only [Bool.and_eq_true, decide_eq_true_eq] at h
  have hn : ∀ d : UInt8, d.toNat < 48 ∨ 57 < d.toNat → c ≠ d := fun d hd e => by subst e; omega
  refine ⟨hn _ (by decide), ?_, hn _ (by decide), hn _ (by decide), hn _ (by decide), hn _ (by decide), hn _ (by decide), hn _ (by decide)⟩
  unfold blank
  simp only [Bool.or_eq_false_iff, beq_eq_false_iff_ne]
  exact ⟨⟨⟨hn _ (by decide), hn _ (by decide)⟩, hn _ (by decide)⟩, hn _ (by decide)⟩
theorem numT_neg {k : Int} (h : k < 0) : numT k = 45 :: Lib.decDigits k.natAbs := by
  unfold numT digs
  rw [if_pos h, show (max k (-k)).toNat = k.natAbs by omega]
  rfl
theorem numT_pos {k : Int} (h : ¬ k < 0) : numT k = Lib.decDigits k.natAbs := by
  unfold numT digs
  rw [if_neg h, show (max k (-k)).toNat = k.natAbs by omega]
  rfl
theorem numT_head (k : Int) : ∃ c r, numT k = c :: r ∧ (c = 45 ∨ digB c = true) := by
  by_cases h : k < 0
  · exact ⟨_, _, numT_neg h, Or.inl rfl⟩
  · obtain ⟨c, r, e, hc⟩ := digits_cons k.natAbs
    exact ⟨c, r, by rw [numT_pos h, e], Or.inr hc⟩
theorem numC_numT (k : Int) (h1 : k ≤ 9007199254740991) (h2 : -9007199254740991 ≤ k) (t : List UInt8) (ht1 : digsL t = []) (ht2 : restL t = t) : numC (numT k ++ t) = .ok (numJ k, t) := by
  have hu : k.natAbs ≤ maxNum := by unfold maxNum; omega
  have hd := digC_digits k.natAbs hu t ht1 ht2
  by_cases h : k < 0
  · rw [numT_neg h, List.cons_append, numC, eatL, if_pos rfl]
    simp only
    rw [hd]
    simp only
    rw [if_neg (by omega), show (-(k.natAbs : Int)) = k by omega]
  · obtain ⟨c, r, e, hc⟩ := digits_cons k.natAbs
    rw [numT_pos h]
    rw [e] at hd ⊢
    rw [List.cons_append] at hd ⊢
    rw [numC, eatL, if_neg (dig_ne hc).1]
    simp only
    rw [hd]
    simp only
    rw [show (k.natAbs : Int) = k by omega]
/-- A number's text, and something behind it. -/
theorem value_numT (n : Nat) (k : Int) (h1 : k ≤ 9007199254740991) (h2 : -9007199254740991 ≤ k) (t : List UInt8) (ht1 : digsL t = []) (ht2 : restL t = t) : valueG numC n (numT k ++ t) = .ok (numJ k, t) := by
  have hc := numC_numT k h1 h2 t ht1 ht2
  obtain ⟨c, r, e, hh⟩ := numT_head k
  rw [e, List.cons_append] at hc ⊢
  have hq : blank c = false ∧ c ≠ 110 ∧ c ≠ 102 ∧ c ≠ 116 ∧ c ≠ 34 ∧ c ≠ 91 ∧ c ≠ 123 := by
    rcases hh with rfl | hh
    · decide
    · exact (dig_ne hh).2
  obtain ⟨q0, q1, q2, q3, q4, q5, q6⟩ := hq
  rw [valueG_eq]
  unfold valueH
  rw [skip_head q0]
  simp only
  rw [if_neg q1, if_neg q2, if_neg q3, if_neg q4, if_neg q5, if_neg q6]
  exact hc
theorem numT_short (k : Int) (h1 : k ≤ 9007199254740991) (h2 : -9007199254740991 ≤ k) : (numT k).length ≤ 20 := by
  have h := digs_short (n := max k (-k)) (by omega)
  rw [Lib.size_eq] at h
  unfold numT
  rw [List.length_append]
  split
  · rw [List.length_singleton]; omega
  · rw [List.length_nil]; omega
theorem parse_numT (k : Int) (h1 : k ≤ 9007199254740991) (h2 : -9007199254740991 ≤ k) : parseG numC (numT k) = .ok (numJ k) := by
  have hl := numT_short k h1 h2
  have hv := value_numT 24 k h1 h2 [] rfl rfl
  rw [List.append_nil] at hv
  unfold parseG
  rw [if_neg (by omega), hv]
  rfl
theorem parse_numT_bad (k : Int) (h1 : k ≤ 9007199254740991) (h2 : -9007199254740991 ≤ k) (c : UInt8) (t : List UInt8) (hc : digB c = false) (hb : blank c = false) (ht : t.length ≤ 60000) : parseG numC (numT k ++ c :: t) = .error 3 := by
  have hl := numT_short k h1 h2
  have hv := value_numT 24 k h1 h2 (c :: t) (digs_none hc) (rest_none hc)
  unfold parseG
  rw [if_neg (by rw [List.length_append, List.length_cons]; omega), hv]
  simp only
  rw [skip_head hb, if_neg (by simp)]
theorem parse_plus (l : List UInt8) (hl : l.length ≤ 60000) : parseG numC (43 :: l) = .error 3 := by
  unfold parseG
  rw [if_neg (by rw [List.length_cons]; omega), valueG_eq]
  unfold valueH
  rw [skip_head (by decide)]
  simp only
  rw [if_neg (by decide), if_neg (by decide), if_neg (by decide), if_neg (by decide), if_neg (by decide), if_neg (by decide), numC, eatL, if_neg (by decide)]
  simp only
  rw [digC, if_neg (by decide), digs_none (by decide)]
  rfl
theorem right_num (k : Int) (h1 : k ≤ 9007199254740991) (h2 : -9007199254740991 ≤ k) (d : Nat) : RightJ d (numJ k) := by
  have : ∀ sub, RightH sub (numJ k) := fun sub =>
    ⟨by show (1 : Int) ≤ 4; omega, by show (4 : Int) ≤ 7; omega, fun h => absurd rfl h, h1, h2, fun _ => rfl, rfl, fun _ => rfl, fun _ => rfl, fun _ => rfl, fun h => absurd (show (6 : Int) ≤ 4 from h) (by omega), fun _ hk => absurd hk List.not_mem_nil, fun _ hk => absurd hk List.not_mem_nil, List.nodup_nil, by show (0 : Nat) ≤ 300000; omega, fun _ hk => absurd hk List.not_mem_nil, by show (0 : Nat) ≤ 65536; omega, by show (0 : Nat) ≤ 65536; omega⟩
  cases d
  · exact this _
  · exact this _
theorem put_num (k : Int) : putJ (numJ k) = numT k := by rw [numJ, putJ]; rfl
end Go.Proofs.YtbjngdlkamdmdaaDoor.J7
namespace Go.Proofs.YtbjngdlkamdmdaaDoor.J7
open Go Go.RowKit Go.Joins Kit Dg

theorem hx_dgS : ∀ d : Nat, d < 16 → Q4.hx (dgS d) = some d := by decide +kernel
theorem hexL_S (a b : Nat) (ha : a < 16) (hb : b < 16) (t : List UInt8) : hexL (48 :: 48 :: dgS a :: dgS b :: t) = .ok (16 * a + b, t) := by
  have h0 : Q4.hx 48 = some 0 := by decide
  have h3 := hx_dgS a ha
  have h4 := hx_dgS b hb
  unfold hexL
  rw [hexF, h0]
  simp only
  rw [hexF, h0]
  simp only
  rw [hexF, h3]
  simp only
  rw [hexF, h4]
  simp only
  rw [hexF, show 16 * (16 * (16 * (16 * 0 + 0) + 0) + a) + b = 16 * a + b by omega]
theorem putL_ascii (c : UInt8) (h : c.toNat < 128) : U8.putL (c.toNat : Int) = [c] := by
  have h2 : U8.sizeN (c.toNat : Int) = 1 := U8.sizeN_one.2 ⟨by omega, by omega⟩
  rw [U8.putL_one h2, U8.b8_self]
theorem decL_ascii (c : UInt8) (h : c.toNat < 128) (l : List UInt8) : U8.decL (c :: l) = some (c.toNat, 1) := by
  have h2 : U8.sizeN (c.toNat : Int) = 1 := U8.sizeN_one.2 ⟨by omega, by omega⟩
  have := U8.decL_put (c.toNat : Int) (by rw [h2]; decide) l
  rw [putL_ascii c h, h2] at this
  exact this
theorem putL_high (r : Int) (h : 2 ≤ U8.sizeN r) : ∀ x ∈ U8.putL r, 128 ≤ x.toNat := by
  have h4 : U8.sizeN r = 2 ∨ U8.sizeN r = 3 ∨ U8.sizeN r = 4 := by
    have : U8.sizeN r ≤ 4 := by unfold U8.sizeN; split <;> (try split) <;> (try split) <;> (try split) <;> (try split) <;> (try split) <;> omega
    omega
  intro x hx
  rcases h4 with e | e | e
  · have hr := U8.sizeN_two.1 e
    rw [U8.putL_two e] at hx
    simp only [List.mem_cons, List.not_mem_nil, or_false] at hx
    rcases hx with rfl | rfl <;> rw [U8.b8_nat (by omega) (by omega)] <;> omega
  · have hr := U8.sizeN_three.1 e
    rw [U8.putL_three e] at hx
    simp only [List.mem_cons, List.not_mem_nil, or_false] at hx
    rcases hx with rfl | rfl | rfl <;> rw [U8.b8_nat (by omega) (by omega)] <;> omega
  · have hr := U8.sizeN_four.1 e
    rw [U8.putL_four e] at hx
    simp only [List.mem_cons, List.not_mem_nil, or_false] at hx
    rcases hx with rfl | rfl | rfl | rfl <;> rw [U8.b8_nat (by omega) (by omega)] <;> omega
theorem qB_high {c : UInt8} (h : 128 ≤ c.toNat) : qB c = [c] := by
  rcases qB_cases c with ⟨rfl, _⟩ | ⟨rfl, _⟩ | ⟨rfl, _⟩ | ⟨rfl, _⟩ | ⟨rfl, _⟩ | ⟨rfl, _⟩ | ⟨rfl, _⟩ | ⟨_, h2, _⟩ | ⟨_, _, h3⟩
  all_goals first | exact h3 | (exfalso; revert h; decide) | omega
theorem qL_cons (c : UInt8) (t : List UInt8) : qL (c :: t) = qB c ++ qL t := by unfold qL; rw [List.flatMap_cons]
theorem qL_high : ∀ (a b : List UInt8), (∀ x ∈ a, 128 ≤ x.toNat) → qL (a ++ b) = a ++ qL b
  | [], _, _ => rfl
  | c :: a, b, h => by
    rw [List.cons_append, qL_cons, qB_high (h c List.mem_cons_self), qL_high a b fun x hx => h x (List.mem_cons_of_mem _ hx)]
    rfl
/-- A text in its signs is read back. -/
theorem textF_quote (l : List UInt8) (hv : U8.validL l = true) : ∀ (f : Nat) (out r : List UInt8), (qL l).length < f → textF f out (qL l ++ 34 :: r) = .ok (out ++ l, r) := by
  refine U8.valid_induct (P := fun l => ∀ (f : Nat) (out r : List UInt8), (qL l).length < f → textF f out (qL l ++ 34 :: r) = .ok (out ++ l, r)) ?_ ?_ l hv
  · intro f out r hf
    obtain ⟨f, rfl⟩ : ∃ g, f = g + 1 := ⟨f - 1, by omega⟩
    show textF (f + 1) out (34 :: r) = _
    rw [textF, if_pos rfl, List.append_nil]
  · intro l p n hd _ ih f out r hf
    obtain ⟨s1, s2, s3, s4⟩ := U8.decL_some hd
    obtain ⟨f, rfl⟩ : ∃ g, f = g + 1 := ⟨f - 1, by omega⟩
    cases l with
    | nil => cases hd
    | cons c t =>
      by_cases hc : c.toNat < 128
      · have hd' := hd
        rw [decL_ascii c hc] at hd'
        have hn : n = 1 := by injection hd' with e; injection e with _ e; exact e.symm
        subst hn
        have ih' : ∀ (f : Nat) (out r : List UInt8), (qL t).length < f → textF f out (qL t ++ 34 :: r) = .ok (out ++ t, r) := ih
        rw [qL_cons] at hf ⊢
        have two : ∀ x : UInt8, qB c = [92, x] → signV x = some c → textF (f + 1) out (qB c ++ qL t ++ 34 :: r) = .ok (out ++ c :: t, r) := by
          intro x hx hs
          rw [hx] at hf ⊢
          show textF (f + 1) out (92 :: x :: (qL t ++ 34 :: r)) = _
          rw [textF_esc, escapeL, hs]
          simp only
          rw [ih' f (out ++ [c]) r (by rw [List.length_append] at hf; simp only [List.length_cons, List.length_nil] at hf; omega), List.append_assoc]
          rfl
        rcases qB_cases c with ⟨rfl, h⟩ | ⟨rfl, h⟩ | ⟨rfl, h⟩ | ⟨rfl, h⟩ | ⟨rfl, h⟩ | ⟨rfl, h⟩ | ⟨rfl, h⟩ | ⟨_, h2, h⟩ | ⟨h1, h2, h⟩
        · exact two _ h (by decide)
        · exact two _ h (by decide)
        · exact two _ h (by decide)
        · exact two _ h (by decide)
        · exact two _ h (by decide)
        · exact two _ h (by decide)
        · exact two _ h (by decide)
        · rw [h] at hf ⊢
          show textF (f + 1) out (92 :: 117 :: 48 :: 48 :: dgS (c.toNat / 16) :: dgS (c.toNat % 16) :: (qL t ++ 34 :: r)) = _
          rw [textF_esc, escapeL, show signV 117 = none from by decide]
          simp only
          rw [if_pos trivial]
          unfold unitL
          rw [hexL_S _ _ (by omega) (by omega), show 16 * (c.toNat / 16) + c.toNat % 16 = c.toNat by omega]
          simp only
          rw [if_neg (by omega), if_neg (by omega), putL_ascii c hc]
          simp only
          rw [ih' f (out ++ [c]) r (by rw [List.length_append] at hf; simp only [List.length_cons, List.length_append, List.length_nil] at hf; omega), List.append_assoc]
          rfl
        · rw [h] at hf ⊢
          show textF (f + 1) out (c :: (qL t ++ 34 :: r)) = _
          rw [textF_plain h1.1 h1.2.1 h2, plain_one c hc]
          simp only
          rw [ih' f (out ++ [c]) r (by rw [List.length_append] at hf; simp only [List.length_cons, List.length_nil] at hf; omega), List.append_assoc]
          rfl
      · have hn2 : 2 ≤ n := by
          rcases Nat.lt_or_ge n 2 with h | h
          · have h1 : n = 1 := by omega
            rw [h1] at s1 s4
            have hp := U8.sizeN_one.1 s1
            rw [U8.putL_one s1] at s4
            have e : c = U8.b8 p := by simpa using s4
            have := U8.b8_nat (x := (p : Int)) (by omega) (by omega)
            rw [← e] at this
            omega
          · exact h
        have hhi : ∀ x ∈ (c :: t).take n, 128 ≤ x.toNat := by rw [s4]; exact putL_high _ (by rw [s1]; exact hn2)
        have hq : qL (c :: t) = (c :: t).take n ++ qL ((c :: t).drop n) := by
          have := qL_high ((c :: t).take n) ((c :: t).drop n) hhi
          rw [List.take_append_drop] at this
          exact this
        have hlt : ((c :: t).take n).length = n := by rw [List.length_take]; omega
        rw [hq, List.append_assoc]
        rw [hq, List.length_append, hlt] at hf
        obtain ⟨Y, hY⟩ : ∃ Y, qL ((c :: t).drop n) ++ 34 :: r = Y := ⟨_, rfl⟩
        have hdX : U8.decL ((c :: t).take n ++ Y) = some (p, n) := U8.decL_iff.2 ⟨s1, s2, by rw [List.take_left' hlt]; exact s4⟩
        have hX : (c :: t).take n ++ Y = c :: (((c :: t).take n).tail ++ Y) := by
          cases n with
          | zero => omega
          | succ m => rfl
        have hp : plainT ((c :: t).take n ++ Y) = .ok ((c :: t).take n, Y) := by
          unfold plainT
          rw [hdX]
          simp only
          rw [List.take_left' hlt, List.drop_left' hlt]
        have hb : c.toNat ≥ 128 := by omega
        have hne : ∀ d : UInt8, d.toNat < 128 → c ≠ d := fun d hd e => by subst e; omega
        rw [hY, hX, textF_plain (hne _ (by decide)) (hne _ (by decide)) (by omega), ← hX, hp]
        simp only
        rw [← hY, ih f (out ++ (c :: t).take n) r (by omega), List.append_assoc, List.take_append_drop]
theorem textL_quote (l r : List UInt8) (hv : U8.validL l = true) : textL (qL l ++ 34 :: r) = .ok (l, r) := by
  unfold textL
  rw [textF_quote l hv _ _ _ (by rw [List.length_append]; omega)]
  rfl
theorem qL_length (l : List UInt8) : (qL l).length ≤ 6 * l.length := by
  induction l with
  | nil => exact Nat.le_refl _
  | cons c t ih =>
    rw [qL_cons, List.length_append, List.length_cons]
    have : (qB c).length ≤ 6 := by
      rcases qB_cases c with ⟨_, h⟩ | ⟨_, h⟩ | ⟨_, h⟩ | ⟨_, h⟩ | ⟨_, h⟩ | ⟨_, h⟩ | ⟨_, h⟩ | ⟨_, _, h⟩ | ⟨_, _, h⟩ <;> rw [h] <;> simp
    omega
end Go.Proofs.YtbjngdlkamdmdaaDoor.J7
namespace Go.Proofs.YtbjngdlkamdmdaaDoor.J7
open Go Go.RowKit Go.Joins Kit Dg

theorem keyL_quote (keys : List ByteArray) (k r : List UInt8) (hv : U8.validL k = true) : keyL keys (34 :: (qL k ++ 34 :: 58 :: r)) = if hasB keys k then .error 5 else .ok (keys ++ [⟨k.toArray⟩], r) := by
  unfold keyL
  rw [skip_head (by decide), eatL, if_pos rfl]
  simp only
  rw [textL_quote k _ hv]
  simp only
  unfold colonL
  rw [skip_head (by decide), eatL, if_pos rfl]
theorem two_value (n : Nat) (t : List UInt8) (hd : digsL t = []) (hr : restL t = t) : valueG numC n (50 :: t) = .ok (numJ 2, t) := by
  have h := value_numT n 2 (by omega) (by omega) t hd hr
  rw [show numT 2 = [50] from by rw [numT_pos (by omega)]; exact Lib.decDigits_one (by decide)] at h
  exact h
/-- An object of one key. -/
theorem obj_one (n : Nat) (k : List UInt8) (c : UInt8) (t : List UInt8) (hv : U8.validL k = true) (j : J) (hval : valueG numC n (c :: 125 :: t) = .ok (j, 125 :: t)) : ∃ j', valueG numC (n + 1) (123 :: 34 :: (qL k ++ 34 :: 58 :: c :: 125 :: t)) = .ok (j', t) := by
  rw [value_obj]
  unfold listG
  rw [skip_head (by decide), show endO true = 125 from rfl, eatL, if_neg (by decide)]
  simp only
  rw [itemsG, show ∀ keys l, keyO true keys l = keyL keys l from fun _ _ => rfl, keyL_quote _ _ _ hv, show hasB [] k = false from rfl, if_neg (by decide)]
  simp only
  rw [hval]
  simp only
  rw [skip_head (by decide), show endO true = 125 from rfl, eatL, if_pos rfl]
  exact ⟨_, rfl⟩
theorem hasB_one (a b : List UInt8) : hasB ([] ++ [⟨a.toArray⟩]) b = (a == b) := by
  unfold hasB
  rw [List.nil_append, List.any_cons, List.any_nil, Bool.or_false]
/-- An object of two keys. -/
theorem obj_two (n : Nat) (a b : List UInt8) (ha : U8.validL a = true) (hb : U8.validL b = true) :
    (a = b → valueG numC (n + 1) (123 :: 34 :: (qL a ++ 34 :: 58 :: 49 :: 44 :: 34 :: (qL b ++ [34, 58, 50, 125]))) = .error 5) ∧
    (a ≠ b → ∃ j, valueG numC (n + 1) (123 :: 34 :: (qL a ++ 34 :: 58 :: 49 :: 44 :: 34 :: (qL b ++ [34, 58, 50, 125]))) = .ok (j, [])) := by
  rw [value_obj]
  unfold listG
  rw [skip_head (by decide), show endO true = 125 from rfl, eatL, if_neg (by decide)]
  simp only
  rw [itemsG, show ∀ keys l, keyO true keys l = keyL keys l from fun _ _ => rfl, keyL_quote _ _ _ ha, show hasB [] a = false from rfl, if_neg (by decide)]
  simp only
  rw [one_value n _ (digs_none (by decide)) (rest_none (by decide))]
  simp only
  rw [skip_head (by decide), show endO true = 125 from rfl, eatL, if_neg (by decide)]
  simp only
  rw [eatL, if_pos rfl]
  simp only
  rw [show (34 :: (qL a ++ 34 :: 58 :: 49 :: 44 :: 34 :: (qL b ++ [34, 58, 50, 125]))).length = ((qL a ++ 34 :: 58 :: 49 :: 44 :: 34 :: (qL b ++ [34, 58, 50, 125])).length) + 1 from rfl]
  rw [itemsG, show ∀ keys l, keyO true keys l = keyL keys l from fun _ _ => rfl, keyL_quote _ _ _ hb, hasB_one]
  refine ⟨fun h => ?_, fun h => ?_⟩
  · rw [show (a == b) = true by simpa using h, if_pos rfl]
  · rw [show (a == b) = false by simpa using h, if_neg (by decide)]
    simp only
    rw [two_value n _ (digs_none (by decide)) (rest_none (by decide))]
    simp only
    rw [skip_head (by decide), show endO true = 125 from rfl, eatL, if_pos rfl]
    exact ⟨_, rfl⟩
/-- The law's two texts. -/
def twoL (a b : List UInt8) : List UInt8 := 123 :: 34 :: (qL a ++ 34 :: 58 :: 49 :: 44 :: 34 :: (qL b ++ [34, 58, 50, 125]))
def apartL (a b : List UInt8) : List UInt8 := 91 :: 123 :: 34 :: (qL a ++ 34 :: 58 :: 49 :: 125 :: 44 :: 123 :: 34 :: (qL b ++ [34, 58, 50, 125, 93]))
theorem two_parse (a b : List UInt8) (ha : U8.validL a = true) (hb : U8.validL b = true) (la : a.length ≤ 300) (lb : b.length ≤ 300) : (a = b → parseG numC (twoL a b) = .error 5) ∧ (a ≠ b → ∃ j, parseG numC (twoL a b) = .ok j) := by
  have h1 := qL_length a
  have h2 := qL_length b
  obtain ⟨h3, h4⟩ := obj_two 23 a b ha hb
  have hl : ¬ 65536 < (twoL a b).length := by unfold twoL; simp only [List.length_cons, List.length_append, List.length_nil]; omega
  unfold parseG
  rw [if_neg hl]
  unfold twoL
  refine ⟨fun h => ?_, fun h => ?_⟩
  · rw [h3 h]
  · obtain ⟨j, hj⟩ := h4 h
    rw [hj]
    exact ⟨j, rfl⟩
theorem apart_parse (a b : List UInt8) (ha : U8.validL a = true) (hb : U8.validL b = true) (la : a.length ≤ 300) (lb : b.length ≤ 300) : ∃ j, parseG numC (apartL a b) = .ok j := by
  have h1 := qL_length a
  have h2 := qL_length b
  have hl : ¬ 65536 < (apartL a b).length := by unfold apartL; simp only [List.length_cons, List.length_append, List.length_nil]; omega
  obtain ⟨j1, e1⟩ := obj_one 22 a 49 (44 :: 123 :: 34 :: (qL b ++ [34, 58, 50, 125, 93])) ha _ (one_value 22 _ (digs_none (by decide)) (rest_none (by decide)))
  obtain ⟨j2, e2⟩ := obj_one 22 b 50 [93] hb _ (two_value 22 _ (digs_none (by decide)) (rest_none (by decide)))
  unfold parseG
  rw [if_neg hl]
  unfold apartL
  rw [value_arr, list_arr _ rfl (by decide) (by decide), itemsG, show ∀ keys l, keyO false keys l = .ok (keys, l) from fun _ _ => rfl]
  simp only
  rw [e1]
  simp only
  rw [skip_head (by decide), show endO false = 93 from rfl, eatL, if_neg (by decide)]
  simp only
  rw [eatL, if_pos rfl]
  simp only
  rw [List.length_cons, itemsG, show ∀ keys l, keyO false keys l = .ok (keys, l) from fun _ _ => rfl]
  simp only
  rw [e2]
  simp only
  rw [skip_head (by decide), show endO false = 93 from rfl, eatL, if_pos rfl]
  exact ⟨_, rfl⟩
/-- A text's own value. -/
theorem right_str (t : ByteArray) (ht : t.size ≤ 300000) (hv : U8.validL t.data.toList = true) (d : Nat) : RightJ d (.mk 5 0 t [] []) := by
  have : ∀ sub, RightH sub (.mk 5 0 t [] []) := fun sub =>
    ⟨by show (1 : Int) ≤ 5; omega, by show (5 : Int) ≤ 7; omega, fun _ => rfl, by show (0 : Int) ≤ 9007199254740991; omega, by show (-9007199254740991 : Int) ≤ 0; omega, fun h => absurd rfl h, hv, fun _ => rfl, fun _ => rfl, fun _ => rfl, fun h => absurd (show (6 : Int) ≤ 5 from h) (by omega), fun _ hk => absurd hk List.not_mem_nil, fun _ hk => absurd hk List.not_mem_nil, List.nodup_nil, ht, fun _ hk => absurd hk List.not_mem_nil, by show (0 : Nat) ≤ 65536; omega, by show (0 : Nat) ≤ 65536; omega⟩
  cases d
  · exact this _
  · exact this _
theorem put_str (t : ByteArray) : putJ (.mk 5 0 t [] []) = quoteL t.data.toList := by rw [putJ]; rfl
end Go.Proofs.YtbjngdlkamdmdaaDoor.J7
namespace Go.Proofs.YtbjngdlkamdmdaaDoor.J7
open Go Go.RowKit Go.Joins Kit Dg

theorem putJ_leaf (k n : Int) (t : ByteArray) (hk : k = 1 ∨ k = 2 ∨ k = 3 ∨ k = 4 ∨ k = 5) :
    putJ (.mk k n t [] []) = if k = 1 then nullW else if k = 2 then falseW else if k = 3 then trueW else if k = 4 then numT n else quoteL t.data.toList := by
  rw [putJ]
  rcases hk with rfl | rfl | rfl | rfl | rfl <;> rfl
theorem putJ_list (obj : Bool) (keys : List ByteArray) (kids : List J) : putJ (listJ obj keys kids) = (if obj then 123 else 91) :: (putKs obj true keys kids ++ [endO obj]) := by
  unfold listJ
  rw [putJ]
  cases obj <;> rfl
/-- A text's first byte. -/
theorem put_head (d : Nat) (j : J) (h : RightJ d j) : ∃ c r, putJ j = c :: r ∧ blank c = false ∧ c ≠ 93 := by
  obtain ⟨k, n, t, keys, kids⟩ := j
  rcases right_cases d k n t keys kids h with ⟨rfl, rfl, hk, _⟩ | ⟨d', rfl, rfl, rfl, ⟨obj, hk, _⟩, _⟩
  · rw [putJ_leaf k n t hk]
    rcases hk with rfl | rfl | rfl | rfl | rfl
    · exact ⟨_, _, rfl, by decide, by decide⟩
    · exact ⟨_, _, rfl, by decide, by decide⟩
    · exact ⟨_, _, rfl, by decide, by decide⟩
    · obtain ⟨c, r, e, hc⟩ := numT_head n
      refine ⟨c, r, e, ?_, ?_⟩
      · rcases hc with rfl | hc
        · decide
        · exact (dig_ne hc).2.1
      · rcases hc with rfl | hc
        · decide
        · intro e; subst e; exact absurd hc (by decide)
    · exact ⟨_, _, rfl, by decide, by decide⟩
  · subst hk
    have := putJ_list obj keys kids
    refine ⟨_, _, this, ?_, ?_⟩ <;> cases obj <;> decide
theorem putKs_cons (obj first : Bool) (keys : List ByteArray) (j : J) (r : List J) : putKs obj first keys (j :: r) = (if first then [] else [44]) ++ ((if obj then quoteL (keys.headD ⟨#[]⟩).data.toList ++ [58] else []) ++ (putJ j ++ putKs obj false keys.tail r)) := by rw [putKs]
theorem putKs_comma (obj : Bool) (keys : List ByteArray) (j : J) (r : List J) : putKs obj false keys (j :: r) = 44 :: putKs obj true keys (j :: r) := by
  rw [putKs_cons, putKs_cons]
  rfl
theorem putKs_len (d : Nat) (obj : Bool) : ∀ (first : Bool) (keys : List ByteArray) (kids : List J), (∀ j ∈ kids, RightJ d j) → kids.length ≤ (putKs obj first keys kids).length
  | _, _, [], _ => Nat.zero_le _
  | first, keys, j :: r, h => by
    have ih := putKs_len d obj false keys.tail r fun x hx => h x (List.mem_cons_of_mem _ hx)
    obtain ⟨c, u, e, _⟩ := put_head d j (h j List.mem_cons_self)
    rw [putKs_cons, e]
    simp only [List.length_append, List.length_cons]
    omega
theorem hasB_false {ks : List ByteArray} {k : ByteArray} {r : List ByteArray} (h : ((ks ++ k :: r).map fun k => k.data.toList).Nodup) : hasB ks k.data.toList = false := by
  unfold hasB
  rw [List.any_eq_false]
  intro x hx
  rw [List.map_append, List.nodup_append] at h
  have := h.2.2 _ (List.mem_map_of_mem hx) k.data.toList (by rw [List.map_cons]; exact List.mem_cons_self)
  simpa using this
/-- The items' text is read back. -/
theorem items_put (d : Nat) (obj : Bool) (t : List UInt8) (hv : ∀ j, RightJ d j → ∀ t, digsL t = [] → restL t = t → valueG numC d (putJ j ++ t) = .ok (j, t)) :
    ∀ (kids : List J) (f : Nat) (ks keys : List ByteArray) (kids0 : List J), kids ≠ [] → kids.length ≤ f → (∀ j ∈ kids, RightJ d j) → (obj = false → keys = []) → (obj = true → keys.length = kids.length) →
      (∀ k ∈ keys, U8.validL k.data.toList = true) → ((ks ++ keys).map fun k => k.data.toList).Nodup →
      itemsG (valueG numC d) obj f ks kids0 (putKs obj true keys kids ++ endO obj :: t) = .ok (listJ obj (ks ++ keys) (kids0 ++ kids), t)
  | [], _, _, _, _, h, _, _, _, _, _, _ => absurd rfl h
  | j :: r, f, ks, keys, kids0, _, hf, hr, ho, hoo, hkv, hnd => by
    obtain ⟨f, rfl⟩ : ∃ g, f = g + 1 := ⟨f - 1, by rw [List.length_cons] at hf; omega⟩
    obtain ⟨X, hX⟩ : ∃ X, putKs obj false keys.tail r ++ endO obj :: t = X := ⟨_, rfl⟩
    have hXd : digsL X = [] ∧ restL X = X := by
      rw [← hX]
      cases r with
      | nil => rw [putKs_nil]; cases obj <;> exact ⟨digs_none (by decide), rest_none (by decide)⟩
      | cons a u => rw [putKs_comma]; exact ⟨digs_none (by decide), rest_none (by decide)⟩
    have hval := hv j (hr j List.mem_cons_self) X hXd.1 hXd.2
    -- the key, if there is one
    have hkey : ∃ k1 krest, keys = k1 ++ krest ∧ keys.tail = krest ∧ keyO obj ks (putKs obj true keys (j :: r) ++ endO obj :: t) = .ok (ks ++ k1, putJ j ++ X) := by
      rw [putKs_cons, ← hX]
      cases obj with
      | false =>
        obtain rfl := ho rfl
        refine ⟨[], [], rfl, rfl, ?_⟩
        show (.ok (ks, _) : Out (List ByteArray)) = _
        simp
      | true =>
        cases keys with
        | nil => have := hoo rfl; simp at this
        | cons k kr =>
          refine ⟨[k], kr, rfl, rfl, ?_⟩
          have hq := keyL_quote ks k.data.toList (putJ j ++ (putKs true false kr r ++ endO true :: t)) (hkv k List.mem_cons_self)
          rw [hasB_false hnd, if_neg (by decide)] at hq
          rw [show ∀ keys l, keyO true keys l = keyL keys l from fun _ _ => rfl]
          unfold quoteL
          simp only [if_pos, List.headD_cons, List.nil_append, List.cons_append, List.append_assoc, List.tail_cons]
          exact hq
    obtain ⟨k1, krest, e1, e2, hkey⟩ := hkey
    rw [itemsG, hkey]
    simp only
    rw [hval]
    simp only
    cases r with
    | nil =>
      rw [putKs_nil] at hX
      have hkr : krest = [] := by
        cases obj with
        | false => have := ho rfl; rw [e1] at this; exact (List.append_eq_nil_iff.1 this).2
        | true =>
          have h1 := hoo rfl
          have h2 : krest.length = keys.length - 1 := by rw [← e2, List.length_tail]
          rw [h1] at h2
          exact List.length_eq_zero_iff.1 (by rw [h2]; rfl)
      rw [hkr, List.append_nil] at e1
      rw [← hX, e1, List.nil_append, skip_head (by cases obj <;> decide), eatL, if_pos rfl]
    | cons a u =>
      rw [putKs_comma] at hX
      have ih := items_put d obj t hv (a :: u) f (ks ++ k1) krest (kids0 ++ [j]) (by simp) (by simpa using hf) (fun x hx => hr x (List.mem_cons_of_mem _ hx))
        (fun h => by have := ho h; rw [e1] at this; exact (List.append_eq_nil_iff.1 this).2)
        (fun h => by have := hoo h; rw [← e2, List.length_tail, this]; rfl)
        (fun k hk => hkv k (by rw [e1]; exact List.mem_append_right _ hk))
        (by rw [List.append_assoc, ← e1]; exact hnd)
      rw [← hX, List.cons_append, skip_head (by decide), eatL, if_neg (by cases obj <;> decide)]
      simp only
      rw [eatL, if_pos rfl]
      simp only
      rw [e2, ih, List.append_assoc, ← e1, List.append_assoc]
      rfl
theorem value_str (num : List UInt8 → Out J) (d : Nat) (r : List UInt8) : valueG num d (34 :: r) = textJ r := by
  rw [valueG_eq]
  unfold valueH
  rw [skip_head (by decide)]
  simp only
  rw [if_neg (by decide), if_neg (by decide), if_neg (by decide), if_pos trivial]
theorem value_leaf (d : Nat) (k n : Int) (t : ByteArray) (keys : List ByteArray) (kids : List J)
    (h : keys = [] ∧ kids = [] ∧ (k = 1 ∨ k = 2 ∨ k = 3 ∨ k = 4 ∨ k = 5) ∧ (k ≠ 4 → n = 0) ∧ (k ≠ 5 → t = ⟨#[]⟩) ∧ n ≤ 9007199254740991 ∧ -9007199254740991 ≤ n ∧ t.size ≤ 300000 ∧ U8.validL t.data.toList = true)
    (T : List UInt8) (h1 : digsL T = []) (h2 : restL T = T) : valueG numC d (putJ (.mk k n t keys kids) ++ T) = .ok (.mk k n t keys kids, T) := by
  obtain ⟨rfl, rfl, hk, h3, h6, h4, h5, h15, h7⟩ := h
  rw [putJ_leaf k n t hk]
  rcases hk with rfl | rfl | rfl | rfl | rfl
  · obtain rfl := h3 (by decide)
    obtain rfl := h6 (by decide)
    rw [valueG_eq]
    rfl
  · obtain rfl := h3 (by decide)
    obtain rfl := h6 (by decide)
    rw [valueG_eq]
    rfl
  · obtain rfl := h3 (by decide)
    obtain rfl := h6 (by decide)
    rw [valueG_eq]
    rfl
  · obtain rfl := h6 (by decide)
    exact value_numT d n h4 h5 T h1 h2
  · obtain rfl := h3 (by decide)
    show valueG numC d (quoteL t.data.toList ++ T) = _
    unfold quoteL
    rw [List.cons_append, value_str, List.append_assoc]
    unfold textJ
    rw [show [34] ++ T = 34 :: T from rfl, textL_quote _ _ h7]
    rfl
/-- A value's text is read back. -/
theorem value_put (d : Nat) : ∀ j, RightJ d j → ∀ T, digsL T = [] → restL T = T → valueG numC d (putJ j ++ T) = .ok (j, T) := by
  induction d with
  | zero =>
    intro j h T h1 h2
    obtain ⟨k, n, t, keys, kids⟩ := j
    rcases right_cases 0 k n t keys kids h with hl | ⟨d', hd, _⟩
    · exact value_leaf 0 k n t keys kids hl T h1 h2
    · omega
  | succ d ih =>
    intro j h T h1 h2
    obtain ⟨k, n, t, keys, kids⟩ := j
    rcases right_cases (d + 1) k n t keys kids h with hl | ⟨d', hd, rfl, rfl, ⟨obj, hk, ho, hoo⟩, hr, h18, h17, h16, h13, h14⟩
    · exact value_leaf (d + 1) k n t keys kids hl T h1 h2
    · obtain rfl : d = d' := by omega
      subst hk
      have e := putJ_list obj keys kids
      rw [show J.mk (if obj = true then 7 else 6) 0 ⟨#[]⟩ keys kids = listJ obj keys kids from rfl, e]
      have hrm : ∀ j ∈ kids, RightJ d j := fun j hj => by obtain ⟨i, hi, rfl⟩ := List.getElem_of_mem hj; exact hr i hi
      have hhead : listG (valueG numC d) obj (putKs obj true keys kids ++ endO obj :: T) = .ok (listJ obj keys kids, T) := by
        cases kids with
        | nil =>
          have hkn : keys = [] := by
            cases obj with
            | false => exact ho rfl
            | true => exact List.length_eq_zero_iff.1 (hoo rfl)
          rw [hkn, putKs_nil, List.nil_append]
          unfold listG
          rw [skip_head (by cases obj <;> decide), eatL, if_pos rfl]
        | cons a u =>
          obtain ⟨c, r, hc, hb, hne⟩ : ∃ c r, putKs obj true keys (a :: u) = c :: r ∧ blank c = false ∧ c ≠ endO obj := by
            rw [putKs_cons]
            cases obj with
            | true => exact ⟨34, _, rfl, by decide, by decide⟩
            | false =>
              obtain ⟨c, r, e, hb, hne⟩ := put_head d a (hrm a List.mem_cons_self)
              rw [e]
              exact ⟨c, _, rfl, hb, hne⟩
          have hi := items_put d obj T ih (a :: u) ((putKs obj true keys (a :: u) ++ endO obj :: T).length + 1) [] keys [] (by simp) (by have := putKs_len d obj true keys (a :: u) hrm; rw [List.length_append]; omega) hrm ho hoo h13 h14
          rw [hc, List.cons_append] at hi ⊢
          unfold listG
          rw [skip_head hb, eatL, if_neg hne]
          simp only
          rw [hi]
          rfl
      rw [show ((if obj = true then (123 : UInt8) else 91) :: (putKs obj true keys kids ++ [endO obj])) ++ T = (if obj = true then 123 else 91) :: (putKs obj true keys kids ++ endO obj :: T) by simp]
      cases obj with
      | false => rw [if_neg (by decide), value_arr]; exact hhead
      | true => rw [if_pos rfl, value_obj]; exact hhead
theorem parse_put (j : J) (h : RightJ 24 j) (hl : (putJ j).length ≤ 65536) : parseG numC (putJ j) = .ok j := by
  have hv := value_put 24 j h [] rfl rfl
  rw [List.append_nil] at hv
  unfold parseG
  rw [if_neg (by omega), hv]
  rfl
end Go.Proofs.YtbjngdlkamdmdaaDoor.J7
