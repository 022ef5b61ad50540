/-
  The law JsonDeep returns true, of any number and either way. Conditions: none.
-/
import Derived.Test.YtpnffmimpkimeaaJ7Awake
import Derived.Laws.IdiomStrings
import Derived.Lib.ConvBytes
import Derived.IntWalk
namespace Go.Proofs.Ytpnffmimpkimeaa.J7
open Go Go.RowKit Go.Joins Kit

/-- '[]byte(s)': a new row of its bytes. -/
theorem conv_bytes (s : ByteArray) (w : World) : ∃ cap w', (convert 9 22 (.string s)).run Try.prog w = .ok (.slice (some ⟨w.heap.size, 0, none⟩) s.size cap) w' ∧ BytesAt w' (.slice (some ⟨w.heap.size, 0, none⟩) s.size cap) s.data.toList ∧ Below w.heap.size w w' := by
  refine ⟨_, _, Lib.run_convert_string_bytes (P := Try.prog) w 9 22 5 s Try.underlying9 Try.underlying22 Try.underlying5, ?_, ?_⟩
  · refine Or.inr ⟨_, _, by rw [Lib.size_eq], fun j hj => ?_⟩
    have hj' : j < s.size := by rw [Lib.size_eq]; exact hj
    rw [show (⟨w.heap.size, 0, none⟩ : Addr).add j = ⟨w.heap.size, j, none⟩ by simp [Addr.add]; omega, Lib.bytesWorld_cell w 5 s j hj']
    rw [List.getD_eq_getElem?_getD, List.getElem?_eq_getElem hj, Option.getD_some]
  · refine ⟨rfl, rfl, rfl, by rw [Lib.bytesWorld_size]; omega, fun k hk => Lib.bytesWorld_at_old w 5 s k hk⟩

/-! ### Plain -/
def opn (obj : Bool) : List UInt8 := if obj then [123, 34, 97, 34, 58] else [91]
def cls (obj : Bool) : List UInt8 := if obj then [125] else [93]
def deepL (obj : Bool) : Nat → List UInt8 → List UInt8
  | 0, t => 49 :: t
  | k + 1, t => opn obj ++ deepL obj k (cls obj ++ t)
def rep (l : List UInt8) : Nat → List UInt8
  | 0 => []
  | k + 1 => rep l k ++ l
theorem rep_cons (l : List UInt8) : ∀ k, rep l (k + 1) = l ++ rep l k
  | 0 => by simp [rep]
  | k + 1 => by rw [rep, rep_cons l k, List.append_assoc, ← rep, ← rep_cons l k]
theorem rep_length (l : List UInt8) : ∀ k, (rep l k).length = k * l.length
  | 0 => by rw [rep]; simp
  | k + 1 => by rw [rep, List.length_append, rep_length l k, Nat.succ_mul]
theorem deep_eq (obj : Bool) : ∀ (k : Nat) (t : List UInt8), deepL obj k t = rep (opn obj) k ++ 49 :: (rep (cls obj) k ++ t)
  | 0, t => by rw [deepL, rep, rep]; rfl
  | k + 1, t => by
    rw [deepL, deep_eq obj k, rep_cons, rep]
    simp
theorem deep_whole (obj : Bool) (k : Nat) : rep (opn obj) k ++ [49] ++ rep (cls obj) k = deepL obj k [] := by rw [deep_eq, List.append_nil, List.append_assoc]; rfl
theorem deep_head (obj : Bool) (k : Nat) (t : List UInt8) : ∃ c r, deepL obj k t = c :: r ∧ blank c = false ∧ c ≠ 93 := by
  cases k with
  | zero => exact ⟨49, t, rfl, by decide, by decide⟩
  | succ k =>
    rw [deepL]
    cases obj
    · exact ⟨91, _, rfl, by decide, by decide⟩
    · exact ⟨123, _, rfl, by decide, by decide⟩
theorem skip_head {c : UInt8} {r : List UInt8} (h : blank c = false) : skipL (c :: r) = c :: r := by rw [skipL, if_neg (by rw [h]; decide)]
theorem plain_one (c : UInt8) (h : c.toNat < 128) (l : List UInt8) : plainT (c :: l) = .ok ([c], l) := by
  have h2 : U8.sizeN (c.toNat : Int) = 1 := U8.sizeN_one.2 ⟨by omega, by omega⟩
  have h1 : U8.putL (c.toNat : Int) = [c] := by rw [U8.putL_one h2, U8.b8_self]
  have := U8.decL_put (c.toNat : Int) (by rw [h2]; decide) l
  rw [h1, h2] at this
  unfold plainT
  rw [show c :: l = [c] ++ l from rfl, this]
  rfl
theorem key_a (D : List UInt8) : keyC [] (34 :: 97 :: 34 :: 58 :: D) = .ok ([⟨#[97]⟩], 58 :: D) := by
  unfold keyC quoL
  rw [skip_head (by decide), eatL, if_pos rfl]
  simp only
  unfold textL
  rw [textF_plain (by decide) (by decide) (by decide), plain_one 97 (by decide)]
  simp only
  rw [textF_end (by simp)]
  rfl
theorem one_value (n : Nat) (t : List UInt8) (hd : digsL t = []) (hr : restL t = t) : valueG numC n (49 :: t) = .ok (numJ 1, t) := by
  rw [valueG_eq]
  unfold valueH
  rw [skip_head (by decide)]
  simp only
  rw [if_neg (by decide), if_neg (by decide), if_neg (by decide), if_neg (by decide), if_neg (by decide), if_neg (by decide)]
  unfold numC
  rw [eatL, if_neg (by decide)]
  simp only
  rw [digC, if_neg (by decide), digs_head (by decide), rest_head (by decide), hd, hr, numV_cons, numV_nil]
  rfl
theorem cls_tail (obj : Bool) (t : List UInt8) : digsL (cls obj ++ t) = [] ∧ restL (cls obj ++ t) = cls obj ++ t := by
  cases obj
  · exact ⟨digs_none (by decide), rest_none (by decide)⟩
  · exact ⟨digs_none (by decide), rest_none (by decide)⟩
theorem value_arr (n : Nat) (D : List UInt8) : valueG numC (n + 1) (91 :: D) = listG (valueG numC n) false D := by
  show valueH numC (listG (valueG numC n)) (91 :: D) = _
  unfold valueH
  rw [skip_head (by decide)]
  simp only
  rw [if_neg (by decide), if_neg (by decide), if_neg (by decide), if_neg (by decide), if_pos trivial]
theorem value_obj (n : Nat) (D : List UInt8) : valueG numC (n + 1) (123 :: D) = listG (valueG numC n) true D := by
  show valueH numC (listG (valueG numC n)) (123 :: D) = _
  unfold valueH
  rw [skip_head (by decide)]
  simp only
  rw [if_neg (by decide), if_neg (by decide), if_neg (by decide), if_neg (by decide), if_neg (by decide), if_pos trivial]
theorem list_arr (val : List UInt8 → Out J) {D : List UInt8} {c : UInt8} {r : List UInt8} (hD : D = c :: r) (hb : blank c = false) (hc : c ≠ 93) : listG val false D = itemsG val false (D.length + 1) [] [] D := by
  subst hD
  unfold listG
  rw [skip_head hb]
  show (match eatL 93 (c :: r) with
    | some r => (.ok (listJ false [] [], r) : Out J)
    | none => _) = _
  rw [eatL, if_neg hc]
theorem list_a (val : List UInt8 → Out J) (D : List UInt8) : listG val true (34 :: 97 :: 34 :: 58 :: D) = afterKey val (D.length + 4) [⟨#[97]⟩] [] (.ok ((), D)) := by
  unfold listG
  rw [skip_head (by decide)]
  show (match eatL 125 (34 :: 97 :: 34 :: 58 :: D) with
    | some r => (.ok (listJ true [] [], r) : Out J)
    | none => _) = _
  rw [eatL, if_neg (by decide)]
  simp only [List.length_cons]
  rw [items_key_ok (key_a D)]
  have : wantL 58 (58 :: D) = .ok ((), D) := by
    unfold wantL
    rw [skip_head (by decide), eatL, if_pos rfl]
  rw [this]
theorem deep_ok (obj : Bool) : ∀ (k n : Nat) (t : List UInt8), k ≤ n → digsL t = [] → restL t = t → ∃ j, valueG numC n (deepL obj k t) = .ok (j, t)
  | 0, n, t, _, hd, hr => ⟨_, one_value n t hd hr⟩
  | k + 1, 0, t, h, _, _ => by omega
  | k + 1, n + 1, t, h, _, _ => by
    obtain ⟨j, hj⟩ := deep_ok obj k n (cls obj ++ t) (by omega) (cls_tail obj t).1 (cls_tail obj t).2
    obtain ⟨c, r, hD, hb, hc⟩ := deep_head obj k (cls obj ++ t)
    rw [deepL]
    cases obj
    · refine ⟨listJ false [] ([] ++ [j]), ?_⟩
      show valueG numC (n + 1) (91 :: deepL false k (cls false ++ t)) = _
      rw [value_arr, list_arr _ hD hb hc, items_ok hj]
      rw [show cls false ++ t = 93 :: t from rfl, skip_head (by decide), eatL, if_pos rfl]
    · refine ⟨listJ true [⟨#[97]⟩] ([] ++ [j]), ?_⟩
      show valueG numC (n + 1) (123 :: 34 :: 97 :: 34 :: 58 :: deepL true k (cls true ++ t)) = _
      rw [value_obj, list_a]
      unfold afterKey
      simp only [hj]
      rw [show cls true ++ t = 125 :: t from rfl, skip_head (by decide), eatL, if_pos rfl]
theorem deep_err (obj : Bool) : ∀ (k n : Nat) (t : List UInt8), n < k → valueG numC n (deepL obj k t) = .error 4
  | 0, n, t, h => by omega
  | k + 1, 0, t, _ => by
    rw [deepL]
    show valueH numC (fun _ _ => .error 4) (opn obj ++ deepL obj k (cls obj ++ t)) = _
    unfold valueH
    cases obj
    · rw [show opn false = [91] from rfl, List.singleton_append, skip_head (by decide)]
      rfl
    · rw [show opn true = [123, 34, 97, 34, 58] from rfl, List.cons_append, skip_head (by decide)]
      rfl
  | k + 1, n + 1, t, h => by
    have hj := deep_err obj k n (cls obj ++ t) (by omega)
    obtain ⟨c, r, hD, hb, hc⟩ := deep_head obj k (cls obj ++ t)
    rw [deepL]
    cases obj
    · show valueG numC (n + 1) (91 :: deepL false k (cls false ++ t)) = _
      rw [value_arr, list_arr _ hD hb hc, items_err hj (by omega)]
    · show valueG numC (n + 1) (123 :: 34 :: 97 :: 34 :: 58 :: deepL true k (cls true ++ t)) = _
      rw [value_obj, list_a]
      unfold afterKey
      simp only [hj]
theorem deep_parse (obj : Bool) (k : Nat) (hk : k ≤ 40) : (k ≤ 24 → ∃ j, parseG numC (deepL obj k []) = .ok j) ∧ (24 < k → parseG numC (deepL obj k []) = .error 4) := by
  have hl : ¬ 65536 < (deepL obj k []).length := by
    rw [deep_eq]
    simp only [List.length_append, List.length_cons, rep_length, List.length_nil]
    have : (opn obj).length ≤ 5 ∧ (cls obj).length ≤ 5 := by cases obj <;> decide
    have h1 : k * (opn obj).length ≤ 40 * 5 := Nat.mul_le_mul hk this.1
    have h2 : k * (cls obj).length ≤ 40 * 5 := Nat.mul_le_mul hk this.2
    omega
  unfold parseG
  rw [if_neg hl]
  constructor
  · intro h
    obtain ⟨j, hj⟩ := deep_ok obj k 24 [] h rfl rfl
    exact ⟨j, by rw [hj]; rfl⟩
  · intro h
    rw [deep_err obj k 24 [] h]

theorem parse_forms {w0 w : World} {o : Except Nat J} {e' : Ending} (h : ParseLeft w0 o e' w) : Below w0.heap.size w0 w ∧ ∃ x0 x1 x2 a3 l3 m3 a4 l4 m4, ∃ c : Int, e' = .returned (.tuple #[.agg #[.int .i64 x0, .int .i64 x1, .string x2, .slice a3 l3 m3, .slice a4 l4 m4], .int .i64 c]) ∧
    match o with
    | .ok j => c = 0 ∧ NodeAt (fun g => w0.heap.size ≤ g) w j (.agg #[.int .i64 x0, .int .i64 x1, .string x2, .slice a3 l3 m3, .slice a4 l4 m4])
    | .error e => c = (e : Int) ∧ (Value.agg #[.int .i64 x0, .int .i64 x1, .string x2, .slice a3 l3 m3, .slice a4 l4 m4]) = zeroN := by
  obtain ⟨hb, c0, c1, c2, c3, c4, c, he, hm⟩ := h
  cases o with
  | ok j =>
    obtain ⟨hc, hn⟩ := hm
    obtain ⟨x0, x1, x2, a3, l3, m3, a4, l4, m4, rfl, rfl, rfl, rfl, rfl⟩ := hn.forms
    exact ⟨hb, _, _, _, _, _, _, _, _, _, _, he, hc, hn⟩
  | error e =>
    obtain ⟨hc, hz⟩ := hm
    have hz' := hz
    unfold zeroN at hz'
    injection hz' with e; injection e with e; injection e with e0 e; injection e with e1 e; injection e with e2 e; injection e with e3 e; injection e with e4
    subst e0 e1 e2 e3 e4
    exact ⟨hb, _, _, _, _, _, _, _, _, _, _, he, hc, hz⟩
def bS (l : List UInt8) : ByteArray := ⟨l.toArray⟩
theorem bS_size (l : List UInt8) : (bS l).size = l.length := by rw [Lib.size_eq]; rfl
theorem bS_data (l : List UInt8) : (bS l).data.toList = l := rfl
theorem cat_bS {a b : ByteArray} {l m : List UInt8} (ha : a.data.toList = l) (hb : b.data.toList = m) : (a ++ b).data.toList = l ++ m := by
  rw [← ha, ← hb]
  simp

set_option maxHeartbeats 4000000 in
set_option maxRecDepth 100000 in
theorem jsonDeep_walk (n : Int) (obj : Bool) (n0 : 0 ≤ n) (n1 : n ≤ 255) (w : World) :
    Calls Try.prog 6 #[.int .u8 n, .bool obj] w fun e w' => e = .returned (.bool true) ∧ Below w.heap.size w w' := by
  obtain ⟨k, hk⟩ : ∃ k : Nat, 1 + n % 40 = (k : Int) := ⟨(1 + n % 40).toNat, by omega⟩
  have hk1 : (k : Int) ≤ 40 := by omega
  have ho5 : (opn obj).length ≤ 5 ∧ (cls obj).length ≤ 5 := by cases obj <;> decide
  obtain ⟨op, hop⟩ : ∃ op, bS (opn obj) = op := ⟨_, rfl⟩
  obtain ⟨cl, hcl⟩ : ∃ cl, bS (cls obj) = cl := ⟨_, rfl⟩
  have hops : op.data.toList = opn obj := by rw [← hop]; rfl
  have hcls : cl.data.toList = cls obj := by rw [← hcl]; rfl
  have sop : (op.size : Int) ≤ 5 := by rw [Lib.size_eq, hops]; omega
  have scl : (cl.size : Int) ≤ 5 := by rw [Lib.size_eq, hcls]; omega
  have HP := Lib.hid (deep_parse obj k (by omega))
  have HOP := Lib.hid hops
  have HCL := Lib.hid hcls
  clear hops hcls
  clear ho5
  cases obj
  all_goals
    go_enter Try.func6, Try.ntmps6
    go_upto_region 6 with fail
    first
      | rw [show (ByteArray.mk #[91] : ByteArray) = op from hop, show (ByteArray.mk #[93] : ByteArray) = cl from hcl]
      | rw [show (ByteArray.mk #[123, 34, 97, 34, 58] : ByteArray) = op from hop, show (ByteArray.mk #[125] : ByteArray) = cl from hcl]
    clear hop hcl
    go_wp2_with fail
    go_loopw [8, 9] (fun a b wr => ∃ (i : Nat) (S : ByteArray), a = .string S ∧ b = .int .i64 i ∧ i ≤ k ∧ (S.size : Int) ≤ 5 * i ∧ Hid (S.data.toList = rep (opn _) i) ∧ w = wr) (fun _ b _ => k - (intOf b).toNat)
    case atStart => exact ⟨0, ⟨#[]⟩, rfl, rfl, Nat.zero_le _, by decide, Lib.hid rfl, rfl⟩
    case round =>
      obtain ⟨i, S, rfl, rfl, hi, hS, HS, rfl⟩ := hrel
      by_cases hlt : i < k
      · have g : (i : Int) < k := by omega
        have HN := Lib.hid (cat_bS HS.out HOP.out)
        go_wp2_with fail
        go_roundw
        case rel => exact ⟨i + 1, S ++ op, rfl, by go_num, by omega, by rw [ByteArray.size_append]; omega, HN, by first | rfl | trivial⟩
        case measure => simp [intOf]; omega
      · have e : i = k := by omega
        subst e
        have HS1 := Lib.hid (cat_bS (b := ⟨#[49]⟩) (m := [49]) HS.out rfl)
        have hS1 : ((S ++ ByteArray.mk #[49]).size : Int) ≤ 5 * i + 1 := by rw [ByteArray.size_append]; show ((S.size + 1 : Nat) : Int) ≤ _; omega
        go_wp2_with fail
        go_loopw [8, 10] (fun a b wr => ∃ (q : Nat) (T : ByteArray), a = .string T ∧ b = .int .i64 q ∧ q ≤ i ∧ (T.size : Int) ≤ 5 * i + 1 + 5 * q ∧ Hid (T.data.toList = (rep (opn _) i ++ [49]) ++ rep (cls _) q) ∧ w = wr) (fun _ b _ => i - (intOf b).toNat)
        case atStart => exact ⟨0, _, rfl, rfl, Nat.zero_le _, by omega, Lib.hid (by rw [rep, List.append_nil]; exact HS1.out), rfl⟩
        case round =>
          obtain ⟨q, T, rfl, rfl, hq, hT, HT, rfl⟩ := hrel
          by_cases hlt2 : q < i
          · have g : (q : Int) < i := by omega
            have HN := Lib.hid (cat_bS HT.out HCL.out)
            go_wp2_with fail
            go_roundw
            case rel => exact ⟨q + 1, T ++ cl, rfl, by go_num, by omega, by rw [ByteArray.size_append]; omega, Lib.hid (by rw [rep, ← List.append_assoc]; exact HN.out), by first | rfl | trivial⟩
            case measure => simp [intOf]; omega
          · have e : q = i := by omega
            subst e
            have hTd := HT.out.trans (deep_whole _ q)
            obtain ⟨cap, w2, hconv, hby, hb2⟩ := conv_bytes T w
            rw [hTd] at hby
            have hp := parse_any _ _ w2 hby
            rcases Nat.lt_or_ge 24 q with h24 | h24
            · rw [HP.out.2 h24] at hp
              have g : (24 : Int) < q := by omega
              clear hby hTd HP HT hS1 HS1
              go_wp2_with fail
              refine hp.mono ?_
              intro e' w3 hL
              obtain ⟨hb3, x0, x1, x2, a3, l3, m3, a4, l4, m4, c, rfl, rfl, -⟩ := parse_forms hL
              have hb4 := (hb2.trans (hb3.mono hb2.size)).alloc (by have := hb2.size; have := hb3.size; omega) (.cells #[.int .i64 x0, .int .i64 x1, .string x2, .slice a3 l3 m3, .slice a4 l4 m4] 27)
              clear hL hp
              go_wp2_with fail
              refine (L3.num_any 4 _).mono ?_
              rintro e' w5 ⟨rfl, rfl⟩
              go_wp2_with fail
              refine (awake_any _).mono ?_
              rintro e' w6 ⟨rfl, hb6⟩
              go_wp2_with fail
              go_ret
              exact ⟨rfl, hb4.trans (hb6.mono hb4.size)⟩
            · obtain ⟨j, hj⟩ := HP.out.1 h24
              rw [hj] at hp
              have g : decide ((24 : Int) < (q : Int)) = false := by rw [decide_eq_false_iff_not]; omega
              clear hby hTd HP HT hS1 HS1 hj
              go_wp2_with fail
              refine hp.mono ?_
              intro e' w3 hL
              obtain ⟨hb3, x0, x1, x2, a3, l3, m3, a4, l4, m4, c, rfl, rfl, -⟩ := parse_forms hL
              have hb4 := (hb2.trans (hb3.mono hb2.size)).alloc (by have := hb2.size; have := hb3.size; omega) (.cells #[.int .i64 x0, .int .i64 x1, .string x2, .slice a3 l3 m3, .slice a4 l4 m4] 27)
              clear hL hp
              go_wp2_with fail
              refine (L3.num_any 0 _).mono ?_
              rintro e' w5 ⟨rfl, rfl⟩
              go_wp2_with fail
              refine (L3.num_any 0 _).mono ?_
              rintro e' w5 ⟨rfl, rfl⟩
              go_wp2_with fail
              refine (awake_any _).mono ?_
              rintro e' w6 ⟨rfl, hb6⟩
              go_wp2_with fail
              go_ret
              exact ⟨rfl, hb4.trans (hb6.mono hb4.size)⟩
end Go.Proofs.Ytpnffmimpkimeaa.J7
