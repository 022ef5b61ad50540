/-
  Plain facts on the way that package utf7 goes: base64 without its pads, a sign in the place of another, what a name tells that may be none, units one by one, code points as a range over a text tells them. No function of the project in this text. Conditions: none.
-/
import Derived.Test.YtcakcpnmbclieaaDoorU7Plain
import Derived.Lib.Replace
import Derived.Lib.TrimByte
namespace Go.Proofs.YtcakcpnmbclieaaDoor.U7
open Go
open U8 (putL decL validL sizeN decL_some decL_put validL_some validL_none putL_length b8 b8_nat)
open B6 (letL sg six looseL)

/-! ### Letters without pads -/
theorem dropWhile_self {p : UInt8 → Bool} : ∀ {l : List UInt8}, (∀ c ∈ l, p c = false) → l.dropWhile p = l
  | [], _ => rfl
  | c :: r, h => by rw [List.dropWhile_cons, h c List.mem_cons_self]; rfl
theorem trim_enc (l : List UInt8) : Lib.trimRightB (B6.encL l) 61 = letL l := by
  unfold Lib.trimRightB B6.encL
  rw [List.reverse_append, List.reverse_replicate, List.dropWhile_append_of_pos (by intro c hc; rw [List.eq_of_mem_replicate hc]; rfl),
    dropWhile_self (by intro c hc; simpa using B6.letL_ne l c (List.mem_reverse.1 hc)), List.reverse_reverse]

/-! ### A sign in the place of another -/
theorem replaceK_one (x y : UInt8) : ∀ (s : List UInt8), Lib.replaceK [x] [y] (Lib.count s [x]) s = s.map (fun c => if c = x then y else c)
  | [] => by rw [Lib.count_one]; rfl
  | b :: t => by
    have ih := replaceK_one x y t
    by_cases hb : b = x
    · subst hb
      have h0 : Lib.index (b :: t) [b] = (0 : Nat) := by rw [Lib.index_one, Lib.indexByte]; simp
      rw [Lib.count_cons_eq, Nat.add_comm, Lib.replaceK_hit [b] [y] _ _ 0 h0]
      simp only [List.take_zero, List.nil_append, List.length_singleton, Nat.zero_add, List.drop_succ_cons, List.drop_zero, List.map_cons, if_true, List.cons_append]
      rw [ih]
    · rw [Lib.count_cons_ne b x t hb, List.map_cons, if_neg hb, ← ih]
      cases hk : Lib.count t [x] with
      | zero => rw [Lib.replaceK, Lib.replaceK]
      | succ k =>
        obtain ⟨i, hi⟩ := Lib.index_of_count (s := t) (old := [x]) (by omega)
        have h1 : Lib.index (b :: t) [x] = (i + 1 : Nat) := by
          rw [Lib.index_one] at hi ⊢
          rw [Lib.indexByte, hi, if_neg (by simpa using hb), if_neg (by simp <;> omega)]
          simp
        rw [Lib.replaceK_hit [x] [y] k _ (i + 1) h1, Lib.replaceK_hit [x] [y] k _ i hi]
        simp
theorem replace_one (x y : UInt8) (h : x ≠ y) (s : List UInt8) : Lib.replaceAll s [x] [y] = s.map (fun c => if c = x then y else c) := by
  unfold Lib.replaceAll Lib.replace
  rw [if_neg (by simpa using h), show Lib.replaceNum s [x] (-1) = Lib.count s [x] by unfold Lib.replaceNum; rw [if_pos (Or.inl (by decide))]]
  exact replaceK_one x y s
theorem replace_com (s : List UInt8) : Lib.replaceAll s [47] [44] = s.map com := replace_one 47 44 (by decide) s
theorem replace_uncom (s : List UInt8) : Lib.replaceAll s [44] [47] = s.map uncom := replace_one 44 47 (by decide) s
theorem row_trim {row : List UInt8} (h : row ≠ []) (l : List UInt8) : (l ++ [38]) ++ Lib.replaceAll (Lib.trimRightB (B6.encL row) 61) [47] [44] ++ [45] = l ++ rowL row := by
  rw [trim_enc, replace_com, row_cons h]
  simp

/-! ### Units one by one -/
/-- The code points of units, behind the first of two that was seen last. -/
def ptU : Nat → List UInt8 → List UInt8
  | high, a :: b :: r =>
    if a.toNat * 256 + b.toNat < 55296 ∨ 57343 < a.toNat * 256 + b.toNat then putL ((a.toNat * 256 + b.toNat : Nat) : Int) ++ ptU high r
    else if a.toNat * 256 + b.toNat < 56320 then ptU (a.toNat * 256 + b.toNat - 55296) r
    else putL ((65536 + high * 1024 + (a.toNat * 256 + b.toNat) - 56320 : Nat) : Int) ++ ptU high r
  | _, [_] => []
  | _, [] => []
theorem ptU_other (high : Nat) (a b : UInt8) (r : List UInt8) (h : a.toNat * 256 + b.toNat < 55296 ∨ 57343 < a.toNat * 256 + b.toNat) : ptU high (a :: b :: r) = putL ((a.toNat * 256 + b.toNat : Nat) : Int) ++ ptU high r := by rw [ptU, if_pos h]
theorem ptU_high (high : Nat) (a b : UInt8) (r : List UInt8) (h0 : 55296 ≤ a.toNat * 256 + b.toNat) (h1 : a.toNat * 256 + b.toNat < 56320) : ptU high (a :: b :: r) = ptU (a.toNat * 256 + b.toNat - 55296) r := by rw [ptU, if_neg (by omega), if_pos h1]
theorem ptU_low (high : Nat) (a b : UInt8) (r : List UInt8) (h0 : 56320 ≤ a.toNat * 256 + b.toNat) (h1 : a.toNat * 256 + b.toNat ≤ 57343) : ptU high (a :: b :: r) = putL ((65536 + high * 1024 + (a.toNat * 256 + b.toNat) - 56320 : Nat) : Int) ++ ptU high r := by rw [ptU, if_neg (by omega), if_neg (by omega)]
theorem ptU_short (high : Nat) {l : List UInt8} (h : l.length ≤ 1) : ptU high l = [] := by
  match l, h with
  | [], _ => simp [ptU]
  | [_], _ => simp [ptU]
  | _ :: _ :: _, h => simp at h
theorem ptU_len : ∀ (l : List UInt8) (high : Nat), (ptU high l).length ≤ 4 * l.length
  | a :: b :: r, high => by
    have h1 := putL_length ((a.toNat * 256 + b.toNat : Nat) : Int)
    have h2 := U8.sizeN_le ((a.toNat * 256 + b.toNat : Nat) : Int)
    have h3 := putL_length ((65536 + high * 1024 + (a.toNat * 256 + b.toNat) - 56320 : Nat) : Int)
    have h4 := U8.sizeN_le ((65536 + high * 1024 + (a.toNat * 256 + b.toNat) - 56320 : Nat) : Int)
    rw [ptU]
    split
    · have ih := ptU_len r high
      rw [List.length_append]
      simp only [List.length_cons]
      omega
    · split
      · have ih := ptU_len r (a.toNat * 256 + b.toNat - 55296)
        simp only [List.length_cons]
        omega
      · have ih := ptU_len r high
        rw [List.length_append]
        simp only [List.length_cons]
        omega
  | [_], _ => by simp [ptU]
  | [], _ => by simp [ptU]
theorem ptU_u16 (r : Nat) (h : Scalar r) (high : Nat) (t : List UInt8) : ∃ g, ptU high (u16 r ++ t) = putL (r : Int) ++ ptU g t := by
  have hs := (scalar_iff r).1 h
  unfold u16
  by_cases h1 : 65535 < r
  · rw [if_pos h1]
    refine ⟨(r - 65536) / 1024, ?_⟩
    show ptU high (_ :: _ :: _ :: _ :: t) = _
    rw [ptU_high high _ _ _ (by rw [ofNat_u8 (by omega), ofNat_u8 (by omega)]; omega) (by rw [ofNat_u8 (by omega), ofNat_u8 (by omega)]; omega),
      ptU_low _ _ _ _ (by rw [ofNat_u8 (by omega), ofNat_u8 (by omega)]; omega) (by rw [ofNat_u8 (by omega), ofNat_u8 (by omega)]; omega),
      ofNat_u8 (by omega), ofNat_u8 (by omega), ofNat_u8 (by omega), ofNat_u8 (by omega),
      show (55296 + (r - 65536) / 1024) / 256 * 256 + (55296 + (r - 65536) / 1024) % 256 - 55296 = (r - 65536) / 1024 by omega,
      show 65536 + (r - 65536) / 1024 * 1024 + ((56320 + (r - 65536) % 1024) / 256 * 256 + (56320 + (r - 65536) % 1024) % 256) - 56320 = r by omega]
  · rw [if_neg h1]
    refine ⟨high, ?_⟩
    show ptU high (_ :: _ :: t) = _
    rw [ptU_other high _ _ _ (by rw [ofNat_u8 (by omega), ofNat_u8 (by omega)]; omega), ofNat_u8 (by omega), ofNat_u8 (by omega), show r / 256 * 256 + r % 256 = r by omega]
theorem ptU_u16s : ∀ (ps : List Nat) (high : Nat), (∀ r ∈ ps, Scalar r) → ptU high (u16s ps) = putsL ps
  | [], _, _ => by simp [u16s, ptU, putsL]
  | r :: ps, high, h => by
    obtain ⟨g, hg⟩ := ptU_u16 r (h r List.mem_cons_self) high (u16s ps)
    rw [u16s, hg, putsL, ptU_u16s ps g (fun x hx => h x (List.mem_cons_of_mem _ hx))]

/-! ### What a name tells that may be none -/
/-- A row, and what stands behind it: to the end where it is open. -/
def rowS (r : List UInt8) : List UInt8 × List UInt8 := match dashL r with
  | none => (r, [])
  | some p => p
theorem rowS_some {r a b : List UInt8} (h : dashL r = some (a, b)) : rowS r = (a, b) := by rw [rowS, h]
theorem rowS_none {r : List UInt8} (h : dashL r = none) : rowS r = (r, []) := by rw [rowS, h]
theorem rowS_len (r : List UInt8) : (rowS r).1.length + (rowS r).2.length ≤ r.length := by
  unfold rowS
  cases h : dashL r with
  | none => simp
  | some p => obtain ⟨a, b⟩ := p; have := dash_len h; simp only; omega
def rowT (a : List UInt8) : List UInt8 := if a = [] then [38] else ptU 0 (looseL (a.map uncom))
theorem rowT_len (a : List UInt8) : (rowT a).length ≤ 4 * a.length + 1 := by
  unfold rowT
  split
  · simp
  · have h1 := ptU_len (looseL (a.map uncom)) 0
    have h2 := B6.loose_length (a.map uncom)
    rw [List.length_map] at h2
    omega
def looF : Nat → List UInt8 → List UInt8
  | _, [] => []
  | 0, _ :: _ => []
  | f + 1, c :: r => if c ≠ 38 then c :: looF f r else rowT (rowS r).1 ++ looF f (rowS r).2
def looL (l : List UInt8) : List UInt8 := looF l.length l
theorem looF_more : ∀ (f g : Nat) (l : List UInt8), l.length ≤ f → l.length ≤ g → looF f l = looF g l
  | f, g, [], _, _ => by cases f <;> cases g <;> rfl
  | 0, _, c :: r, h, _ => by simp at h
  | _ + 1, 0, c :: r, _, h => by simp at h
  | f + 1, g + 1, c :: r, hf, hg => by
    simp only [List.length_cons] at hf hg
    have := rowS_len r
    unfold looF
    rw [looF_more f g r (by omega) (by omega), looF_more f g (rowS r).2 (by omega) (by omega)]
theorem loo_nil : looL [] = [] := rfl
theorem loo_cons {c : UInt8} (h : c ≠ 38) (r : List UInt8) : looL (c :: r) = c :: looL r := by
  unfold looL
  show looF (r.length + 1) _ = _
  rw [looF, if_pos h]
theorem loo_row (r : List UInt8) : looL (38 :: r) = rowT (rowS r).1 ++ looL (rowS r).2 := by
  have := rowS_len r
  unfold looL
  show looF (r.length + 1) _ = _
  rw [looF, if_neg (by simp), looF_more r.length (rowS r).2.length _ (by omega) (Nat.le_refl _)]
theorem loo_plain : ∀ {a : List UInt8}, (∀ c ∈ a, c ≠ 38) → ∀ (b : List UInt8), looL (a ++ b) = a ++ looL b
  | [], _, b => rfl
  | c :: a, h, b => by
    rw [List.cons_append, loo_cons (h c List.mem_cons_self), loo_plain (fun x hx => h x (List.mem_cons_of_mem _ hx)) b]
    rfl
theorem loo_flat {a : List UInt8} (h : ∀ c ∈ a, c ≠ 38) : looL a = a := by
  have := loo_plain h []
  rw [List.append_nil, loo_nil, List.append_nil] at this
  exact this
theorem looF_len : ∀ (f : Nat) (l : List UInt8), (looF f l).length ≤ 4 * l.length
  | f, [] => by cases f <;> simp [looF]
  | 0, c :: r => by simp [looF]
  | f + 1, c :: r => by
    have h1 := rowS_len r
    have h2 := rowT_len (rowS r).1
    have h3 := looF_len f (rowS r).2
    have h4 := looF_len f r
    unfold looF
    split
    · simp only [List.length_cons]; omega
    · rw [List.length_append]
      simp only [List.length_cons]
      omega
theorem loo_len (l : List UInt8) : (looL l).length ≤ 4 * l.length := looF_len _ _
theorem loo_rowL (qs : List Nat) (hq : ∀ r ∈ qs, Scalar r) (x : List UInt8) : looL (rowL (u16s qs) ++ x) = putsL qs ++ looL x := by
  by_cases h : u16s qs = []
  · have e : qs = [] := by
      cases qs with
      | nil => rfl
      | cons r qs => exact absurd (List.append_eq_nil_iff.1 h).1 (u16_ne r)
    subst e
    rw [h, row_nil]
    rfl
  · rw [row_cons h, List.cons_append, List.append_assoc]
    show looL (38 :: ((letL (u16s qs)).map com ++ 45 :: x)) = _
    rw [loo_row, rowS_some (dash_at (fun c hc => (letter_in hc).1) x)]
    simp only
    rw [rowT, if_neg (let_ne h), letters_back, loose_letters, ptU_u16s qs 0 hq]
theorem loo_lit {r : Nat} (h : plainP r = true) (x : List UInt8) : looL (litL r ++ x) = putL (r : Int) ++ looL x := by
  unfold plainP at h
  simp only [Bool.and_eq_true, decide_eq_true_eq] at h
  have hp : putL (r : Int) = [UInt8.ofNat r] := by
    rw [U8.putL_one (U8.sizeN_one.2 (by omega))]
    rfl
  rw [hp]
  unfold litL
  by_cases h1 : r = 38
  · subst h1
    rw [if_pos rfl]
    show looL (38 :: 45 :: x) = _
    rw [loo_row, rowS_some (r := 45 :: x) (a := []) (b := x) (by rw [dashL, if_pos rfl])]
    rfl
  · rw [if_neg h1]
    exact loo_cons (c := UInt8.ofNat r) (by intro e; apply h1; have := congrArg UInt8.toNat e; simp at this; omega) x
theorem loo_name : ∀ (ps qs : List Nat), (∀ r ∈ ps, Scalar r) → (∀ r ∈ qs, Scalar r) → looL (nameP (u16s qs) ps) = putsL qs ++ putsL ps
  | [], qs, _, hq => by
    have := loo_rowL qs hq []
    rw [List.append_nil] at this
    rw [name_nil, this, loo_nil]
    rfl
  | r :: ps, qs, hp, hq => by
    have hr := hp r List.mem_cons_self
    have hps : ∀ r ∈ ps, Scalar r := fun x hx => hp x (List.mem_cons_of_mem _ hx)
    cases h : plainP r with
    | true =>
      have ih := loo_name ps [] hps (by simp)
      rw [show u16s [] = [] from rfl] at ih
      rw [name_plain _ h, loo_rowL qs hq, loo_lit h, ih]
      simp [putsL]
    | false =>
      have ih := loo_name ps (qs ++ [r]) hps (by
        intro x hx
        rcases List.mem_append.1 hx with hx | hx
        · exact hq x hx
        · simp only [List.mem_singleton] at hx
          rw [hx]
          exact hr)
      rw [u16s_snoc] at ih
      rw [name_other _ h, ih, puts_append]
      simp [putsL]
/-- What a text has as its name tells the text. -/
theorem loo_enc {t s : List UInt8} (h : encU t = some s) : looL s = t := by
  obtain ⟨hv, rfl⟩ := enc_some h
  have := loo_name (ptsL t) [] (pts_scalar t hv) (by simp)
  rw [show u16s [] = [] from rfl, puts_pts t hv] at this
  exact this
/-- Decode's answer, by way of what is told. -/
theorem dec_by {s : List UInt8} : decU s = if encU (looL s) = some s then some (looL s) else none := by
  split
  · rename_i h
    exact dec_iff.2 h
  · rename_i h
    apply dec_none
    intro t e
    rw [loo_enc e] at h
    exact h e

/-! ### A range over a text -/
theorem get_drop {s : ByteArray} {i k : Nat} {b : UInt8} (h : (s.data.toList.drop i)[k]? = some b) : i + k < s.size ∧ s.get! (i + k) = b := by
  rw [List.getElem?_drop] at h
  have hlt : i + k < s.data.toList.length := (List.getElem?_eq_some_iff.1 h).1
  refine ⟨by rw [Lib.size_eq]; exact hlt, ?_⟩
  show s.data[i + k]! = b
  have h' : s.data[i + k]? = some b := by rw [← Array.getElem?_toList]; exact h
  obtain ⟨hl, e⟩ := Array.getElem?_eq_some_iff.1 h'
  rw [getElem!_pos s.data (i + k) hl]
  exact e
theorem take_get {l : List UInt8} {n : Nat} {m : List UInt8} (h : l.take n = m) {k : Nat} (hk : k < n) : l[k]? = m[k]? := by
  rw [← h, List.getElem?_take, if_pos hk]
theorem decode_of {s : ByteArray} {i r n : Nat} (h : decL (s.data.toList.drop i) = some (r, n)) : Utf8.decode s i = (r, n) := by
  obtain ⟨hz, _, _, ht⟩ := decL_some h
  subst hz
  rcases U8.sizeN_cases (r : Int) with e | e | e | e | e
  · rw [decL_some h |>.1] at e
    omega
  · have hr := U8.sizeN_one.1 e
    rw [e] at ht ⊢
    rw [U8.putL_one e] at ht
    obtain ⟨_, g0⟩ := get_drop (k := 0) (take_get ht (k := 0) (by omega))
    have n0 := b8_nat (x := (r : Int)) (by omega) (by omega)
    simp only [Utf8.decode, g0, n0]
    rw [if_pos (by omega)]
    rfl
  · have hr := U8.sizeN_two.1 e
    rw [e] at ht ⊢
    rw [U8.putL_two e] at ht
    obtain ⟨_, g0⟩ := get_drop (k := 0) (take_get ht (k := 0) (by omega))
    obtain ⟨l1, g1⟩ := get_drop (k := 1) (take_get ht (k := 1) (by omega))
    have n0 := b8_nat (x := 192 + (r : Int) / 64) (by omega) (by omega)
    have n1 := b8_nat (x := 128 + (r : Int) % 64) (by omega) (by omega)
    simp only [Utf8.decode, g0, g1, n0, n1]
    rw [if_neg (by omega), if_pos (by simp only [Bool.and_eq_true, decide_eq_true_eq, beq_iff_eq]; omega), if_pos (by omega)]
    congr 1
    omega
  · have hr := U8.sizeN_three.1 e
    rw [e] at ht ⊢
    rw [U8.putL_three e] at ht
    obtain ⟨_, g0⟩ := get_drop (k := 0) (take_get ht (k := 0) (by omega))
    obtain ⟨l1, g1⟩ := get_drop (k := 1) (take_get ht (k := 1) (by omega))
    obtain ⟨l2, g2⟩ := get_drop (k := 2) (take_get ht (k := 2) (by omega))
    have n0 := b8_nat (x := 224 + (r : Int) / 4096) (by omega) (by omega)
    have n1 := b8_nat (x := 128 + (r : Int) / 64 % 64) (by omega) (by omega)
    have n2 := b8_nat (x := 128 + (r : Int) % 64) (by omega) (by omega)
    simp only [Utf8.decode, g0, g1, g2, n0, n1, n2]
    have hc : (224 + (r : Int) / 4096).toNat % 16 * 4096 + (128 + (r : Int) / 64 % 64).toNat % 64 * 64 + (128 + (r : Int) % 64).toNat % 64 = r := by omega
    rw [if_neg (by omega), if_neg (by simp only [Bool.and_eq_true, decide_eq_true_eq, beq_iff_eq]; omega), if_pos (by simp only [Bool.and_eq_true, decide_eq_true_eq, beq_iff_eq]; omega), hc, if_pos (by simp only [Utf8.valid, Bool.and_eq_true, Bool.or_eq_true, decide_eq_true_eq]; omega)]
  · have hr := U8.sizeN_four.1 e
    rw [e] at ht ⊢
    rw [U8.putL_four e] at ht
    obtain ⟨_, g0⟩ := get_drop (k := 0) (take_get ht (k := 0) (by omega))
    obtain ⟨l1, g1⟩ := get_drop (k := 1) (take_get ht (k := 1) (by omega))
    obtain ⟨l2, g2⟩ := get_drop (k := 2) (take_get ht (k := 2) (by omega))
    obtain ⟨l3, g3⟩ := get_drop (k := 3) (take_get ht (k := 3) (by omega))
    have n0 := b8_nat (x := 240 + (r : Int) / 262144) (by omega) (by omega)
    have n1 := b8_nat (x := 128 + (r : Int) / 4096 % 64) (by omega) (by omega)
    have n2 := b8_nat (x := 128 + (r : Int) / 64 % 64) (by omega) (by omega)
    have n3 := b8_nat (x := 128 + (r : Int) % 64) (by omega) (by omega)
    simp only [Utf8.decode, g0, g1, g2, g3, n0, n1, n2, n3]
    have hc : (240 + (r : Int) / 262144).toNat % 8 * 262144 + (128 + (r : Int) / 4096 % 64).toNat % 64 * 4096 + (128 + (r : Int) / 64 % 64).toNat % 64 * 64 + (128 + (r : Int) % 64).toNat % 64 = r := by omega
    rw [if_neg (by omega), if_neg (by simp only [Bool.and_eq_true, decide_eq_true_eq, beq_iff_eq]; omega), if_neg (by simp only [Bool.and_eq_true, decide_eq_true_eq, beq_iff_eq]; omega), if_pos (by simp only [Bool.and_eq_true, decide_eq_true_eq, beq_iff_eq]; omega), hc, if_pos (by simp only [Utf8.valid, Bool.and_eq_true, Bool.or_eq_true, decide_eq_true_eq]; omega)]
/-- At each place of a valid text but its end there is a code point. -/
theorem valid_dec {l : List UInt8} (hv : validL l = true) (hl : l ≠ []) : ∃ r n, decL l = some (r, n) ∧ 1 ≤ n ∧ n ≤ l.length ∧ Scalar r ∧ validL (l.drop n) = true ∧ ptsL l = r :: ptsL (l.drop n) := by
  cases h : decL l with
  | none => rw [validL_none hl h] at hv; cases hv
  | some p =>
    obtain ⟨r, n⟩ := p
    obtain ⟨h1, h2, h3, _⟩ := decL_some h
    exact ⟨r, n, rfl, by omega, h3, by unfold Scalar; rw [h1]; exact h2, by rw [← validL_some h]; exact hv, pts_some h⟩
end Go.Proofs.YtcakcpnmbclieaaDoor.U7
