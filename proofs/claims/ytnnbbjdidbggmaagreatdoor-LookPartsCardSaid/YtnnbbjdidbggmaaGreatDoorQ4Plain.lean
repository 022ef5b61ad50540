/-
  Plain facts on quoted-printable: digits, pieces that fill lines, what a sign of equality and what follows it tell, and that decoding gives back. No program in this text. Conditions: none.
-/
import Derived.Lib.Strings
import Derived.Lib.Bytealg
import Derived.Lib.IndexMore
import Derived.Lib.IndexLaws
namespace Go.Proofs.YtnnbbjdidbggmaaGreatDoor.Q4
open Go

/-! ### Digits -/
def digL : List UInt8 := [48, 49, 50, 51, 52, 53, 54, 55, 56, 57, 65, 66, 67, 68, 69, 70]
def dimL : List UInt8 := [48, 49, 50, 51, 52, 53, 54, 55, 56, 57, 97, 98, 99, 100, 101, 102]
def dg (k : Nat) : UInt8 := digL.getD k 0
def dm (k : Nat) : UInt8 := dimL.getD k 0
def hxN (n : Nat) : Option Nat := if 48 ≤ n ∧ n ≤ 57 then some (n - 48) else if 97 ≤ n ∧ n ≤ 102 then some (n - 87) else if 65 ≤ n ∧ n ≤ 70 then some (n - 55) else none
def hx (c : UInt8) : Option Nat := hxN c.toNat
/-- A digit's value, or that it is none. -/
def hv (c : UInt8) : Int := match hx c with | some v => (v : Int) | none => -1
theorem hv_some {c : UInt8} {v : Nat} (h : hx c = some v) : hv c = v := by rw [hv, h]
theorem hv_none {c : UInt8} (h : hx c = none) : hv c = -1 := by rw [hv, h]
theorem hx_dg : ∀ k, k < 16 → hx (dg k) = some k := by decide +kernel
theorem hx_dm : ∀ k, k < 16 → hx (dm k) = some k := by decide +kernel
theorem dg_fit : ∀ k, k < 16 → 33 ≤ (dg k).toNat ∧ (dg k).toNat ≤ 126 := by decide +kernel
theorem hxN_lt {n v : Nat} (h : hxN n = some v) : v < 16 := by
  unfold hxN at h
  split at h
  · simp only [Option.some.injEq] at h; omega
  · split at h
    · simp only [Option.some.injEq] at h; omega
    · split at h
      · simp only [Option.some.injEq] at h; omega
      · cases h
theorem hx_lt {c : UInt8} {v : Nat} (h : hx c = some v) : v < 16 := hxN_lt h
def upN (n : Nat) : Nat := if 97 ≤ n ∧ n ≤ 102 then n - 32 else n
def hvN (n : Nat) : Int := match hxN n with | some v => (v : Int) | none => -1
theorem idx_hvN : ∀ n, n < 256 → Lib.indexByte digL (UInt8.ofNat (upN n)) = hvN n := by decide +kernel
theorem idx_hv (c : UInt8) : Lib.indexByte digL (UInt8.ofNat (upN c.toNat)) = hv c := idx_hvN c.toNat c.toNat_lt
theorem u8_nat (c : UInt8) : UInt8.ofNat c.toNat = c := by simp
theorem ofNat_of {x : Nat} {c : UInt8} (h : x = c.toNat) : UInt8.ofNat x = c := by rw [h]; simp

/-! ### Decoding -/
/-- What a sign of equality tells where no two digits follow. -/
def soft (l : List UInt8) : List UInt8 × List UInt8 :=
  if l.head? = some 10 then ([], l.drop 1) else if l.take 2 = [13, 10] then ([], l.drop 2) else ([61], l)
def nextL : List UInt8 → List UInt8 × List UInt8
  | h :: l :: r => match hx h, hx l with
    | some a, some b => ([UInt8.ofNat (a * 16 + b)], r)
    | _, _ => soft (h :: l :: r)
  | l => soft l
theorem soft_len (l : List UInt8) : (soft l).2.length ≤ l.length ∧ (soft l).1.length ≤ 1 := by
  unfold soft
  split
  · simp
  · split <;> simp
theorem nextL_hex {h l : UInt8} {a b : Nat} (ha : hx h = some a) (hb : hx l = some b) (r : List UInt8) : nextL (h :: l :: r) = ([UInt8.ofNat (a * 16 + b)], r) := by
  simp [nextL, ha, hb]
theorem nextL_no1 {h : UInt8} (ha : hx h = none) (r : List UInt8) : nextL (h :: r) = soft (h :: r) := by
  cases r <;> simp [nextL, ha]
theorem nextL_no2 {h l : UInt8} (hb : hx l = none) (r : List UInt8) : nextL (h :: l :: r) = soft (h :: l :: r) := by
  simp only [nextL]
  cases hx h <;> simp [hb]
theorem nextL_short {l : List UInt8} (h : l.length < 2) : nextL l = soft l := by
  rcases l with _ | ⟨a, _ | ⟨b, r⟩⟩
  · rfl
  · rfl
  · simp only [List.length_cons] at h; omega
theorem nextL_len (l : List UInt8) : (nextL l).2.length ≤ l.length ∧ (nextL l).1.length ≤ 1 := by
  rcases l with _ | ⟨a, _ | ⟨b, r⟩⟩
  · exact soft_len []
  · exact soft_len [a]
  · rcases ha : hx a with _ | x
    · rw [nextL_no1 ha]; exact soft_len _
    · rcases hb : hx b with _ | y
      · rw [nextL_no2 hb]; exact soft_len _
      · rw [nextL_hex ha hb]; simp; omega
def plainL : List UInt8 → List UInt8
  | [] => []
  | c :: r => if c = 61 then (nextL r).1 ++ plainL (nextL r).2 else c :: plainL r
termination_by l => l.length
decreasing_by
  · have := (nextL_len r).1; simp; omega
  · simp
theorem plain_nil : plainL [] = [] := by rw [plainL]
theorem plain_eq (r : List UInt8) : plainL (61 :: r) = (nextL r).1 ++ plainL (nextL r).2 := by rw [plainL, if_pos rfl]
theorem plain_ne {c : UInt8} (h : c ≠ 61) (r : List UInt8) : plainL (c :: r) = c :: plainL r := by rw [plainL, if_neg h]
theorem plain_app : ∀ {a : List UInt8}, (∀ c ∈ a, c ≠ 61) → ∀ (r : List UInt8), plainL (a ++ r) = a ++ plainL r
  | [], _, _ => rfl
  | c :: a, h, r => by
    rw [List.cons_append, plain_ne (h c List.mem_cons_self), plain_app (fun x hx => h x (List.mem_cons_of_mem _ hx)) r]
    rfl
theorem plain_self {a : List UInt8} (h : ∀ c ∈ a, c ≠ 61) : plainL a = a := by
  have := plain_app h []
  rwa [List.append_nil, plain_nil, List.append_nil] at this
theorem plain_len : ∀ (n : Nat) (l : List UInt8), l.length ≤ n → (plainL l).length ≤ l.length
  | _, [], _ => by simp [plain_nil]
  | 0, c :: r, h => by simp at h
  | n + 1, c :: r, h => by
    simp only [List.length_cons] at h
    by_cases hc : c = 61
    · subst hc
      have h1 := nextL_len r
      have ih := plain_len n (nextL r).2 (by omega)
      rw [plain_eq, List.length_append, List.length_cons]
      omega
    · have ih := plain_len n r (by omega)
      rw [plain_ne hc, List.length_cons, List.length_cons]
      omega
theorem plain_length (l : List UInt8) : (plainL l).length ≤ l.length := plain_len l.length l (Nat.le_refl _)
theorem soft_lf (r : List UInt8) : soft (10 :: r) = ([], r) := by simp [soft]
theorem soft_crlf (r : List UInt8) : soft (13 :: 10 :: r) = ([], r) := by simp [soft]
theorem plain_crlf (r : List UInt8) : plainL (61 :: 13 :: 10 :: r) = plainL r := by
  rw [plain_eq, nextL_no1 (by decide), soft_crlf]
  rfl
theorem plain_lf (r : List UInt8) : plainL (61 :: 10 :: r) = plainL r := by
  rw [plain_eq, nextL_no1 (by decide), soft_lf]
  rfl
theorem plain_hex {h l : UInt8} {a b : Nat} (ha : hx h = some a) (hb : hx l = some b) (r : List UInt8) : plainL (61 :: h :: l :: r) = UInt8.ofNat (a * 16 + b) :: plainL r := by
  rw [plain_eq, nextL_hex ha hb]
  rfl
theorem hex_byte {h l c : UInt8} (ha : hx h = some (c.toNat / 16)) (hb : hx l = some (c.toNat % 16)) (r : List UInt8) : plainL (61 :: h :: l :: r) = c :: plainL r := by
  rw [plain_hex ha hb, ofNat_of (c := c) (by omega)]

/-! ### Encoding -/
def flatB (n : Nat) : Bool := decide (32 < n) && decide (n ≤ 126) && n != 61
def pieceL (c : UInt8) (last : Bool) : List UInt8 := if flatB c.toNat || (c == 32 && !last) then [c] else [61, dg (c.toNat / 16), dg (c.toNat % 16)]
def brk (n k : Nat) : List UInt8 := if 75 < n + k then [61, 13, 10] else []
def fill (n k : Nat) : Nat := if 75 < n + k then k else n + k
def quoL : Nat → List UInt8 → List UInt8
  | _, [] => []
  | n, c :: r => brk n (pieceL c r.isEmpty).length ++ (pieceL c r.isEmpty ++ quoL (fill n (pieceL c r.isEmpty).length) r)
theorem piece_len (c : UInt8) (b : Bool) : (pieceL c b).length = 1 ∨ (pieceL c b).length = 3 := by
  unfold pieceL
  split <;> simp
theorem brk_len (n k : Nat) : (brk n k).length ≤ 3 := by unfold brk; split <;> simp
theorem fill_le {n k : Nat} (h : k ≤ 3) : fill n k ≤ 75 := by unfold fill; split <;> omega
theorem quo_len : ∀ (n : Nat) (l : List UInt8), (quoL n l).length ≤ 6 * l.length
  | _, [] => by simp [quoL]
  | n, c :: r => by
    have h1 := piece_len c r.isEmpty
    have h2 := brk_len n (pieceL c r.isEmpty).length
    have ih := quo_len (fill n (pieceL c r.isEmpty).length) r
    rw [quoL, List.length_append, List.length_append, List.length_cons]
    omega
theorem flat_ne {c : UInt8} (h : flatB c.toNat = true) : c ≠ 61 := by
  rintro rfl
  revert h
  decide
theorem plain_piece (c : UInt8) (b : Bool) (r : List UInt8) : plainL (pieceL c b ++ r) = c :: plainL r := by
  have := c.toNat_lt
  unfold pieceL
  split
  · rename_i h
    refine plain_ne ?_ r
    rcases Bool.or_eq_true_iff.1 h with h | h
    · exact flat_ne h
    · rintro rfl
      revert h
      cases b <;> decide
  · exact hex_byte (hx_dg _ (by omega)) (hx_dg _ (by omega)) r
theorem plain_brk (n k : Nat) (r : List UInt8) : plainL (brk n k ++ r) = plainL r := by
  unfold brk
  split
  · exact plain_crlf r
  · rfl
theorem plain_quo : ∀ (n : Nat) (l : List UInt8), plainL (quoL n l) = l
  | _, [] => plain_nil
  | n, c :: r => by rw [quoL, plain_brk, plain_piece, plain_quo]

/-! ### Lines -/
/-- How long a line may be, and of what bytes. -/
def okL : Nat → List UInt8 → Bool
  | _, [] => true
  | n, c :: r => if c = 10 then okL 0 r else if c = 13 then decide (n ≤ 76) && okL n r else decide (n + 1 ≤ 76) && decide (32 ≤ c.toNat) && decide (c.toNat ≤ 126) && okL (n + 1) r
theorem ok_lf (n : Nat) (r : List UInt8) : okL n (10 :: r) = okL 0 r := by rw [okL, if_pos rfl]
theorem ok_cr (n : Nat) (r : List UInt8) (h : n ≤ 76) : okL n (13 :: r) = okL n r := by
  rw [okL, if_neg (by decide), if_pos rfl]
  simp [h]
theorem ok_fit {n : Nat} {c : UInt8} (h : n + 1 ≤ 76) (h1 : 32 ≤ c.toNat) (h2 : c.toNat ≤ 126) (r : List UInt8) : okL n (c :: r) = okL (n + 1) r := by
  rw [okL, if_neg (by rintro rfl; revert h1; decide), if_neg (by rintro rfl; revert h1; decide)]
  simp [h, h1, h2]
theorem ok_piece {n : Nat} (c : UInt8) (b : Bool) (h : n + (pieceL c b).length ≤ 75) (r : List UInt8) : okL n (pieceL c b ++ r) = okL (n + (pieceL c b).length) r := by
  have := c.toNat_lt
  unfold pieceL at h ⊢
  split at h
  · rename_i hc
    rw [if_pos hc]
    have hc2 : 32 ≤ c.toNat ∧ c.toNat ≤ 126 := by
      rcases Bool.or_eq_true_iff.1 hc with hc | hc
      · unfold flatB at hc
        simp only [Bool.and_eq_true, decide_eq_true_eq] at hc
        omega
      · simp only [Bool.and_eq_true, beq_iff_eq] at hc
        rw [hc.1]
        decide
    exact ok_fit (by simp at h; omega) hc2.1 hc2.2 r
  · rename_i hc
    rw [if_neg hc]
    have f1 := dg_fit (c.toNat / 16) (by omega)
    have f2 := dg_fit (c.toNat % 16) (by omega)
    simp only [List.length_cons, List.length_nil] at h
    show okL n (61 :: dg (c.toNat / 16) :: dg (c.toNat % 16) :: r) = okL (n + 3) r
    rw [ok_fit (by omega) (by decide) (by decide), ok_fit (by omega) (by omega) (by omega), ok_fit (by omega) (by omega) (by omega)]
theorem ok_quo : ∀ (n : Nat) (l : List UInt8), n ≤ 75 → okL n (quoL n l) = true
  | _, [], _ => rfl
  | n, c :: r, h => by
    have hp := piece_len c r.isEmpty
    have ih := ok_quo (fill n (pieceL c r.isEmpty).length) r (fill_le (by omega))
    rw [quoL]
    unfold brk fill at *
    by_cases hn : 75 < n + (pieceL c r.isEmpty).length
    · rw [if_pos hn] at ih ⊢
      show okL n (61 :: 13 :: 10 :: (pieceL c r.isEmpty ++ _)) = true
      rw [ok_fit (by omega) (by decide) (by decide), ok_cr _ _ (by omega), ok_lf, ok_piece c r.isEmpty (by omega), if_pos hn, Nat.zero_add]
      exact ih
    · rw [if_neg hn] at ih ⊢
      rw [List.nil_append, ok_piece c r.isEmpty (by omega), if_neg hn]
      exact ih

/-! ### Each byte by its two digits -/
def hexL (f : Nat → UInt8) : List UInt8 → List UInt8
  | [] => []
  | c :: r => 61 :: f (c.toNat / 16) :: f (c.toNat % 16) :: hexL f r
theorem plain_hexes (f : Nat → UInt8) (h : ∀ k, k < 16 → hx (f k) = some k) : ∀ (l : List UInt8), plainL (hexL f l) = l
  | [] => plain_nil
  | c :: r => by
    have := c.toNat_lt
    rw [hexL, hex_byte (h _ (by omega)) (h _ (by omega)), plain_hexes f h r]
theorem hex_length (f : Nat → UInt8) : ∀ (l : List UInt8), (hexL f l).length = 3 * l.length
  | [] => rfl
  | c :: r => by rw [hexL, List.length_cons, List.length_cons, List.length_cons, hex_length f r, List.length_cons]; omega
theorem hex_snoc (f : Nat → UInt8) (c : UInt8) : ∀ (l : List UInt8), hexL f (l ++ [c]) = hexL f l ++ [61, f (c.toNat / 16), f (c.toNat % 16)]
  | [] => rfl
  | x :: l => by rw [List.cons_append, hexL, hex_snoc f c l, hexL]; rfl

/-! ### What stands as it is -/
theorem soft_stay {l : List UInt8} (h1 : l.head? ≠ some 10) (h2 : l.head? ≠ some 13) : soft l = ([61], l) := by
  unfold soft
  rw [if_neg h1, if_neg]
  intro h
  apply h2
  cases l with
  | nil => simp at h
  | cons a r => simp at h; simp [h.1]
theorem plain_bad {c d : UInt8} (hcd : hx c = none ∨ hx d = none) (h1 : c ≠ 10) (h2 : c ≠ 13) (h3 : c ≠ 61) (h4 : d ≠ 61) : plainL [120, 61, c, d] = [120, 61, c, d] := by
  have hn : nextL [c, d] = ([61], [c, d]) := by
    rw [show nextL [c, d] = soft [c, d] by rcases hcd with h | h; exact nextL_no1 h _; exact nextL_no2 h _]
    exact soft_stay (by simpa using h1) (by simpa using h2)
  rw [plain_ne (by decide), plain_eq, hn]
  show 120 :: 61 :: plainL [c, d] = _
  rw [plain_self (a := [c, d]) (by intro x hx; simp at hx; rcases hx with rfl | rfl <;> assumption)]
theorem plain_x1 : plainL [120, 61] = [120, 61] := by
  rw [plain_ne (by decide), plain_eq, nextL_short (by decide), soft_stay (by decide) (by decide)]
  show 120 :: 61 :: plainL [] = _
  rw [plain_nil]
theorem plain_x2 : plainL [120, 61, 65] = [120, 61, 65] := by
  rw [plain_ne (by decide), plain_eq, nextL_short (by decide), soft_stay (by decide) (by decide)]
  show 120 :: 61 :: plainL [65] = _
  rw [plain_self (by decide)]
theorem plain_x3 : plainL [61, 13] = [61, 13] := by
  rw [plain_eq, nextL_short (by decide)]
  show 61 :: plainL [13] = _
  rw [plain_self (by decide)]
theorem plain_x4 : plainL [97, 61, 51, 100, 98] = [97, 61, 98] := by
  rw [plain_ne (by decide), plain_hex (a := 3) (b := 13) (by decide) (by decide), plain_self (a := [98]) (by decide)]
  rfl
end Go.Proofs.YtnnbbjdidbggmaaGreatDoor.Q4
