/-
  Plain facts on base64: a text's sextets, their letters, how they are read back, whatever stands between. No program in this text. Conditions: none.
-/
import Derived.Lib.Strings
import Derived.Lib.Bytealg
import Derived.Lib.IndexMore
import Derived.Lib.IndexLaws
namespace Go.Proofs.YtnnbbjdidbggmaaGreatDoor.B6
open Go

/-! ### The alphabet -/
def alphaL : List UInt8 := [65, 66, 67, 68, 69, 70, 71, 72, 73, 74, 75, 76, 77, 78, 79, 80, 81, 82, 83, 84, 85, 86, 87, 88, 89, 90, 97, 98, 99, 100, 101, 102, 103, 104, 105, 106, 107, 108, 109, 110, 111, 112, 113, 114, 115, 116, 117, 118, 119, 120, 121, 122, 48, 49, 50, 51, 52, 53, 54, 55, 56, 57, 43, 47]
def sg (k : Nat) : UInt8 := alphaL.getD k 0
def val (c : UInt8) : Option Nat := if 0 ≤ Lib.indexByte alphaL c then some (Lib.indexByte alphaL c).toNat else none
theorem u8_nat (c : UInt8) : c = UInt8.ofNat c.toNat := by simp
theorem sg_val : ∀ k, k < 64 → val (sg k) = some k := by decide +kernel
theorem sg_ne : ∀ k, k < 64 → sg k ≠ 61 := by decide +kernel
theorem val_all : ∀ n, n < 256 → (val (UInt8.ofNat n)).getD 0 < 64 := by decide +kernel
theorem val_lt {c : UInt8} {k : Nat} (h : val c = some k) : k < 64 := by
  have := val_all c.toNat c.toNat_lt
  rw [← u8_nat, h] at this
  exact this
theorem val_none {c : UInt8} (h : val c = none) : Lib.indexByte alphaL c = -1 := by
  unfold val at h
  split at h
  · cases h
  · have := Lib.indexByte_ge alphaL c
    omega
theorem val_some {c : UInt8} {k : Nat} (h : val c = some k) : Lib.indexByte alphaL c = k := by
  unfold val at h
  split at h
  · simp only [Option.some.injEq] at h
    omega
  · cases h
theorem val_eq : val 61 = none := by decide +kernel
def classB (n : Nat) : Bool := (decide (97 ≤ n) && decide (n ≤ 122)) || (decide (65 ≤ n) && decide (n ≤ 90)) || (decide (48 ≤ n) && decide (n ≤ 57)) || n == 43 || n == 47
theorem sg_class : ∀ k, k < 64 → classB (sg k).toNat = true := by decide +kernel

/-! ### Sextets -/
def six : List UInt8 → List Nat
  | [] => []
  | [a] => [a.toNat / 4, a.toNat % 4 * 16]
  | [a, b] => [a.toNat / 4, a.toNat % 4 * 16 + b.toNat / 16, b.toNat % 16 * 4]
  | a :: b :: c :: r => a.toNat / 4 :: (a.toNat % 4 * 16 + b.toNat / 16) :: (b.toNat % 16 * 4 + c.toNat / 64) :: (c.toNat % 64) :: six r
theorem six_lt : ∀ (l : List UInt8), ∀ k ∈ six l, k < 64
  | [] => by simp [six]
  | [a] => by have := a.toNat_lt; simp [six]; omega
  | [a, b] => by have := a.toNat_lt; have := b.toNat_lt; simp [six]; omega
  | a :: b :: c :: r => by
    have := a.toNat_lt; have := b.toNat_lt; have := c.toNat_lt
    have ih := six_lt r
    intro k hk
    simp only [six, List.mem_cons] at hk
    rcases hk with rfl | rfl | rfl | rfl | hk
    · omega
    · omega
    · omega
    · omega
    · exact ih k hk
theorem six_length : ∀ (l : List UInt8), (six l).length = l.length + (l.length + 2) / 3
  | [] => rfl
  | [a] => by simp [six]
  | [a, b] => by simp [six]
  | a :: b :: c :: r => by
    have ih := six_length r
    simp only [six, List.length_cons, ih]
    omega
theorem six_append : ∀ (a b : List UInt8), a.length % 3 = 0 → six (a ++ b) = six a ++ six b
  | [], _, _ => rfl
  | [_], _, h => by simp at h
  | [_, _], _, h => by simp at h
  | x :: y :: z :: r, b, h => by
    have ih := six_append r b (by simp only [List.length_cons] at h; omega)
    simp only [List.cons_append, six, ih]
def unsix : List Nat → List UInt8
  | a :: b :: c :: d :: r => UInt8.ofNat (a * 4 + b / 16) :: UInt8.ofNat (b % 16 * 16 + c / 4) :: UInt8.ofNat (c % 4 * 64 + d) :: unsix r
  | [a, b, c] => [UInt8.ofNat (a * 4 + b / 16), UInt8.ofNat (b % 16 * 16 + c / 4)]
  | [a, b] => [UInt8.ofNat (a * 4 + b / 16)]
  | [_] => []
  | [] => []
theorem ofNat_of {x : Nat} {c : UInt8} (h : x = c.toNat) : UInt8.ofNat x = c := by rw [h]; simp
theorem unsix_six : ∀ (l : List UInt8), unsix (six l) = l
  | [] => rfl
  | [a] => by
    have := a.toNat_lt
    simp only [six, unsix]
    rw [ofNat_of (c := a) (by omega)]
  | [a, b] => by
    have := a.toNat_lt; have := b.toNat_lt
    simp only [six, unsix]
    rw [ofNat_of (c := a) (by omega), ofNat_of (c := b) (by omega)]
  | a :: b :: c :: r => by
    have := a.toNat_lt; have := b.toNat_lt; have := c.toNat_lt
    have ih := unsix_six r
    simp only [six, unsix, ih]
    rw [ofNat_of (c := a) (by omega), ofNat_of (c := b) (by omega), ofNat_of (c := c) (by omega)]
theorem unsix_length : ∀ (xs : List Nat), (unsix xs).length ≤ xs.length
  | a :: b :: c :: d :: r => by have := unsix_length r; simp only [unsix, List.length_cons]; omega
  | [a, b, c] => by simp [unsix]
  | [a, b] => by simp [unsix]
  | [_] => by simp [unsix]
  | [] => by simp [unsix]

/-! ### Letters -/
def letL (l : List UInt8) : List UInt8 := (six l).map sg
def padN (n : Nat) : Nat := (3 - n % 3) % 3
def encL (l : List UInt8) : List UInt8 := letL l ++ List.replicate (padN l.length) 61
theorem letL_length (l : List UInt8) : (letL l).length = l.length + (l.length + 2) / 3 := by rw [letL, List.length_map, six_length]
theorem encL_length (l : List UInt8) : (encL l).length = (l.length + 2) / 3 * 4 := by
  rw [encL, List.length_append, letL_length, List.length_replicate, padN]
  omega
theorem letL_append (a b : List UInt8) (h : a.length % 3 = 0) : letL (a ++ b) = letL a ++ letL b := by rw [letL, six_append a b h, List.map_append]; rfl
theorem letL_enc (a : List UInt8) (h : a.length % 3 = 0) : encL a = letL a := by
  rw [encL, show padN a.length = 0 by unfold padN; omega]
  simp
theorem encL_append (a b : List UInt8) (h : a.length % 3 = 0) : encL (a ++ b) = encL a ++ encL b := by
  rw [letL_enc a h, encL, letL_append a b h, encL, List.append_assoc, show padN (a ++ b).length = padN b.length by unfold padN; rw [List.length_append]; omega]
/-- The bits of at most three bytes. -/
def bitsL : List UInt8 → Nat → Nat
  | _, 0 => 0
  | l, k + 1 => bitsL l k * 256 + (l.getD k 0).toNat
theorem bitsL_three (l : List UInt8) : bitsL l 3 = (l.getD 0 0).toNat * 65536 + (l.getD 1 0).toNat * 256 + (l.getD 2 0).toNat := by
  simp only [bitsL]; omega
theorem bitsL_lt (l : List UInt8) : ∀ k, bitsL l k < 256 ^ k
  | 0 => by simp [bitsL]
  | k + 1 => by
    have ih := bitsL_lt l k
    have := (l.getD k 0).toNat_lt
    rw [bitsL, Nat.pow_succ]
    omega
/-- The four signs of at most three bytes. -/
def signL (l : List UInt8) (i : Nat) : UInt8 := if l.length < i then 61 else sg (bitsL l 3 / 64 ^ (3 - i) % 64)
def quadL (l : List UInt8) : List UInt8 := [signL l 0, signL l 1, signL l 2, signL l 3]
theorem quadL_get (l : List UInt8) (i : Nat) (h : i < 4) : (quadL l).take (i + 1) = (quadL l).take i ++ [signL l i] := by
  rcases (show i = 0 ∨ i = 1 ∨ i = 2 ∨ i = 3 by omega) with rfl | rfl | rfl | rfl <;> rfl
theorem signL_sg {l : List UInt8} {i : Nat} (h : i ≤ l.length) {k : Nat} (hk : bitsL l 3 / 64 ^ (3 - i) % 64 = k) : signL l i = sg k := by
  rw [signL, if_neg (by omega), hk]
theorem signL_pad {l : List UInt8} {i : Nat} (h : l.length < i) : signL l i = 61 := by rw [signL, if_pos h]
theorem enc_quad : ∀ (l : List UInt8), 1 ≤ l.length → l.length ≤ 3 → encL l = quadL l ∧ letL l = (quadL l).take (l.length + 1)
  | [a], _, _ => by
    have := a.toNat_lt
    have h : bitsL [a] 3 = a.toNat * 65536 := (bitsL_three [a]).trans (by simp)
    have e0 : signL [a] 0 = sg (a.toNat / 4) := signL_sg (by simp) (by rw [h, show 64 ^ (3 - 0) = 262144 from rfl]; omega)
    have e1 : signL [a] 1 = sg (a.toNat % 4 * 16) := signL_sg (by simp) (by rw [h, show 64 ^ (3 - 1) = 4096 from rfl]; omega)
    have e2 : signL [a] 2 = 61 := signL_pad (by simp)
    have e3 : signL [a] 3 = 61 := signL_pad (by simp)
    unfold quadL encL letL
    rw [e0, e1, e2, e3]
    exact ⟨rfl, rfl⟩
  | [a, b], _, _ => by
    have := a.toNat_lt; have := b.toNat_lt
    have h : bitsL [a, b] 3 = a.toNat * 65536 + b.toNat * 256 := (bitsL_three [a, b]).trans (by simp)
    have e0 : signL [a, b] 0 = sg (a.toNat / 4) := signL_sg (by simp) (by rw [h, show 64 ^ (3 - 0) = 262144 from rfl]; omega)
    have e1 : signL [a, b] 1 = sg (a.toNat % 4 * 16 + b.toNat / 16) := signL_sg (by simp) (by rw [h, show 64 ^ (3 - 1) = 4096 from rfl]; omega)
    have e2 : signL [a, b] 2 = sg (b.toNat % 16 * 4) := signL_sg (by simp) (by rw [h, show 64 ^ (3 - 2) = 64 from rfl]; omega)
    have e3 : signL [a, b] 3 = 61 := signL_pad (by simp)
    unfold quadL encL letL
    rw [e0, e1, e2, e3]
    exact ⟨rfl, rfl⟩
  | [a, b, c], _, _ => by
    have := a.toNat_lt; have := b.toNat_lt; have := c.toNat_lt
    have h : bitsL [a, b, c] 3 = a.toNat * 65536 + b.toNat * 256 + c.toNat := (bitsL_three [a, b, c]).trans (by simp)
    have e0 : signL [a, b, c] 0 = sg (a.toNat / 4) := signL_sg (by simp) (by rw [h, show 64 ^ (3 - 0) = 262144 from rfl]; omega)
    have e1 : signL [a, b, c] 1 = sg (a.toNat % 4 * 16 + b.toNat / 16) := signL_sg (by simp) (by rw [h, show 64 ^ (3 - 1) = 4096 from rfl]; omega)
    have e2 : signL [a, b, c] 2 = sg (b.toNat % 16 * 4 + c.toNat / 64) := signL_sg (by simp) (by rw [h, show 64 ^ (3 - 2) = 64 from rfl]; omega)
    have e3 : signL [a, b, c] 3 = sg (c.toNat % 64) := signL_sg (by simp) (by rw [h, show 64 ^ (3 - 3) = 1 from rfl]; omega)
    unfold quadL encL letL
    rw [e0, e1, e2, e3]
    exact ⟨by simp [six, padN], by simp [six]⟩
  | [], h, _ => by simp at h
  | _ :: _ :: _ :: _ :: _, _, h => by simp at h

/-! ### What letters say -/
def vals (l : List UInt8) : List Nat := l.filterMap val
def ahead (l : List UInt8) : List UInt8 := l.takeWhile (fun c => c != 61)
def sx (l : List UInt8) : List Nat := vals (ahead l)
def looseL (l : List UInt8) : List UInt8 := unsix (sx l)
theorem ahead_none {l : List UInt8} (h : ∀ c ∈ l, c ≠ 61) (r : List UInt8) : ahead (l ++ r) = l ++ ahead r := by
  unfold ahead
  rw [List.takeWhile_append_of_pos]
  intro c hc
  simpa using h c hc
theorem ahead_pads (n : Nat) : ahead (List.replicate n 61) = [] := by
  cases n with
  | zero => rfl
  | succ n => simp [ahead, List.replicate_succ]
theorem vals_append (a b : List UInt8) : vals (a ++ b) = vals a ++ vals b := by simp [vals]
theorem vals_map : ∀ (xs : List Nat), (∀ k ∈ xs, k < 64) → vals (xs.map sg) = xs
  | [], _ => rfl
  | k :: xs, h => by
    have ih := vals_map xs (fun x hx => h x (List.mem_cons_of_mem _ hx))
    have hv := sg_val k (h k List.mem_cons_self)
    unfold vals at ih ⊢
    rw [List.map_cons, List.filterMap_cons_some hv, ih]
theorem vals_lt (l : List UInt8) : ∀ k ∈ vals l, k < 64 := by
  intro k hk
  obtain ⟨c, _, hc⟩ := List.mem_filterMap.1 hk
  exact val_lt hc
theorem vals_length (l : List UInt8) : (vals l).length ≤ l.length := List.length_filterMap_le _ _
theorem ahead_length (l : List UInt8) : (ahead l).length ≤ l.length := (List.takeWhile_sublist _).length_le
theorem loose_length (l : List UInt8) : (looseL l).length ≤ l.length := by
  have h1 := unsix_length (sx l)
  have h2 := vals_length (ahead l)
  have h3 := ahead_length l
  unfold looseL
  unfold sx at *
  omega
theorem letL_ne (l : List UInt8) : ∀ c ∈ letL l, c ≠ 61 := by
  intro c hc
  obtain ⟨k, hk, rfl⟩ := List.mem_map.1 hc
  exact sg_ne k (six_lt l k hk)
theorem sx_enc (l : List UInt8) : sx (encL l) = six l := by
  unfold sx encL
  rw [ahead_none (letL_ne l), ahead_pads, List.append_nil]
  exact vals_map _ (six_lt l)
theorem loose_enc (l : List UInt8) : looseL (encL l) = l := by rw [looseL, sx_enc, unsix_six]

/-! ### Other bytes between -/
theorem sx_cons (c : UInt8) (r : List UInt8) : sx (c :: r) = if c = 61 then [] else (match val c with | some v => v :: sx r | none => sx r) := by
  unfold sx ahead
  by_cases h : c = 61
  · subst h
    rw [if_pos rfl]
    rfl
  · rw [if_neg h, List.takeWhile_cons_of_pos (by simpa using h)]
    unfold vals
    rw [List.filterMap_cons]
    cases val c <;> rfl
theorem sx_skip {n : List UInt8} (h : ∀ c ∈ n, c ≠ 61 ∧ val c = none) (r : List UInt8) : sx (n ++ r) = sx r := by
  induction n with
  | nil => rfl
  | cons c n ih =>
    obtain ⟨h1, h2⟩ := h c List.mem_cons_self
    rw [List.cons_append, sx_cons, if_neg h1, h2]
    exact ih (fun x hx => h x (List.mem_cons_of_mem _ hx))
theorem sx_mid {n : List UInt8} (h : ∀ c ∈ n, c ≠ 61 ∧ val c = none) (r : List UInt8) : ∀ (a : List UInt8), sx (a ++ (n ++ r)) = sx (a ++ r)
  | [] => sx_skip h r
  | c :: a => by
    rw [List.cons_append, List.cons_append, sx_cons, sx_cons, sx_mid h r a]
/-- What holds of a text with other bytes between, whatever follows. -/
def Same (a b : List UInt8) : Prop := ∀ r, sx (a ++ r) = sx (b ++ r)
theorem Same.refl (a : List UInt8) : Same a a := fun _ => rfl
theorem Same.snoc {a b : List UInt8} (h : Same a b) (c : UInt8) : Same (a ++ [c]) (b ++ [c]) := fun r => by
  rw [List.append_assoc, List.append_assoc]; exact h _
theorem Same.noise {a b n : List UInt8} (h : Same a b) (hn : ∀ c ∈ n, c ≠ 61 ∧ val c = none) : Same (a ++ n) b := fun r => by
  rw [List.append_assoc, sx_mid hn, h]
theorem Same.loose {a b : List UInt8} (h : Same a b) : looseL a = looseL b := by
  have := h []
  rw [List.append_nil, List.append_nil] at this
  rw [looseL, looseL, this]

/-! ### Machines that read letters -/
/-- Bits that wait, how many. -/
def runH : Nat → Nat → List Nat → List UInt8
  | _, _, [] => []
  | b, h, v :: r => if h = 0 then runH (b * 64 + v) 6 r else UInt8.ofNat ((b * 64 + v) / 2 ^ (h - 2)) :: runH ((b * 64 + v) % 2 ^ (h - 2)) (h - 2) r
theorem runH_first (b v : Nat) (r : List Nat) : runH b 0 (v :: r) = runH (b * 64 + v) 6 r := by rw [runH, if_pos rfl]
theorem runH_six (b v : Nat) (r : List Nat) : runH b 6 (v :: r) = UInt8.ofNat ((b * 64 + v) / 16) :: runH ((b * 64 + v) % 16) 4 r := by rw [runH, if_neg (by decide)]
theorem runH_four (b v : Nat) (r : List Nat) : runH b 4 (v :: r) = UInt8.ofNat ((b * 64 + v) / 4) :: runH ((b * 64 + v) % 4) 2 r := by rw [runH, if_neg (by decide)]
theorem runH_two (b v : Nat) (r : List Nat) : runH b 2 (v :: r) = UInt8.ofNat (b * 64 + v) :: runH 0 0 r := by
  rw [runH, if_neg (by decide)]
  simp [Nat.mod_one]
theorem ofNat_mod {x y : Nat} (h : x % 256 = y % 256) : UInt8.ofNat x = UInt8.ofNat y := by
  apply UInt8.toNat.inj
  simpa using h
theorem runH_unsix : ∀ (xs : List Nat), (∀ k ∈ xs, k < 64) → runH 0 0 xs = unsix xs
  | a :: b :: c :: d :: r, h => by
    have ih := runH_unsix r (fun x hx => h x (by simp [hx]))
    have ha := h a (by simp); have hb := h b (by simp); have hc := h c (by simp); have hd := h d (by simp)
    rw [runH_first, runH_six, runH_four, runH_two, unsix, ih,
      ofNat_mod (x := ((0 * 64 + a) * 64 + b) / 16) (y := a * 4 + b / 16) (by omega),
      ofNat_mod (x := (((0 * 64 + a) * 64 + b) % 16 * 64 + c) / 4) (y := b % 16 * 16 + c / 4) (by omega),
      ofNat_mod (x := (((0 * 64 + a) * 64 + b) % 16 * 64 + c) % 4 * 64 + d) (y := c % 4 * 64 + d) (by omega)]
  | [a, b, c], h => by
    have ha := h a (by simp); have hb := h b (by simp); have hc := h c (by simp)
    rw [runH_first, runH_six, runH_four, runH, unsix,
      ofNat_mod (x := ((0 * 64 + a) * 64 + b) / 16) (y := a * 4 + b / 16) (by omega),
      ofNat_mod (x := (((0 * 64 + a) * 64 + b) % 16 * 64 + c) / 4) (y := b % 16 * 16 + c / 4) (by omega)]
  | [a, b], h => by
    have ha := h a (by simp); have hb := h b (by simp)
    rw [runH_first, runH_six, runH, unsix, ofNat_mod (x := ((0 * 64 + a) * 64 + b) / 16) (y := a * 4 + b / 16) (by omega)]
  | [a], _ => by rw [runH_first]; rfl
  | [], _ => rfl
/-- The document's: by fours. -/
def runR : Nat → Nat → List Nat → List UInt8
  | v, n, [] => if n = 2 then [UInt8.ofNat (v / 16)] else if n = 3 then [UInt8.ofNat (v / 1024), UInt8.ofNat (v / 4)] else []
  | v, n, k :: r => if n = 3 then UInt8.ofNat ((v * 64 + k) / 65536) :: UInt8.ofNat ((v * 64 + k) / 256) :: UInt8.ofNat (v * 64 + k) :: runR 0 0 r else runR (v * 64 + k) (n + 1) r
theorem runR_three (v k : Nat) (r : List Nat) : runR v 3 (k :: r) = UInt8.ofNat ((v * 64 + k) / 65536) :: UInt8.ofNat ((v * 64 + k) / 256) :: UInt8.ofNat (v * 64 + k) :: runR 0 0 r := by rw [runR, if_pos rfl]
theorem runR_next (v n k : Nat) (r : List Nat) (h : n ≠ 3) : runR v n (k :: r) = runR (v * 64 + k) (n + 1) r := by rw [runR, if_neg h]
theorem runR_unsix : ∀ (xs : List Nat), (∀ k ∈ xs, k < 64) → runR 0 0 xs = unsix xs
  | a :: b :: c :: d :: r, h => by
    have ih := runR_unsix r (fun x hx => h x (by simp [hx]))
    have ha := h a (by simp); have hb := h b (by simp); have hc := h c (by simp); have hd := h d (by simp)
    rw [runR_next _ _ _ _ (by decide), runR_next _ _ _ _ (by decide), runR_next _ _ _ _ (by decide), runR_three, unsix, ih]
    rw [ofNat_mod (x := (((0 * 64 + a) * 64 + b) * 64 + c) * 64 + d) (y := c % 4 * 64 + d) (by omega),
      ofNat_mod (x := ((((0 * 64 + a) * 64 + b) * 64 + c) * 64 + d) / 256) (y := b % 16 * 16 + c / 4) (by omega),
      ofNat_mod (x := ((((0 * 64 + a) * 64 + b) * 64 + c) * 64 + d) / 65536) (y := a * 4 + b / 16) (by omega)]
  | [a, b, c], h => by
    have ha := h a (by simp); have hb := h b (by simp); have hc := h c (by simp)
    rw [runR_next _ _ _ _ (by decide), runR_next _ _ _ _ (by decide), runR_next _ _ _ _ (by decide), runR, if_neg (by decide), if_pos rfl, unsix,
      ofNat_mod (x := (((0 * 64 + a) * 64 + b) * 64 + c) / 1024) (y := a * 4 + b / 16) (by omega),
      ofNat_mod (x := (((0 * 64 + a) * 64 + b) * 64 + c) / 4) (y := b % 16 * 16 + c / 4) (by omega)]
  | [a, b], h => by
    have ha := h a (by simp); have hb := h b (by simp)
    rw [runR_next _ _ _ _ (by decide), runR_next _ _ _ _ (by decide), runR, if_pos rfl, unsix, ofNat_mod (x := ((0 * 64 + a) * 64 + b) / 16) (y := a * 4 + b / 16) (by omega)]
  | [a], _ => by rw [runR_next _ _ _ _ (by decide)]; rfl
  | [], _ => rfl

/-! ### What is strictly a text -/
def decL (l : List UInt8) : Option (List UInt8) := if encL (looseL l) = l then some (looseL l) else none
theorem dec_enc (l : List UInt8) : decL (encL l) = some l := by rw [decL, loose_enc, if_pos rfl]
theorem dec_len {l : List UInt8} (h : l.length % 4 ≠ 0) : decL l = none := by
  rw [decL, if_neg]
  intro e
  have := congrArg List.length e
  rw [encL_length] at this
  omega
end Go.Proofs.YtnnbbjdidbggmaaGreatDoor.B6
