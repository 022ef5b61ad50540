/-
  The law PartContents holds as its card says, for every input: it returns true, and what it is handed reads as it did. Conditions: none of its own. (Both ways of decoding, the program's and the document's, the walks of Content and of the law stand ahead of it here.)
-/
import Derived.Test.YtkmopneeafbeaaaDoorKit
import Derived.Test.YtkmopneeafbeaaaDoorBuf
import Derived.Test.YtkmopneeafbeaaaDoorBld
import Derived.Test.YtkmopneeafbeaaaDoorEnv
import Derived.Test.YtkmopneeafbeaaaDoorBuf2
import Derived.Test.YtkmopneeafbeaaaDoorShelf
import Derived.Test.YtkmopneeafbeaaaDoorPtMem
import Derived.Test.YtkmopneeafbeaaaDoorPtLine
import Derived.Test.YtkmopneeafbeaaaDoorU8Clone
import Derived.Test.YtkmopneeafbeaaaDoorPtTreM
import Derived.Test.YtkmopneeafbeaaaDoorCards
import Derived.Test.YtkmopneeafbeaaaDoorTie
import Derived.Lib.Strings
import Derived.Lib.Bytealg
import Derived.Lib.IndexMore
import Derived.Lib.IndexLaws
import Derived.IntWalk
import Derived.LoopN
import Derived.Deep.RegionWith
import Derived.Deep.CutRange
import Derived.Lib.IndexBytes
import Derived.WalkSmall
import Derived.Shelf.Vars
import Derived.ProofKit
import Derived.OpenShut
import Derived.Deep.DeepHandedRow
import Derived.Lib.LaidTab
import Derived.Lay
import Derived.LaidSub
import Derived.MakeChecks
import Derived.ShutString
import Derived.Carry
namespace Go.Proofs.YtkmopneeafbeaaaDoor.B6
open Go

/-! ### The alphabet -/
def alphaL : List UInt8 := [65, 66, 67, 68, 69, 70, 71, 72, 73, 74, 75, 76, 77, 78, 79, 80, 81, 82, 83, 84, 85, 86, 87, 88, 89, 90, 97, 98, 99, 100, 101, 102, 103, 104, 105, 106, 107, 108, 109, 110, 111, 112, 113, 114, 115, 116, 117, 118, 119, 120, 121, 122, 48, 49, 50, 51, 52, 53, 54, 55, 56, 57, 43, 47]
def sg (k : Nat) : UInt8 := alphaL.getD k 0
def val (c : UInt8) : Option Nat := if 0 ≤ Lib.indexByte alphaL c then some (Lib.indexByte alphaL c).toNat else none
theorem u8_nat (c : UInt8) : c = UInt8.ofNat c.toNat := by simp
theorem sg_val : ∀ k, k < 64 → val (sg k) = some k := by decide +kernel
theorem sg_ne : ∀ k, k < 64 → sg k ≠ 61 := by decide +kernel
theorem val_all : ∀ n, n < 256 → (val (UInt8.ofNat n)).getD 0 < 64 := by decide +kernel
theorem val_lt {c : UInt8} {k : Nat} (h : val c = some k) : k < 64 := by
  have := val_all c.toNat c.toNat_lt
  rw [← u8_nat, h] at this
  exact this
theorem val_none {c : UInt8} (h : val c = none) : Lib.indexByte alphaL c = -1 := by
  unfold val at h
  split at h
  · cases h
  · have := Lib.indexByte_ge alphaL c
    omega
theorem val_some {c : UInt8} {k : Nat} (h : val c = some k) : Lib.indexByte alphaL c = k := by
  unfold val at h
  split at h
  · simp only [Option.some.injEq] at h
    omega
  · cases h
theorem val_eq : val 61 = none := by decide +kernel
def classB (n : Nat) : Bool := (decide (97 ≤ n) && decide (n ≤ 122)) || (decide (65 ≤ n) && decide (n ≤ 90)) || (decide (48 ≤ n) && decide (n ≤ 57)) || n == 43 || n == 47
theorem sg_class : ∀ k, k < 64 → classB (sg k).toNat = true := by decide +kernel

/-! ### Sextets -/
def six : List UInt8 → List Nat
  | [] => []
  | [a] => [a.toNat / 4, a.toNat % 4 * 16]
  | [a, b] => [a.toNat / 4, a.toNat % 4 * 16 + b.toNat / 16, b.toNat % 16 * 4]
  | a :: b :: c :: r => a.toNat / 4 :: (a.toNat % 4 * 16 + b.toNat / 16) :: (b.toNat % 16 * 4 + c.toNat / 64) :: (c.toNat % 64) :: six r
theorem six_lt : ∀ (l : List UInt8), ∀ k ∈ six l, k < 64
  | [] => by simp [six]
  | [a] => by have := a.toNat_lt; simp [six]; omega
  | [a, b] => by have := a.toNat_lt; have := b.toNat_lt; simp [six]; omega
  | a :: b :: c :: r => by
    have := a.toNat_lt; have := b.toNat_lt; have := c.toNat_lt
    have ih := six_lt r
    intro k hk
    simp only [six, List.mem_cons] at hk
    rcases hk with rfl | rfl | rfl | rfl | hk
    · omega
    · omega
    · omega
    · omega
    · exact ih k hk
theorem six_length : ∀ (l : List UInt8), (six l).length = l.length + (l.length + 2) / 3
  | [] => rfl
  | [a] => by simp [six]
  | [a, b] => by simp [six]
  | a :: b :: c :: r => by
    have ih := six_length r
    simp only [six, List.length_cons, ih]
    omega
theorem six_append : ∀ (a b : List UInt8), a.length % 3 = 0 → six (a ++ b) = six a ++ six b
  | [], _, _ => rfl
  | [_], _, h => by simp at h
  | [_, _], _, h => by simp at h
  | x :: y :: z :: r, b, h => by
    have ih := six_append r b (by simp only [List.length_cons] at h; omega)
    simp only [List.cons_append, six, ih]
def unsix : List Nat → List UInt8
  | a :: b :: c :: d :: r => UInt8.ofNat (a * 4 + b / 16) :: UInt8.ofNat (b % 16 * 16 + c / 4) :: UInt8.ofNat (c % 4 * 64 + d) :: unsix r
  | [a, b, c] => [UInt8.ofNat (a * 4 + b / 16), UInt8.ofNat (b % 16 * 16 + c / 4)]
  | [a, b] => [UInt8.ofNat (a * 4 + b / 16)]
  | [_] => []
  | [] => []
theorem ofNat_of {x : Nat} {c : UInt8} (h : x = c.toNat) : UInt8.ofNat x = c := by rw [h]; simp
theorem unsix_six : ∀ (l : List UInt8), unsix (six l) = l
  | [] => rfl
  | [a] => by
    have := a.toNat_lt
    simp only [six, unsix]
    rw [ofNat_of (c := a) (by omega)]
  | [a, b] => by
    have := a.toNat_lt; have := b.toNat_lt
    simp only [six, unsix]
    rw [ofNat_of (c := a) (by omega), ofNat_of (c := b) (by omega)]
  | a :: b :: c :: r => by
    have := a.toNat_lt; have := b.toNat_lt; have := c.toNat_lt
    have ih := unsix_six r
    simp only [six, unsix, ih]
    rw [ofNat_of (c := a) (by omega), ofNat_of (c := b) (by omega), ofNat_of (c := c) (by omega)]
theorem unsix_length : ∀ (xs : List Nat), (unsix xs).length ≤ xs.length
  | a :: b :: c :: d :: r => by have := unsix_length r; simp only [unsix, List.length_cons]; omega
  | [a, b, c] => by simp [unsix]
  | [a, b] => by simp [unsix]
  | [_] => by simp [unsix]
  | [] => by simp [unsix]

/-! ### Letters -/
def letL (l : List UInt8) : List UInt8 := (six l).map sg
def padN (n : Nat) : Nat := (3 - n % 3) % 3
def encL (l : List UInt8) : List UInt8 := letL l ++ List.replicate (padN l.length) 61
theorem letL_length (l : List UInt8) : (letL l).length = l.length + (l.length + 2) / 3 := by rw [letL, List.length_map, six_length]
theorem encL_length (l : List UInt8) : (encL l).length = (l.length + 2) / 3 * 4 := by
  rw [encL, List.length_append, letL_length, List.length_replicate, padN]
  omega
theorem letL_append (a b : List UInt8) (h : a.length % 3 = 0) : letL (a ++ b) = letL a ++ letL b := by rw [letL, six_append a b h, List.map_append]; rfl
theorem letL_enc (a : List UInt8) (h : a.length % 3 = 0) : encL a = letL a := by
  rw [encL, show padN a.length = 0 by unfold padN; omega]
  simp
theorem encL_append (a b : List UInt8) (h : a.length % 3 = 0) : encL (a ++ b) = encL a ++ encL b := by
  rw [letL_enc a h, encL, letL_append a b h, encL, List.append_assoc, show padN (a ++ b).length = padN b.length by unfold padN; rw [List.length_append]; omega]
/-- The bits of at most three bytes. -/
def bitsL : List UInt8 → Nat → Nat
  | _, 0 => 0
  | l, k + 1 => bitsL l k * 256 + (l.getD k 0).toNat
theorem bitsL_three (l : List UInt8) : bitsL l 3 = (l.getD 0 0).toNat * 65536 + (l.getD 1 0).toNat * 256 + (l.getD 2 0).toNat := by
  simp only [bitsL]; omega
theorem bitsL_lt (l : List UInt8) : ∀ k, bitsL l k < 256 ^ k
  | 0 => by simp [bitsL]
  | k + 1 => by
    have ih := bitsL_lt l k
    have := (l.getD k 0).toNat_lt
    rw [bitsL, Nat.pow_succ]
    omega
/-- The four signs of at most three bytes. -/
def signL (l : List UInt8) (i : Nat) : UInt8 := if l.length < i then 61 else sg (bitsL l 3 / 64 ^ (3 - i) % 64)
def quadL (l : List UInt8) : List UInt8 := [signL l 0, signL l 1, signL l 2, signL l 3]
theorem quadL_get (l : List UInt8) (i : Nat) (h : i < 4) : (quadL l).take (i + 1) = (quadL l).take i ++ [signL l i] := by
  rcases (show i = 0 ∨ i = 1 ∨ i = 2 ∨ i = 3 by omega) with rfl | rfl | rfl | rfl <;> rfl
theorem signL_sg {l : List UInt8} {i : Nat} (h : i ≤ l.length) {k : Nat} (hk : bitsL l 3 / 64 ^ (3 - i) % 64 = k) : signL l i = sg k := by
  rw [signL, if_neg (by omega), hk]
theorem signL_pad {l : List UInt8} {i : Nat} (h : l.length < i) : signL l i = 61 := by rw [signL, if_pos h]
theorem enc_quad : ∀ (l : List UInt8), 1 ≤ l.length → l.length ≤ 3 → encL l = quadL l ∧ letL l = (quadL l).take (l.length + 1)
  | [a], _, _ => by
    have := a.toNat_lt
    have h : bitsL [a] 3 = a.toNat * 65536 := (bitsL_three [a]).trans (by simp)
    have e0 : signL [a] 0 = sg (a.toNat / 4) := signL_sg (by simp) (by rw [h, show 64 ^ (3 - 0) = 262144 from rfl]; omega)
    have e1 : signL [a] 1 = sg (a.toNat % 4 * 16) := signL_sg (by simp) (by rw [h, show 64 ^ (3 - 1) = 4096 from rfl]; omega)
    have e2 : signL [a] 2 = 61 := signL_pad (by simp)
    have e3 : signL [a] 3 = 61 := signL_pad (by simp)
    unfold quadL encL letL
    rw [e0, e1, e2, e3]
    exact ⟨rfl, rfl⟩
  | [a, b], _, _ => by
    have := a.toNat_lt; have := b.toNat_lt
    have h : bitsL [a, b] 3 = a.toNat * 65536 + b.toNat * 256 := (bitsL_three [a, b]).trans (by simp)
    have e0 : signL [a, b] 0 = sg (a.toNat / 4) := signL_sg (by simp) (by rw [h, show 64 ^ (3 - 0) = 262144 from rfl]; omega)
    have e1 : signL [a, b] 1 = sg (a.toNat % 4 * 16 + b.toNat / 16) := signL_sg (by simp) (by rw [h, show 64 ^ (3 - 1) = 4096 from rfl]; omega)
    have e2 : signL [a, b] 2 = sg (b.toNat % 16 * 4) := signL_sg (by simp) (by rw [h, show 64 ^ (3 - 2) = 64 from rfl]; omega)
    have e3 : signL [a, b] 3 = 61 := signL_pad (by simp)
    unfold quadL encL letL
    rw [e0, e1, e2, e3]
    exact ⟨rfl, rfl⟩
  | [a, b, c], _, _ => by
    have := a.toNat_lt; have := b.toNat_lt; have := c.toNat_lt
    have h : bitsL [a, b, c] 3 = a.toNat * 65536 + b.toNat * 256 + c.toNat := (bitsL_three [a, b, c]).trans (by simp)
    have e0 : signL [a, b, c] 0 = sg (a.toNat / 4) := signL_sg (by simp) (by rw [h, show 64 ^ (3 - 0) = 262144 from rfl]; omega)
    have e1 : signL [a, b, c] 1 = sg (a.toNat % 4 * 16 + b.toNat / 16) := signL_sg (by simp) (by rw [h, show 64 ^ (3 - 1) = 4096 from rfl]; omega)
    have e2 : signL [a, b, c] 2 = sg (b.toNat % 16 * 4 + c.toNat / 64) := signL_sg (by simp) (by rw [h, show 64 ^ (3 - 2) = 64 from rfl]; omega)
    have e3 : signL [a, b, c] 3 = sg (c.toNat % 64) := signL_sg (by simp) (by rw [h, show 64 ^ (3 - 3) = 1 from rfl]; omega)
    unfold quadL encL letL
    rw [e0, e1, e2, e3]
    exact ⟨by simp [six, padN], by simp [six]⟩
  | [], h, _ => by simp at h
  | _ :: _ :: _ :: _ :: _, _, h => by simp at h

/-! ### What letters say -/
def vals (l : List UInt8) : List Nat := l.filterMap val
def ahead (l : List UInt8) : List UInt8 := l.takeWhile (fun c => c != 61)
def sx (l : List UInt8) : List Nat := vals (ahead l)
def looseL (l : List UInt8) : List UInt8 := unsix (sx l)
theorem ahead_none {l : List UInt8} (h : ∀ c ∈ l, c ≠ 61) (r : List UInt8) : ahead (l ++ r) = l ++ ahead r := by
  unfold ahead
  rw [List.takeWhile_append_of_pos]
  intro c hc
  simpa using h c hc
theorem ahead_pads (n : Nat) : ahead (List.replicate n 61) = [] := by
  cases n with
  | zero => rfl
  | succ n => simp [ahead, List.replicate_succ]
theorem vals_append (a b : List UInt8) : vals (a ++ b) = vals a ++ vals b := by simp [vals]
theorem vals_map : ∀ (xs : List Nat), (∀ k ∈ xs, k < 64) → vals (xs.map sg) = xs
  | [], _ => rfl
  | k :: xs, h => by
    have ih := vals_map xs (fun x hx => h x (List.mem_cons_of_mem _ hx))
    have hv := sg_val k (h k List.mem_cons_self)
    unfold vals at ih ⊢
    rw [List.map_cons, List.filterMap_cons_some hv, ih]
theorem vals_lt (l : List UInt8) : ∀ k ∈ vals l, k < 64 := by
  intro k hk
  obtain ⟨c, _, hc⟩ := List.mem_filterMap.1 hk
  exact val_lt hc
theorem vals_length (l : List UInt8) : (vals l).length ≤ l.length := List.length_filterMap_le _ _
theorem ahead_length (l : List UInt8) : (ahead l).length ≤ l.length := (List.takeWhile_sublist _).length_le
theorem loose_length (l : List UInt8) : (looseL l).length ≤ l.length := by
  have h1 := unsix_length (sx l)
  have h2 := vals_length (ahead l)
  have h3 := ahead_length l
  unfold looseL
  unfold sx at *
  omega
theorem letL_ne (l : List UInt8) : ∀ c ∈ letL l, c ≠ 61 := by
  intro c hc
  obtain ⟨k, hk, rfl⟩ := List.mem_map.1 hc
  exact sg_ne k (six_lt l k hk)
theorem sx_enc (l : List UInt8) : sx (encL l) = six l := by
  unfold sx encL
  rw [ahead_none (letL_ne l), ahead_pads, List.append_nil]
  exact vals_map _ (six_lt l)
theorem loose_enc (l : List UInt8) : looseL (encL l) = l := by rw [looseL, sx_enc, unsix_six]

/-! ### Other bytes between -/
theorem sx_cons (c : UInt8) (r : List UInt8) : sx (c :: r) = if c = 61 then [] else (match val c with | some v => v :: sx r | none => sx r) := by
  unfold sx ahead
  by_cases h : c = 61
  · subst h
    rw [if_pos rfl]
    rfl
  · rw [if_neg h, List.takeWhile_cons_of_pos (by simpa using h)]
    unfold vals
    rw [List.filterMap_cons]
    cases val c <;> rfl
theorem sx_skip {n : List UInt8} (h : ∀ c ∈ n, c ≠ 61 ∧ val c = none) (r : List UInt8) : sx (n ++ r) = sx r := by
  induction n with
  | nil => rfl
  | cons c n ih =>
    obtain ⟨h1, h2⟩ := h c List.mem_cons_self
    rw [List.cons_append, sx_cons, if_neg h1, h2]
    exact ih (fun x hx => h x (List.mem_cons_of_mem _ hx))
theorem sx_mid {n : List UInt8} (h : ∀ c ∈ n, c ≠ 61 ∧ val c = none) (r : List UInt8) : ∀ (a : List UInt8), sx (a ++ (n ++ r)) = sx (a ++ r)
  | [] => sx_skip h r
  | c :: a => by
    rw [List.cons_append, List.cons_append, sx_cons, sx_cons, sx_mid h r a]
/-- What holds of a text with other bytes between, whatever follows. -/
def Same (a b : List UInt8) : Prop := ∀ r, sx (a ++ r) = sx (b ++ r)
theorem Same.refl (a : List UInt8) : Same a a := fun _ => rfl
theorem Same.snoc {a b : List UInt8} (h : Same a b) (c : UInt8) : Same (a ++ [c]) (b ++ [c]) := fun r => by
  rw [List.append_assoc, List.append_assoc]; exact h _
theorem Same.noise {a b n : List UInt8} (h : Same a b) (hn : ∀ c ∈ n, c ≠ 61 ∧ val c = none) : Same (a ++ n) b := fun r => by
  rw [List.append_assoc, sx_mid hn, h]
theorem Same.loose {a b : List UInt8} (h : Same a b) : looseL a = looseL b := by
  have := h []
  rw [List.append_nil, List.append_nil] at this
  rw [looseL, looseL, this]

/-! ### Machines that read letters -/
/-- Bits that wait, how many. -/
def runH : Nat → Nat → List Nat → List UInt8
  | _, _, [] => []
  | b, h, v :: r => if h = 0 then runH (b * 64 + v) 6 r else UInt8.ofNat ((b * 64 + v) / 2 ^ (h - 2)) :: runH ((b * 64 + v) % 2 ^ (h - 2)) (h - 2) r
theorem runH_first (b v : Nat) (r : List Nat) : runH b 0 (v :: r) = runH (b * 64 + v) 6 r := by rw [runH, if_pos rfl]
theorem runH_six (b v : Nat) (r : List Nat) : runH b 6 (v :: r) = UInt8.ofNat ((b * 64 + v) / 16) :: runH ((b * 64 + v) % 16) 4 r := by rw [runH, if_neg (by decide)]
theorem runH_four (b v : Nat) (r : List Nat) : runH b 4 (v :: r) = UInt8.ofNat ((b * 64 + v) / 4) :: runH ((b * 64 + v) % 4) 2 r := by rw [runH, if_neg (by decide)]
theorem runH_two (b v : Nat) (r : List Nat) : runH b 2 (v :: r) = UInt8.ofNat (b * 64 + v) :: runH 0 0 r := by
  rw [runH, if_neg (by decide)]
  simp [Nat.mod_one]
theorem ofNat_mod {x y : Nat} (h : x % 256 = y % 256) : UInt8.ofNat x = UInt8.ofNat y := by
  apply UInt8.toNat.inj
  simpa using h
theorem runH_unsix : ∀ (xs : List Nat), (∀ k ∈ xs, k < 64) → runH 0 0 xs = unsix xs
  | a :: b :: c :: d :: r, h => by
    have ih := runH_unsix r (fun x hx => h x (by simp [hx]))
    have ha := h a (by simp); have hb := h b (by simp); have hc := h c (by simp); have hd := h d (by simp)
    rw [runH_first, runH_six, runH_four, runH_two, unsix, ih,
      ofNat_mod (x := ((0 * 64 + a) * 64 + b) / 16) (y := a * 4 + b / 16) (by omega),
      ofNat_mod (x := (((0 * 64 + a) * 64 + b) % 16 * 64 + c) / 4) (y := b % 16 * 16 + c / 4) (by omega),
      ofNat_mod (x := (((0 * 64 + a) * 64 + b) % 16 * 64 + c) % 4 * 64 + d) (y := c % 4 * 64 + d) (by omega)]
  | [a, b, c], h => by
    have ha := h a (by simp); have hb := h b (by simp); have hc := h c (by simp)
    rw [runH_first, runH_six, runH_four, runH, unsix,
      ofNat_mod (x := ((0 * 64 + a) * 64 + b) / 16) (y := a * 4 + b / 16) (by omega),
      ofNat_mod (x := (((0 * 64 + a) * 64 + b) % 16 * 64 + c) / 4) (y := b % 16 * 16 + c / 4) (by omega)]
  | [a, b], h => by
    have ha := h a (by simp); have hb := h b (by simp)
    rw [runH_first, runH_six, runH, unsix, ofNat_mod (x := ((0 * 64 + a) * 64 + b) / 16) (y := a * 4 + b / 16) (by omega)]
  | [a], _ => by rw [runH_first]; rfl
  | [], _ => rfl
/-- The document's: by fours. -/
def runR : Nat → Nat → List Nat → List UInt8
  | v, n, [] => if n = 2 then [UInt8.ofNat (v / 16)] else if n = 3 then [UInt8.ofNat (v / 1024), UInt8.ofNat (v / 4)] else []
  | v, n, k :: r => if n = 3 then UInt8.ofNat ((v * 64 + k) / 65536) :: UInt8.ofNat ((v * 64 + k) / 256) :: UInt8.ofNat (v * 64 + k) :: runR 0 0 r else runR (v * 64 + k) (n + 1) r
theorem runR_three (v k : Nat) (r : List Nat) : runR v 3 (k :: r) = UInt8.ofNat ((v * 64 + k) / 65536) :: UInt8.ofNat ((v * 64 + k) / 256) :: UInt8.ofNat (v * 64 + k) :: runR 0 0 r := by rw [runR, if_pos rfl]
theorem runR_next (v n k : Nat) (r : List Nat) (h : n ≠ 3) : runR v n (k :: r) = runR (v * 64 + k) (n + 1) r := by rw [runR, if_neg h]
theorem runR_unsix : ∀ (xs : List Nat), (∀ k ∈ xs, k < 64) → runR 0 0 xs = unsix xs
  | a :: b :: c :: d :: r, h => by
    have ih := runR_unsix r (fun x hx => h x (by simp [hx]))
    have ha := h a (by simp); have hb := h b (by simp); have hc := h c (by simp); have hd := h d (by simp)
    rw [runR_next _ _ _ _ (by decide), runR_next _ _ _ _ (by decide), runR_next _ _ _ _ (by decide), runR_three, unsix, ih]
    rw [ofNat_mod (x := (((0 * 64 + a) * 64 + b) * 64 + c) * 64 + d) (y := c % 4 * 64 + d) (by omega),
      ofNat_mod (x := ((((0 * 64 + a) * 64 + b) * 64 + c) * 64 + d) / 256) (y := b % 16 * 16 + c / 4) (by omega),
      ofNat_mod (x := ((((0 * 64 + a) * 64 + b) * 64 + c) * 64 + d) / 65536) (y := a * 4 + b / 16) (by omega)]
  | [a, b, c], h => by
    have ha := h a (by simp); have hb := h b (by simp); have hc := h c (by simp)
    rw [runR_next _ _ _ _ (by decide), runR_next _ _ _ _ (by decide), runR_next _ _ _ _ (by decide), runR, if_neg (by decide), if_pos rfl, unsix,
      ofNat_mod (x := (((0 * 64 + a) * 64 + b) * 64 + c) / 1024) (y := a * 4 + b / 16) (by omega),
      ofNat_mod (x := (((0 * 64 + a) * 64 + b) * 64 + c) / 4) (y := b % 16 * 16 + c / 4) (by omega)]
  | [a, b], h => by
    have ha := h a (by simp); have hb := h b (by simp)
    rw [runR_next _ _ _ _ (by decide), runR_next _ _ _ _ (by decide), runR, if_pos rfl, unsix, ofNat_mod (x := ((0 * 64 + a) * 64 + b) / 16) (y := a * 4 + b / 16) (by omega)]
  | [a], _ => by rw [runR_next _ _ _ _ (by decide)]; rfl
  | [], _ => rfl

/-! ### What is strictly a text -/
def decL (l : List UInt8) : Option (List UInt8) := if encL (looseL l) = l then some (looseL l) else none
theorem dec_enc (l : List UInt8) : decL (encL l) = some l := by rw [decL, loose_enc, if_pos rfl]
theorem dec_len {l : List UInt8} (h : l.length % 4 ≠ 0) : decL l = none := by
  rw [decL, if_neg]
  intro e
  have := congrArg List.length e
  rw [encL_length] at this
  omega
end Go.Proofs.YtkmopneeafbeaaaDoor.B6
namespace Go.Proofs.YtkmopneeafbeaaaDoor.B6
open Go Go.RowKit Go.Joins Kit

theorem wraps_i64 (n : Int) (h₀ : 0 ≤ n) (h₁ : n < 2 ^ 62) : IntKind.i64.wrap n = n := by rw [IntKind.wrap_i64]; omega
theorem and63 (r : Int) (h0 : 0 ≤ r) (h1 : r < 4611686018427387904) : bits .and .i64 r 63 = r % 64 := bits_mask .i64 62 (by decide) wraps_i64 6 (by decide) r h0 (by omega)
theorem and15 (r : Int) (h0 : 0 ≤ r) (h1 : r < 4611686018427387904) : bits .and .i64 r 15 = r % 16 := bits_mask .i64 62 (by decide) wraps_i64 4 (by decide) r h0 (by omega)
theorem and3 (r : Int) (h0 : 0 ≤ r) (h1 : r < 4611686018427387904) : bits .and .i64 r 3 = r % 4 := bits_mask .i64 62 (by decide) wraps_i64 2 (by decide) r h0 (by omega)
theorem or8 (x y : Int) (h0 : 0 ≤ x) (h1 : x < 4611686018427387904) (h2 : x % 256 = 0) (h3 : 0 ≤ y) (h4 : y < 256) : bits .or .i64 x y = x + y :=
  bits_join .i64 62 (by decide) wraps_i64 8 x y h0 h2 (by omega) h3 h4 (by omega)
theorem or6 (x y : Int) (h0 : 0 ≤ x) (h1 : x < 4611686018427387904) (h2 : x % 64 = 0) (h3 : 0 ≤ y) (h4 : y < 64) : bits .or .i64 x y = x + y :=
  bits_join .i64 62 (by decide) wraps_i64 6 x y h0 h2 (by omega) h3 h4 (by omega)
theorem getD_at (s : ByteArray) (k : Nat) (h : k < s.size) : s.data.toList.getD k 0 = s[k] := by
  have hl : k < s.data.toList.length := by rw [← Lib.size_eq]; exact h
  rw [List.getD_eq_getElem?_getD, List.getElem?_eq_getElem hl, Option.getD_some, byte_get s k h]
theorem getD_end (s : ByteArray) (k : Nat) (h : s.size ≤ k) : s.data.toList.getD k 0 = 0 := by
  rw [List.getD_eq_getElem?_getD, List.getElem?_eq_none (by rw [← Lib.size_eq]; exact h)]
  rfl
theorem bitsL_le (l : List UInt8) (k : Nat) (h : k ≤ 3) : bitsL l k ≤ 16777215 := by
  have h1 := bitsL_lt l k
  rcases (show k = 0 ∨ k = 1 ∨ k = 2 ∨ k = 3 by omega) with rfl | rfl | rfl | rfl <;> simp at h1 <;> omega
theorem alpha_get (k : Nat) (h : k < (ByteArray.mk #[65, 66, 67, 68, 69, 70, 71, 72, 73, 74, 75, 76, 77, 78, 79, 80, 81, 82, 83, 84, 85, 86, 87, 88, 89, 90, 97, 98, 99, 100, 101, 102, 103, 104, 105, 106, 107, 108, 109, 110, 111, 112, 113, 114, 115, 116, 117, 118, 119, 120, 121, 122, 48, 49, 50, 51, 52, 53, 54, 55, 56, 57, 43, 47]).size) : (ByteArray.mk #[65, 66, 67, 68, 69, 70, 71, 72, 73, 74, 75, 76, 77, 78, 79, 80, 81, 82, 83, 84, 85, 86, 87, 88, 89, 90, 97, 98, 99, 100, 101, 102, 103, 104, 105, 106, 107, 108, 109, 110, 111, 112, 113, 114, 115, 116, 117, 118, 119, 120, 121, 122, 48, 49, 50, 51, 52, 53, 54, 55, 56, 57, 43, 47])[k]'h = sg k := by
  have hk : k < 64 := h
  rw [← byte_get]
  unfold sg
  rw [List.getD_eq_getElem?_getD, List.getElem?_eq_getElem (show k < alphaL.length from hk), Option.getD_some]
  rfl
theorem sign_at {l : List UInt8} {i v k : Nat} (hv : bitsL l 3 = v) (h : i ≤ l.length) (hk : v / 64 ^ (3 - i) % 64 = k) : signL l i = sg k := signL_sg h (by rw [hv]; exact hk)
theorem cells_sign (l0 l : List UInt8) (i : Nat) (h : i < 4) : Lib.byteCells (l0 ++ (quadL l).take (i + 1)) = Lib.byteCells (l0 ++ (quadL l).take i) ++ [.int .u8 ((signL l i).toNat : Int)] := by
  rw [quadL_get l i h, ← List.append_assoc, cells_snoc]
theorem enc_zero (l : List UInt8) : encL (l.take 0) = [] := by simp [encL, letL, six, padN]
theorem enc_step (s : ByteArray) (a : Nat) (h : a % 3 = 0) (hlt : a < s.size) (t : ByteArray) (ht : t.data.toList = (s.data.toList.drop a).take 3) :
    encL (s.data.toList.take (a + 3)) = encL (s.data.toList.take a) ++ quadL t.data.toList ∧ 1 ≤ t.size ∧ t.size ≤ 3 := by
  have hl : s.data.toList.length = s.size := (Lib.size_eq s).symm
  have hn : t.size = min 3 (s.size - a) := by rw [Lib.size_eq, ht, List.length_take, List.length_drop, hl]
  have h1 : 1 ≤ t.size := by omega
  have h3 : t.size ≤ 3 := by omega
  refine ⟨?_, h1, h3⟩
  rw [Lib.size_eq] at h1 h3
  rw [List.take_add, encL_append _ _ (by rw [List.length_take, hl]; omega), ← ht, (enc_quad _ h1 h3).1]
theorem extract_three (s : ByteArray) (a b : Nat) (h : b = a + 3 ∨ (b = s.size ∧ s.size ≤ a + 3)) : (s.extract a b).data.toList = (s.data.toList.drop a).take 3 := by
  have hx : (s.extract a b).data.toList = (s.data.toList.drop a).take (b - a) := by rw [← Lib.toList_data, Lib.extract_toList]
  rw [hx]
  rcases h with h | ⟨h, h2⟩
  · rw [show b - a = 3 by omega]
  · have hl : s.data.toList.length = s.size := (Lib.size_eq s).symm
    rw [List.take_of_length_le (by rw [List.length_drop]; omega), List.take_of_length_le (by rw [List.length_drop]; omega)]
theorem and0 (r : Int) (h0 : 0 ≤ r) (h1 : r < 4611686018427387904) : bits .and .i64 r 0 = 0 :=
  (bits_mask .i64 62 (by decide) wraps_i64 0 (by decide) r h0 (by omega)).trans (Int.emod_one r)
theorem ofNat_nat {x : Nat} (h : x < 256) : ((UInt8.ofNat x).toNat : Int) = x := by simp; omega
theorem vals_drop (t : ByteArray) (k : Nat) (h : k < t.size) : vals (t.data.toList.drop k) = (match val t[k] with | some v => v :: vals (t.data.toList.drop (k + 1)) | none => vals (t.data.toList.drop (k + 1))) := by
  have hl : k < t.data.toList.length := by rw [← Lib.size_eq]; exact h
  rw [List.drop_eq_getElem_cons hl, byte_get t k h]
  unfold vals
  rw [List.filterMap_cons]
  cases val t[k] <;> rfl
def aheadB (s : ByteArray) : ByteArray := ⟨(ahead s.data.toList).toArray⟩
theorem aheadB_data (s : ByteArray) : (aheadB s).data.toList = ahead s.data.toList := by simp [aheadB]
theorem aheadB_size (s : ByteArray) : (aheadB s).size ≤ s.size := by
  rw [Lib.size_eq, aheadB_data, Lib.size_eq]
  exact ahead_length _
def encB (s : ByteArray) : ByteArray := ⟨(encL s.data.toList).toArray⟩
theorem encB_data (s : ByteArray) : (encB s).data.toList = encL s.data.toList := by simp [encB]
theorem encB_size (s : ByteArray) : (encB s).size = (s.size + 2) / 3 * 4 := by rw [Lib.size_eq, encB_data, encL_length, ← Lib.size_eq]
theorem mk_data (s : ByteArray) {l : List UInt8} (h : l = s.data.toList) : (⟨l.toArray⟩ : ByteArray) = s := Kit.bytes_ext (by simpa using h)
theorem loose_back {t s : ByteArray} (h : t.data.toList = encL s.data.toList) : looseL t.data.toList = s.data.toList := by rw [h, loose_enc]
theorem app_data (a b : ByteArray) : (a ++ b).data.toList = a.data.toList ++ b.data.toList := by simp
theorem extract_front (a : ByteArray) (n : Nat) (h : n ≤ a.size) : (a.extract 0 n).data.toList = a.data.toList.take n ∧ (a.extract 0 n).size = n := by
  refine ⟨by simp, ?_⟩
  rw [ByteArray.size_extract]
  omega
theorem cut_sizes (t : ByteArray) (k : Nat) (h : k < t.size) : (t.extract 0 k ++ ⟨#[32]⟩ ++ t.extract k t.size).size = t.size + 1 ∧ (t.extract 0 k ++ t.extract (k + 1) t.size).size = t.size - 1 ∧ (t ++ ⟨#[61]⟩).size = t.size + 1 := by
  have e1 : (ByteArray.mk #[32]).size = 1 := rfl
  have e2 : (ByteArray.mk #[61]).size = 1 := rfl
  refine ⟨?_, ?_, ?_⟩
  · rw [ByteArray.size_append, ByteArray.size_append, ByteArray.size_extract, ByteArray.size_extract, e1]; omega
  · rw [ByteArray.size_append, ByteArray.size_extract, ByteArray.size_extract]; omega
  · rw [ByteArray.size_append, e2]
end Go.Proofs.YtkmopneeafbeaaaDoor.B6
namespace Go.Proofs.YtkmopneeafbeaaaDoor.B6
open Go Go.RowKit Go.Joins Kit

/-! ### Index -/
/-- Where sub first stands in l from place i on; -1: nowhere. -/
def idxFrom (l sub : List UInt8) : Nat → Nat → Int
  | 0, _ => -1
  | f + 1, i => if i + sub.length ≤ l.length then (if (l.drop i).take sub.length = sub then (i : Int) else idxFrom l sub f (i + 1)) else -1
theorem idx_all : ∀ n, n < 256 → idxFrom alphaL [UInt8.ofNat n] 65 0 = (match val (UInt8.ofNat n) with | some k => (k : Int) | none => -1) := by decide +kernel
theorem idx_val (c : UInt8) : idxFrom alphaL [c] 65 0 = (match val c with | some k => (k : Int) | none => -1) := by
  have := idx_all c.toNat c.toNat_lt
  rwa [← u8_nat] at this
set_option maxHeartbeats 1000000 in
theorem index_any (s sub : ByteArray) (at0 : Nat) (w : World) (hs : s.size ≤ 1099511627776) (hsub : sub.size ≤ 1099511627776) (hat : at0 ≤ 1099511627776) :
    Calls Tryd.prog 39 #[.string s, .string sub, .int .i64 at0] w fun e w' => e = .returned (.int .i64 (idxFrom s.data.toList sub.data.toList (s.size + 1) at0)) ∧ w = w' := by
  have hl1 := Lib.hid (Lib.size_eq s)
  have hl2 := Lib.hid (Lib.size_eq sub)
  go_enter Tryd.func39, Tryd.ntmps39
  go_wp2_with fail
  go_loop [7] (fun i => ∃ k f : Nat, k ≤ 2 * 1099511627776 ∧ i = .int .i64 k ∧ s.size < k + f ∧ Hid (idxFrom s.data.toList sub.data.toList f k = idxFrom s.data.toList sub.data.toList (s.size + 1) at0)) (fun i => s.size + 1 - (intOf i).toNat)
  case atStart => exact ⟨at0, s.size + 1, by omega, rfl, by omega, rfl⟩
  case round =>
    obtain ⟨k, f, hk, rfl, hf, hidx⟩ := hrel
    by_cases hlt : k + sub.size ≤ s.size
    · obtain ⟨f, rfl⟩ : ∃ g, f = g + 1 := ⟨f - 1, by omega⟩
      have hstep : Hid (idxFrom s.data.toList sub.data.toList (f + 1) k = if (s.data.toList.drop k).take sub.data.toList.length = sub.data.toList then (k : Int) else idxFrom s.data.toList sub.data.toList f (k + 1)) := by
        show _ = _
        rw [idxFrom, if_pos (by rw [← hl1.out, ← hl2.out]; exact hlt)]
      have hex : (s.extract k (k + sub.size)).toList = (s.data.toList.drop k).take sub.data.toList.length := by
        rw [Lib.extract_toList, show k + sub.size - k = sub.data.toList.length by rw [← hl2.out]; omega]
      have g1 : (k : Int) + sub.size ≤ s.size := by omega
      by_cases he : (s.data.toList.drop k).take sub.data.toList.length = sub.data.toList
      · have heq : ((s.extract k (k + sub.size)).toList == sub.toList) = true := by rw [hex, he, Lib.toList_data]; simp
        have HE := Lib.hid he
        clear he hex
        go_wp2
        go_ret
        exact ⟨ret_int (by rw [← hidx.out, hstep.out, if_pos HE.out]), rfl⟩
      · have heq : ((s.extract k (k + sub.size)).toList == sub.toList) = false := by rw [hex, Lib.toList_data]; simpa using he
        have HE := Lib.hid he
        clear he hex
        go_wp2
        go_round
        case rel => exact ⟨k + 1, f, by omega, by go_num, by omega, by show _ = _; rw [← hidx.out, hstep.out, if_neg HE.out]⟩
        case measure => simp [intOf]; omega
    · have hend : Hid (idxFrom s.data.toList sub.data.toList f k = -1) := by
        show _ = _
        cases f with
        | zero => rfl
        | succ f => rw [idxFrom, if_neg (by rw [← hl1.out, ← hl2.out]; exact hlt)]
      have g1 : ¬ ((k : Int) + sub.size ≤ s.size) := by omega
      go_wp2
      go_ret
      exact ⟨ret_int (by rw [← hidx.out, hend.out]), rfl⟩
/-! ### The alphabet -/
def alphaB : ByteArray := ⟨#[65, 66, 67, 68, 69, 70, 71, 72, 73, 74, 75, 76, 77, 78, 79, 80, 81, 82, 83, 84, 85, 86, 87, 88, 89, 90, 97, 98, 99, 100, 101, 102, 103, 104, 105, 106, 107, 108, 109, 110, 111, 112, 113, 114, 115, 116, 117, 118, 119, 120, 121, 122, 48, 49, 50, 51, 52, 53, 54, 55, 56, 57, 43, 47]⟩
theorem alphaB_data : alphaB.data.toList = alphaL := rfl
theorem alphaB_size : alphaB.size = 64 := rfl
theorem alphaB_get (k : Nat) (h : k < alphaB.size) : alphaB[k]'h = sg k := alpha_get k h
theorem alphabet_any (w : World) :
    Calls Tryd.prog 83 #[] w fun e w' => e = .returned (.string alphaB) ∧ w = w' := by
  go_enter Tryd.func83, Tryd.ntmps83
  go_wp2
  go_ret
  exact ⟨rfl, rfl⟩
theorem one_data (s : ByteArray) (k : Nat) (h : k < s.size) : (s.extract k (k + 1)).data.toList = [s[k]] := by
  have hl : k < s.data.toList.length := by rw [← Lib.size_eq]; exact h
  rw [← Lib.toList_data, Lib.extract_toList, List.drop_eq_getElem_cons hl, byte_get s k h, show k + 1 - k = 1 by omega]
  rfl
theorem one_size (s : ByteArray) (k : Nat) : (s.extract k (k + 1)).size ≤ 1 := by rw [ByteArray.size_extract]; omega
theorem find_none {s : ByteArray} {k : Nat} (h : k < s.size) (hv : val s[k] = none) (w : World) :
    Calls Tryd.prog 39 #[.string alphaB, .string (s.extract k (k + 1)), .int .i64 0] w fun e w' => e = .returned (.int .i64 (-1)) ∧ w = w' := by
  have := index_any alphaB (s.extract k (k + 1)) 0 w (by rw [alphaB_size]; omega) (by have := one_size s k; omega) (by omega)
  rwa [alphaB_size, alphaB_data, one_data s k h, idx_val, hv] at this
theorem find_some {s : ByteArray} {k v : Nat} (h : k < s.size) (hv : val s[k] = some v) (w : World) :
    Calls Tryd.prog 39 #[.string alphaB, .string (s.extract k (k + 1)), .int .i64 0] w fun e w' => e = .returned (.int .i64 (v : Int)) ∧ w = w' := by
  have := index_any alphaB (s.extract k (k + 1)) 0 w (by rw [alphaB_size]; omega) (by have := one_size s k; omega) (by omega)
  rwa [alphaB_size, alphaB_data, one_data s k h, idx_val, hv] at this
end Go.Proofs.YtkmopneeafbeaaaDoor.B6
namespace Go.Proofs.YtkmopneeafbeaaaDoor.B6
open Go Go.RowKit Go.Joins Kit

theorem ofNat_cell (x : Nat) : ((UInt8.ofNat x).toNat : Int) = (x : Int) % 256 := by simp
theorem sx_drop (s : ByteArray) (k : Nat) (h : k < s.size) (hne : s[k].toNat ≠ 61) : sx (s.data.toList.drop k) = (match val s[k] with | some v => v :: sx (s.data.toList.drop (k + 1)) | none => sx (s.data.toList.drop (k + 1))) := by
  have hl : k < s.data.toList.length := by rw [← Lib.size_eq]; exact h
  rw [List.drop_eq_getElem_cons hl, byte_get s k h, sx_cons, if_neg (fun e => hne (by rw [e]; rfl))]
  all_goals (cases val s[k] <;> rfl)
theorem sx_stop (s : ByteArray) (k : Nat) (h : s.size ≤ k ∨ ∃ h : k < s.size, s[k].toNat = 61) : sx (s.data.toList.drop k) = [] := by
  rcases h with h | ⟨h, h2⟩
  · rw [List.drop_of_length_le (by rw [← Lib.size_eq]; exact h)]; rfl
  · have hl : k < s.data.toList.length := by rw [← Lib.size_eq]; exact h
    rw [List.drop_eq_getElem_cons hl, byte_get s k h, sx_cons, if_pos (UInt8.toNat.inj h2)]
theorem runR_sx (s : List UInt8) : runR 0 0 (sx s) = looseL s := runR_unsix _ (vals_lt _)
set_option maxHeartbeats 4000000 in
set_option maxRecDepth 100000 in
theorem rloose_any (s : ByteArray) (w : World) (hs : s.size ≤ 1099511627) :
    Calls Tryd.prog 51 #[.string s] w fun e w' => e = .returned (.string ⟨(looseL s.data.toList).toArray⟩) ∧ Below w.heap.size w w' := by
  have hst : Hid ([] ++ runR 0 0 (sx (s.data.toList.drop 0)) = looseL s.data.toList) := by show _ = _; rw [List.drop_zero, runR_sx]; rfl
  have hB0 := Buf.empty (Below.refl w.heap.size w)
  go_enter Tryd.func51, Tryd.ntmps51
  go_wp2_with fail
  refine (alphabet_any w).mono ?_
  rintro e w' ⟨rfl, rfl⟩
  go_wp2_with fail
  go_loopw [4, 5, 6, 7] (fun u v m i wr => ∃ (k B n : Nat) (out : List UInt8), k ≤ s.size ∧ out.length + n ≤ k ∧ i = .int .i64 k ∧ v = .int .i64 B ∧ m = .int .i64 n ∧ (n = 0 ∨ n = 1 ∨ n = 2 ∨ n = 3) ∧ Hid (B < 64 ^ n) ∧ Hid (out ++ runR B n (sx (s.data.toList.drop k)) = looseL s.data.toList) ∧ Buf w u out wr) (fun _ _ _ i _ => s.size - (intOf i).toNat)
  case atStart => exact ⟨0, 0, 0, [], by omega, by simp, rfl, rfl, rfl, Or.inl rfl, (by show _ < _; decide), hst, hB0⟩
  case round =>
    clear hB0 hst
    obtain ⟨k, B, n, out, hk, ho, rfl, rfl, rfl, hn, hBd, hr, hB⟩ := hrel
    have hs0 : (0 : Int) ≤ s.size := by omega
    by_cases hlt : k < s.size
    · have g1 : (k : Int) < s.size := by omega
      by_cases h61 : s[k].toNat = 61
      · have hend : Hid (out ++ runR B n [] = looseL s.data.toList) := by show _ = _; rw [← hr.out, sx_stop s k (Or.inr ⟨hlt, h61⟩)]
        have g2 : ((s[k].toNat : Int) == 61) = true := by rw [h61]; rfl
        clear h61
        rcases hn with rfl | rfl | rfl | rfl
        · have hF : Hid (out = looseL s.data.toList) := by show _ = _; rw [← hend.out]; simp [runR]
          have hb := hB.below
          have hrun := hB.string
          go_wp2
          go_ret
          exact ⟨ret_str hF.out, hb⟩
        · have hF : Hid (out = looseL s.data.toList) := by show _ = _; rw [← hend.out]; simp [runR]
          have hb := hB.below
          have hrun := hB.string
          go_wp2
          go_ret
          exact ⟨ret_str hF.out, hb⟩
        · have gB : B ≤ 4095 := by have := hBd.out; simp at this; omega
          have hF : Hid (out ++ [UInt8.ofNat (B / 16)] = looseL s.data.toList) := by show _ = _; rw [← hend.out]; simp [runR]
          go_wp2_with (at_builtin; refine Buf.app rfl _ _ rfl w _ _ _ hB _ [UInt8.ofNat (B / 16)] 1 1 rfl ?da rfl rfl ?db ?_)
          case da => exact congrArg (fun x => [Value.int .u8 x]) (by rw [ofNat_nat (by omega)]; omega)
          case db => omega
          intro v2 w4 hB3
          have hb := hB3.below
          have hrun := hB3.string
          go_wp2
          go_ret
          exact ⟨ret_str hF.out, hb⟩
        · have gB : B ≤ 262143 := by have := hBd.out; simp at this; omega
          have hF : Hid (out ++ [UInt8.ofNat (B / 1024), UInt8.ofNat (B / 4)] = looseL s.data.toList) := by show _ = _; rw [← hend.out]; simp [runR]
          go_wp2_with (at_builtin; refine Buf.app rfl _ _ rfl w _ _ _ hB _ [UInt8.ofNat (B / 1024), UInt8.ofNat (B / 4)] 2 2 rfl ?ea rfl rfl ?eb ?_)
          case ea =>
            show _ = [Value.int .u8 ((UInt8.ofNat (B / 1024)).toNat : Int), .int .u8 ((UInt8.ofNat (B / 4)).toNat : Int)]
            rw [ofNat_cell, ofNat_cell, show (((B / 1024 : Nat) : Int) % 256) = (B : Int) / 1024 by omega, show (((B / 4 : Nat) : Int) % 256) = (B : Int) / 4 % 256 by omega]
          case eb => omega
          intro v2 w4 hB3
          have hb := hB3.below
          have hrun := hB3.string
          go_wp2
          go_ret
          exact ⟨ret_str hF.out, hb⟩
      · have hdr := sx_drop s k hlt h61
        have g2 : ((s[k].toNat : Int) == 61) = false := by rw [beq_eq_false_iff_ne]; omega
        clear h61
        cases hvv : val s[k] with
        | none =>
          have hnx : Hid (out ++ runR B n (sx (s.data.toList.drop (k + 1))) = looseL s.data.toList) := by show _ = _; rw [← hr.out, hdr, hvv]
          have HV := Lib.hid hvv
          clear hvv hdr
          go_wp2_with fail
          refine (find_none hlt HV.out wr).mono ?_
          rintro e w2 ⟨rfl, rfl⟩
          go_wp2
          go_roundw
          case rel => exact ⟨k + 1, B, n, out, by omega, by omega, by go_num, rfl, rfl, hn, hBd, hnx, hB⟩
          case measure => simp [intOf]; omega
        | some v =>
          have hv64 := val_lt hvv
          have HV := Lib.hid hvv
          have HST : Hid (sx (s.data.toList.drop k) = v :: sx (s.data.toList.drop (k + 1))) := by show _ = _; rw [hdr, hvv]
          clear hvv hdr
          rcases hn with rfl | rfl | rfl | rfl
          · have gB : B ≤ 0 := by have := hBd.out; simp at this; omega
            have e1 := or6 (B * 64 : Int) v (by omega) (by omega) (by omega) (by omega) (by omega)
            have hnx : Hid (out ++ runR (B * 64 + v) 1 (sx (s.data.toList.drop (k + 1))) = looseL s.data.toList) := by show _ = _; rw [← hr.out, HST.out, runR_next _ _ _ _ (by decide)]
            go_wp2_with fail
            refine (find_some hlt HV.out wr).mono ?_
            rintro e w2 ⟨rfl, rfl⟩
            go_wp2
            go_roundw
            case rel => exact ⟨k + 1, B * 64 + v, 1, out, by omega, by omega, by go_num, by go_num, by first | rfl | go_num, by omega, by show _ < _; simp; omega, hnx, hB⟩
            case measure => simp [intOf]; omega
          · have gB : B ≤ 63 := by have := hBd.out; simp at this; omega
            have e1 := or6 (B * 64 : Int) v (by omega) (by omega) (by omega) (by omega) (by omega)
            have hnx : Hid (out ++ runR (B * 64 + v) 2 (sx (s.data.toList.drop (k + 1))) = looseL s.data.toList) := by show _ = _; rw [← hr.out, HST.out, runR_next _ _ _ _ (by decide)]
            go_wp2_with fail
            refine (find_some hlt HV.out wr).mono ?_
            rintro e w2 ⟨rfl, rfl⟩
            go_wp2
            go_roundw
            case rel => exact ⟨k + 1, B * 64 + v, 2, out, by omega, by omega, by go_num, by go_num, by first | rfl | go_num, by omega, by show _ < _; simp; omega, hnx, hB⟩
            case measure => simp [intOf]; omega
          · have gB : B ≤ 4095 := by have := hBd.out; simp at this; omega
            have e1 := or6 (B * 64 : Int) v (by omega) (by omega) (by omega) (by omega) (by omega)
            have hnx : Hid (out ++ runR (B * 64 + v) 3 (sx (s.data.toList.drop (k + 1))) = looseL s.data.toList) := by show _ = _; rw [← hr.out, HST.out, runR_next _ _ _ _ (by decide)]
            go_wp2_with fail
            refine (find_some hlt HV.out wr).mono ?_
            rintro e w2 ⟨rfl, rfl⟩
            go_wp2
            go_roundw
            case rel => exact ⟨k + 1, B * 64 + v, 3, out, by omega, by omega, by go_num, by go_num, by first | rfl | go_num, by omega, by show _ < _; simp; omega, hnx, hB⟩
            case measure => simp [intOf]; omega
          · have gB : B ≤ 262143 := by have := hBd.out; simp at this; omega
            have e1 := or6 (B * 64 : Int) v (by omega) (by omega) (by omega) (by omega) (by omega)
            obtain ⟨X, hX⟩ : ∃ X : Nat, B * 64 + v = X := ⟨_, rfl⟩
            have hXi : (B : Int) * 64 + v = X := by omega
            have gX : X ≤ 16777215 := by omega
            have hnx : Hid ((out ++ [UInt8.ofNat (X / 65536), UInt8.ofNat (X / 256), UInt8.ofNat X]) ++ runR 0 0 (sx (s.data.toList.drop (k + 1))) = looseL s.data.toList) := by show _ = _; rw [← hr.out, HST.out, runR_three, hX, List.append_assoc]; rfl
            rw [hXi] at e1
            clear hX hXi
            go_wp2_with fail
            refine (find_some hlt HV.out wr).mono ?_
            rintro e w2 ⟨rfl, rfl⟩
            go_wp2_with (at_builtin; refine Buf.app rfl _ _ rfl w _ _ _ hB _ [UInt8.ofNat (X / 65536), UInt8.ofNat (X / 256), UInt8.ofNat X] 3 3 rfl ?ca rfl rfl ?cb ?_)
            case ca =>
              show _ = [Value.int .u8 ((UInt8.ofNat (X / 65536)).toNat : Int), .int .u8 ((UInt8.ofNat (X / 256)).toNat : Int), .int .u8 ((UInt8.ofNat X).toNat : Int)]
              rw [ofNat_cell, ofNat_cell, ofNat_cell, show (((X / 65536 : Nat) : Int) % 256) = (X : Int) / 65536 by omega, show (((X / 256 : Nat) : Int) % 256) = (X : Int) / 256 % 256 by omega]
            case cb => omega
            intro v2 w4 hB3
            go_wp2
            go_roundw
            case rel => exact ⟨k + 1, 0, 0, _, by omega, by rw [List.length_append]; show out.length + 3 ≤ _; omega, by go_num, by go_num, by go_num, by omega, by show _ < _; simp, hnx, hB3⟩
            case measure => simp [intOf]; omega
    · have hend : Hid (out ++ runR B n [] = looseL s.data.toList) := by show _ = _; rw [← hr.out, sx_stop s k (Or.inl (by omega))]
      have g1 : ¬ (k : Int) < s.size := by omega
      rcases hn with rfl | rfl | rfl | rfl
      · have hF : Hid (out = looseL s.data.toList) := by show _ = _; rw [← hend.out]; simp [runR]
        have hb := hB.below
        have hrun := hB.string
        go_wp2
        go_ret
        exact ⟨ret_str hF.out, hb⟩
      · have hF : Hid (out = looseL s.data.toList) := by show _ = _; rw [← hend.out]; simp [runR]
        have hb := hB.below
        have hrun := hB.string
        go_wp2
        go_ret
        exact ⟨ret_str hF.out, hb⟩
      · have gB : B ≤ 4095 := by have := hBd.out; simp at this; omega
        have hF : Hid (out ++ [UInt8.ofNat (B / 16)] = looseL s.data.toList) := by show _ = _; rw [← hend.out]; simp [runR]
        go_wp2_with (at_builtin; refine Buf.app rfl _ _ rfl w _ _ _ hB _ [UInt8.ofNat (B / 16)] 1 1 rfl ?fa rfl rfl ?fb ?_)
        case fa => exact congrArg (fun x => [Value.int .u8 x]) (by rw [ofNat_nat (by omega)]; omega)
        case fb => omega
        intro v2 w4 hB3
        have hb := hB3.below
        have hrun := hB3.string
        go_wp2
        go_ret
        exact ⟨ret_str hF.out, hb⟩
      · have gB : B ≤ 262143 := by have := hBd.out; simp at this; omega
        have hF : Hid (out ++ [UInt8.ofNat (B / 1024), UInt8.ofNat (B / 4)] = looseL s.data.toList) := by show _ = _; rw [← hend.out]; simp [runR]
        go_wp2_with (at_builtin; refine Buf.app rfl _ _ rfl w _ _ _ hB _ [UInt8.ofNat (B / 1024), UInt8.ofNat (B / 4)] 2 2 rfl ?ga rfl rfl ?gb ?_)
        case ga =>
          show _ = [Value.int .u8 ((UInt8.ofNat (B / 1024)).toNat : Int), .int .u8 ((UInt8.ofNat (B / 4)).toNat : Int)]
          rw [ofNat_cell, ofNat_cell, show (((B / 1024 : Nat) : Int) % 256) = (B : Int) / 1024 by omega, show (((B / 4 : Nat) : Int) % 256) = (B : Int) / 4 % 256 by omega]
        case gb => omega
        intro v2 w4 hB3
        have hb := hB3.below
        have hrun := hB3.string
        go_wp2
        go_ret
        exact ⟨ret_str hF.out, hb⟩
end Go.Proofs.YtkmopneeafbeaaaDoor.B6
namespace Go.Proofs.YtkmopneeafbeaaaDoor.Q4
open Go

/-! ### Digits -/
def digL : List UInt8 := [48, 49, 50, 51, 52, 53, 54, 55, 56, 57, 65, 66, 67, 68, 69, 70]
def dimL : List UInt8 := [48, 49, 50, 51, 52, 53, 54, 55, 56, 57, 97, 98, 99, 100, 101, 102]
def dg (k : Nat) : UInt8 := digL.getD k 0
def dm (k : Nat) : UInt8 := dimL.getD k 0
def hxN (n : Nat) : Option Nat := if 48 ≤ n ∧ n ≤ 57 then some (n - 48) else if 97 ≤ n ∧ n ≤ 102 then some (n - 87) else if 65 ≤ n ∧ n ≤ 70 then some (n - 55) else none
def hx (c : UInt8) : Option Nat := hxN c.toNat
/-- A digit's value, or that it is none. -/
def hv (c : UInt8) : Int := match hx c with | some v => (v : Int) | none => -1
theorem hv_some {c : UInt8} {v : Nat} (h : hx c = some v) : hv c = v := by rw [hv, h]
theorem hv_none {c : UInt8} (h : hx c = none) : hv c = -1 := by rw [hv, h]
theorem hx_dg : ∀ k, k < 16 → hx (dg k) = some k := by decide +kernel
theorem hx_dm : ∀ k, k < 16 → hx (dm k) = some k := by decide +kernel
theorem dg_fit : ∀ k, k < 16 → 33 ≤ (dg k).toNat ∧ (dg k).toNat ≤ 126 := by decide +kernel
theorem hxN_lt {n v : Nat} (h : hxN n = some v) : v < 16 := by
  unfold hxN at h
  split at h
  · simp only [Option.some.injEq] at h; omega
  · split at h
    · simp only [Option.some.injEq] at h; omega
    · split at h
      · simp only [Option.some.injEq] at h; omega
      · cases h
theorem hx_lt {c : UInt8} {v : Nat} (h : hx c = some v) : v < 16 := hxN_lt h
def upN (n : Nat) : Nat := if 97 ≤ n ∧ n ≤ 102 then n - 32 else n
def hvN (n : Nat) : Int := match hxN n with | some v => (v : Int) | none => -1
theorem idx_hvN : ∀ n, n < 256 → Lib.indexByte digL (UInt8.ofNat (upN n)) = hvN n := by decide +kernel
theorem idx_hv (c : UInt8) : Lib.indexByte digL (UInt8.ofNat (upN c.toNat)) = hv c := idx_hvN c.toNat c.toNat_lt
theorem u8_nat (c : UInt8) : UInt8.ofNat c.toNat = c := by simp
theorem ofNat_of {x : Nat} {c : UInt8} (h : x = c.toNat) : UInt8.ofNat x = c := by rw [h]; simp

/-! ### Decoding -/
/-- What a sign of equality tells where no two digits follow. -/
def soft (l : List UInt8) : List UInt8 × List UInt8 :=
  if l.head? = some 10 then ([], l.drop 1) else if l.take 2 = [13, 10] then ([], l.drop 2) else ([61], l)
def nextL : List UInt8 → List UInt8 × List UInt8
  | h :: l :: r => match hx h, hx l with
    | some a, some b => ([UInt8.ofNat (a * 16 + b)], r)
    | _, _ => soft (h :: l :: r)
  | l => soft l
theorem soft_len (l : List UInt8) : (soft l).2.length ≤ l.length ∧ (soft l).1.length ≤ 1 := by
  unfold soft
  split
  · simp
  · split <;> simp
theorem nextL_hex {h l : UInt8} {a b : Nat} (ha : hx h = some a) (hb : hx l = some b) (r : List UInt8) : nextL (h :: l :: r) = ([UInt8.ofNat (a * 16 + b)], r) := by
  simp [nextL, ha, hb]
theorem nextL_no1 {h : UInt8} (ha : hx h = none) (r : List UInt8) : nextL (h :: r) = soft (h :: r) := by
  cases r <;> simp [nextL, ha]
theorem nextL_no2 {h l : UInt8} (hb : hx l = none) (r : List UInt8) : nextL (h :: l :: r) = soft (h :: l :: r) := by
  simp only [nextL]
  cases hx h <;> simp [hb]
theorem nextL_short {l : List UInt8} (h : l.length < 2) : nextL l = soft l := by
  rcases l with _ | ⟨a, _ | ⟨b, r⟩⟩
  · rfl
  · rfl
  · simp only [List.length_cons] at h; omega
theorem nextL_len (l : List UInt8) : (nextL l).2.length ≤ l.length ∧ (nextL l).1.length ≤ 1 := by
  rcases l with _ | ⟨a, _ | ⟨b, r⟩⟩
  · exact soft_len []
  · exact soft_len [a]
  · rcases ha : hx a with _ | x
    · rw [nextL_no1 ha]; exact soft_len _
    · rcases hb : hx b with _ | y
      · rw [nextL_no2 hb]; exact soft_len _
      · rw [nextL_hex ha hb]; simp; omega
def plainL : List UInt8 → List UInt8
  | [] => []
  | c :: r => if c = 61 then (nextL r).1 ++ plainL (nextL r).2 else c :: plainL r
termination_by l => l.length
decreasing_by
  · have := (nextL_len r).1; simp; omega
  · simp
theorem plain_nil : plainL [] = [] := by rw [plainL]
theorem plain_eq (r : List UInt8) : plainL (61 :: r) = (nextL r).1 ++ plainL (nextL r).2 := by rw [plainL, if_pos rfl]
theorem plain_ne {c : UInt8} (h : c ≠ 61) (r : List UInt8) : plainL (c :: r) = c :: plainL r := by rw [plainL, if_neg h]
theorem plain_app : ∀ {a : List UInt8}, (∀ c ∈ a, c ≠ 61) → ∀ (r : List UInt8), plainL (a ++ r) = a ++ plainL r
  | [], _, _ => rfl
  | c :: a, h, r => by
    rw [List.cons_append, plain_ne (h c List.mem_cons_self), plain_app (fun x hx => h x (List.mem_cons_of_mem _ hx)) r]
    rfl
theorem plain_self {a : List UInt8} (h : ∀ c ∈ a, c ≠ 61) : plainL a = a := by
  have := plain_app h []
  rwa [List.append_nil, plain_nil, List.append_nil] at this
theorem plain_len : ∀ (n : Nat) (l : List UInt8), l.length ≤ n → (plainL l).length ≤ l.length
  | _, [], _ => by simp [plain_nil]
  | 0, c :: r, h => by simp at h
  | n + 1, c :: r, h => by
    simp only [List.length_cons] at h
    by_cases hc : c = 61
    · subst hc
      have h1 := nextL_len r
      have ih := plain_len n (nextL r).2 (by omega)
      rw [plain_eq, List.length_append, List.length_cons]
      omega
    · have ih := plain_len n r (by omega)
      rw [plain_ne hc, List.length_cons, List.length_cons]
      omega
theorem plain_length (l : List UInt8) : (plainL l).length ≤ l.length := plain_len l.length l (Nat.le_refl _)
theorem soft_lf (r : List UInt8) : soft (10 :: r) = ([], r) := by simp [soft]
theorem soft_crlf (r : List UInt8) : soft (13 :: 10 :: r) = ([], r) := by simp [soft]
theorem plain_crlf (r : List UInt8) : plainL (61 :: 13 :: 10 :: r) = plainL r := by
  rw [plain_eq, nextL_no1 (by decide), soft_crlf]
  rfl
theorem plain_lf (r : List UInt8) : plainL (61 :: 10 :: r) = plainL r := by
  rw [plain_eq, nextL_no1 (by decide), soft_lf]
  rfl
theorem plain_hex {h l : UInt8} {a b : Nat} (ha : hx h = some a) (hb : hx l = some b) (r : List UInt8) : plainL (61 :: h :: l :: r) = UInt8.ofNat (a * 16 + b) :: plainL r := by
  rw [plain_eq, nextL_hex ha hb]
  rfl
theorem hex_byte {h l c : UInt8} (ha : hx h = some (c.toNat / 16)) (hb : hx l = some (c.toNat % 16)) (r : List UInt8) : plainL (61 :: h :: l :: r) = c :: plainL r := by
  rw [plain_hex ha hb, ofNat_of (c := c) (by omega)]

/-! ### Encoding -/
def flatB (n : Nat) : Bool := decide (32 < n) && decide (n ≤ 126) && n != 61
def pieceL (c : UInt8) (last : Bool) : List UInt8 := if flatB c.toNat || (c == 32 && !last) then [c] else [61, dg (c.toNat / 16), dg (c.toNat % 16)]
def brk (n k : Nat) : List UInt8 := if 75 < n + k then [61, 13, 10] else []
def fill (n k : Nat) : Nat := if 75 < n + k then k else n + k
def quoL : Nat → List UInt8 → List UInt8
  | _, [] => []
  | n, c :: r => brk n (pieceL c r.isEmpty).length ++ (pieceL c r.isEmpty ++ quoL (fill n (pieceL c r.isEmpty).length) r)
theorem piece_len (c : UInt8) (b : Bool) : (pieceL c b).length = 1 ∨ (pieceL c b).length = 3 := by
  unfold pieceL
  split <;> simp
theorem brk_len (n k : Nat) : (brk n k).length ≤ 3 := by unfold brk; split <;> simp
theorem fill_le {n k : Nat} (h : k ≤ 3) : fill n k ≤ 75 := by unfold fill; split <;> omega
theorem quo_len : ∀ (n : Nat) (l : List UInt8), (quoL n l).length ≤ 6 * l.length
  | _, [] => by simp [quoL]
  | n, c :: r => by
    have h1 := piece_len c r.isEmpty
    have h2 := brk_len n (pieceL c r.isEmpty).length
    have ih := quo_len (fill n (pieceL c r.isEmpty).length) r
    rw [quoL, List.length_append, List.length_append, List.length_cons]
    omega
theorem flat_ne {c : UInt8} (h : flatB c.toNat = true) : c ≠ 61 := by
  rintro rfl
  revert h
  decide
theorem plain_piece (c : UInt8) (b : Bool) (r : List UInt8) : plainL (pieceL c b ++ r) = c :: plainL r := by
  have := c.toNat_lt
  unfold pieceL
  split
  · rename_i h
    refine plain_ne ?_ r
    rcases Bool.or_eq_true_iff.1 h with h | h
    · exact flat_ne h
    · rintro rfl
      revert h
      cases b <;> decide
  · exact hex_byte (hx_dg _ (by omega)) (hx_dg _ (by omega)) r
theorem plain_brk (n k : Nat) (r : List UInt8) : plainL (brk n k ++ r) = plainL r := by
  unfold brk
  split
  · exact plain_crlf r
  · rfl
theorem plain_quo : ∀ (n : Nat) (l : List UInt8), plainL (quoL n l) = l
  | _, [] => plain_nil
  | n, c :: r => by rw [quoL, plain_brk, plain_piece, plain_quo]

/-! ### Lines -/
/-- How long a line may be, and of what bytes. -/
def okL : Nat → List UInt8 → Bool
  | _, [] => true
  | n, c :: r => if c = 10 then okL 0 r else if c = 13 then decide (n ≤ 76) && okL n r else decide (n + 1 ≤ 76) && decide (32 ≤ c.toNat) && decide (c.toNat ≤ 126) && okL (n + 1) r
theorem ok_lf (n : Nat) (r : List UInt8) : okL n (10 :: r) = okL 0 r := by rw [okL, if_pos rfl]
theorem ok_cr (n : Nat) (r : List UInt8) (h : n ≤ 76) : okL n (13 :: r) = okL n r := by
  rw [okL, if_neg (by decide), if_pos rfl]
  simp [h]
theorem ok_fit {n : Nat} {c : UInt8} (h : n + 1 ≤ 76) (h1 : 32 ≤ c.toNat) (h2 : c.toNat ≤ 126) (r : List UInt8) : okL n (c :: r) = okL (n + 1) r := by
  rw [okL, if_neg (by rintro rfl; revert h1; decide), if_neg (by rintro rfl; revert h1; decide)]
  simp [h, h1, h2]
theorem ok_piece {n : Nat} (c : UInt8) (b : Bool) (h : n + (pieceL c b).length ≤ 75) (r : List UInt8) : okL n (pieceL c b ++ r) = okL (n + (pieceL c b).length) r := by
  have := c.toNat_lt
  unfold pieceL at h ⊢
  split at h
  · rename_i hc
    rw [if_pos hc]
    have hc2 : 32 ≤ c.toNat ∧ c.toNat ≤ 126 := by
      rcases Bool.or_eq_true_iff.1 hc with hc | hc
      · unfold flatB at hc
        simp only [Bool.and_eq_true, decide_eq_true_eq] at hc
        omega
      · simp only [Bool.and_eq_true, beq_iff_eq] at hc
        rw [hc.1]
        decide
    exact ok_fit (by simp at h; omega) hc2.1 hc2.2 r
  · rename_i hc
    rw [if_neg hc]
    have f1 := dg_fit (c.toNat / 16) (by omega)
    have f2 := dg_fit (c.toNat % 16) (by omega)
    simp only [List.length_cons, List.length_nil] at h
    show okL n (61 :: dg (c.toNat / 16) :: dg (c.toNat % 16) :: r) = okL (n + 3) r
    rw [ok_fit (by omega) (by decide) (by decide), ok_fit (by omega) (by omega) (by omega), ok_fit (by omega) (by omega) (by omega)]
theorem ok_quo : ∀ (n : Nat) (l : List UInt8), n ≤ 75 → okL n (quoL n l) = true
  | _, [], _ => rfl
  | n, c :: r, h => by
    have hp := piece_len c r.isEmpty
    have ih := ok_quo (fill n (pieceL c r.isEmpty).length) r (fill_le (by omega))
    rw [quoL]
    unfold brk fill at *
    by_cases hn : 75 < n + (pieceL c r.isEmpty).length
    · rw [if_pos hn] at ih ⊢
      show okL n (61 :: 13 :: 10 :: (pieceL c r.isEmpty ++ _)) = true
      rw [ok_fit (by omega) (by decide) (by decide), ok_cr _ _ (by omega), ok_lf, ok_piece c r.isEmpty (by omega), if_pos hn, Nat.zero_add]
      exact ih
    · rw [if_neg hn] at ih ⊢
      rw [List.nil_append, ok_piece c r.isEmpty (by omega), if_neg hn]
      exact ih

/-! ### Each byte by its two digits -/
def hexL (f : Nat → UInt8) : List UInt8 → List UInt8
  | [] => []
  | c :: r => 61 :: f (c.toNat / 16) :: f (c.toNat % 16) :: hexL f r
theorem plain_hexes (f : Nat → UInt8) (h : ∀ k, k < 16 → hx (f k) = some k) : ∀ (l : List UInt8), plainL (hexL f l) = l
  | [] => plain_nil
  | c :: r => by
    have := c.toNat_lt
    rw [hexL, hex_byte (h _ (by omega)) (h _ (by omega)), plain_hexes f h r]
theorem hex_length (f : Nat → UInt8) : ∀ (l : List UInt8), (hexL f l).length = 3 * l.length
  | [] => rfl
  | c :: r => by rw [hexL, List.length_cons, List.length_cons, List.length_cons, hex_length f r, List.length_cons]; omega
theorem hex_snoc (f : Nat → UInt8) (c : UInt8) : ∀ (l : List UInt8), hexL f (l ++ [c]) = hexL f l ++ [61, f (c.toNat / 16), f (c.toNat % 16)]
  | [] => rfl
  | x :: l => by rw [List.cons_append, hexL, hex_snoc f c l, hexL]; rfl

/-! ### What stands as it is -/
theorem soft_stay {l : List UInt8} (h1 : l.head? ≠ some 10) (h2 : l.head? ≠ some 13) : soft l = ([61], l) := by
  unfold soft
  rw [if_neg h1, if_neg]
  intro h
  apply h2
  cases l with
  | nil => simp at h
  | cons a r => simp at h; simp [h.1]
theorem plain_bad {c d : UInt8} (hcd : hx c = none ∨ hx d = none) (h1 : c ≠ 10) (h2 : c ≠ 13) (h3 : c ≠ 61) (h4 : d ≠ 61) : plainL [120, 61, c, d] = [120, 61, c, d] := by
  have hn : nextL [c, d] = ([61], [c, d]) := by
    rw [show nextL [c, d] = soft [c, d] by rcases hcd with h | h; exact nextL_no1 h _; exact nextL_no2 h _]
    exact soft_stay (by simpa using h1) (by simpa using h2)
  rw [plain_ne (by decide), plain_eq, hn]
  show 120 :: 61 :: plainL [c, d] = _
  rw [plain_self (a := [c, d]) (by intro x hx; simp at hx; rcases hx with rfl | rfl <;> assumption)]
theorem plain_x1 : plainL [120, 61] = [120, 61] := by
  rw [plain_ne (by decide), plain_eq, nextL_short (by decide), soft_stay (by decide) (by decide)]
  show 120 :: 61 :: plainL [] = _
  rw [plain_nil]
theorem plain_x2 : plainL [120, 61, 65] = [120, 61, 65] := by
  rw [plain_ne (by decide), plain_eq, nextL_short (by decide), soft_stay (by decide) (by decide)]
  show 120 :: 61 :: plainL [65] = _
  rw [plain_self (by decide)]
theorem plain_x3 : plainL [61, 13] = [61, 13] := by
  rw [plain_eq, nextL_short (by decide)]
  show 61 :: plainL [13] = _
  rw [plain_self (by decide)]
theorem plain_x4 : plainL [97, 61, 51, 100, 98] = [97, 61, 98] := by
  rw [plain_ne (by decide), plain_hex (a := 3) (b := 13) (by decide) (by decide), plain_self (a := [98]) (by decide)]
  rfl
end Go.Proofs.YtkmopneeafbeaaaDoor.Q4
namespace Go.Proofs.YtkmopneeafbeaaaDoor.Q4
open Go Go.RowKit Go.Joins Kit

theorem value_any (c : UInt8) (w : World) :
    Calls Tryd.prog 88 #[.int .u8 (c.toNat : Int)] w fun e w' => e = .returned (.int .i64 (hv c)) ∧ w = w' := by
  have hc := c.toNat_lt
  by_cases h : 97 ≤ c.toNat ∧ c.toNat ≤ 102
  · have g1 : (97 : Int) ≤ c.toNat := by omega
    have g2 : (c.toNat : Int) ≤ 102 := by omega
    have hI : Hid (Lib.indexByte digL ((c.toNat : Int) - 32).toNat.toUInt8 = hv c) := by
      show _ = _
      rw [← idx_hv c, upN, if_pos h, show ((c.toNat : Int) - 32).toNat = c.toNat - 32 by omega]
    clear h
    go_enter Tryd.func88, Tryd.ntmps88
    go_wp2_with fail
    refine (Tryd.strings_IndexByte _ _ w).mono ?_
    rintro e w' ⟨rfl, rfl⟩
    go_wp2
    go_ret
    exact ⟨ret_int hI.out, rfl⟩
  · have hI : Hid (Lib.indexByte digL c = hv c) := by
      show _ = _
      rw [← idx_hv c, upN, if_neg h, u8_nat]
    rcases (show c.toNat < 97 ∨ 102 < c.toNat by omega) with g | g
    · have g1 : (c.toNat : Int) < 97 := by omega
      clear h
      go_enter Tryd.func88, Tryd.ntmps88
      go_wp2_with fail
      refine (Tryd.strings_IndexByte _ _ w).mono ?_
      rintro e w' ⟨rfl, rfl⟩
      go_wp2
      go_ret
      exact ⟨ret_int hI.out, rfl⟩
    · have g1 : 102 < (c.toNat : Int) := by omega
      clear h
      go_enter Tryd.func88, Tryd.ntmps88
      go_wp2_with fail
      refine (Tryd.strings_IndexByte _ _ w).mono ?_
      rintro e w' ⟨rfl, rfl⟩
      go_wp2
      go_ret
      exact ⟨ret_int hI.out, rfl⟩
theorem value_some {c : UInt8} {v : Nat} (h : hx c = some v) (w : World) :
    Calls Tryd.prog 88 #[.int .u8 (c.toNat : Int)] w fun e w' => e = .returned (.int .i64 (v : Int)) ∧ w = w' := by
  have := value_any c w
  rwa [hv_some h] at this
theorem value_none {c : UInt8} (h : hx c = none) (w : World) :
    Calls Tryd.prog 88 #[.int .u8 (c.toNat : Int)] w fun e w' => e = .returned (.int .i64 (-1)) ∧ w = w' := by
  have := value_any c w
  rwa [hv_none h] at this

theorem ext_drop (s : ByteArray) (k : Nat) : (s.extract k s.size).data.toList = s.data.toList.drop k := by
  rw [← Lib.toList_data, Lib.extract_toList, List.take_of_length_le (by rw [List.length_drop, ← Lib.size_eq]; exact Nat.le_refl _)]
theorem hv_in (c : UInt8) : -1 ≤ hv c ∧ hv c ≤ 15 := by
  cases h : hx c with
  | none => rw [hv_none h]; omega
  | some v => have := hx_lt h; rw [hv_some h]; omega

/-! ### What follows a sign of equality -/
def softB (s : ByteArray) : ByteArray := ⟨(soft s.data.toList).2.toArray⟩
theorem u8_or_low (a b : Nat) (ha : a < 16) (hb : b < 16) : bits .or .i64 ((a : Int) * 16) (b : Int) = (a : Int) * 16 + b :=
  bits_join .i64 62 (by decide) (fun n h0 h1 => by rw [IntKind.wrap_i64]; omega) 4 ((a : Int) * 16) (b : Int) (by omega) (by omega) (by omega) (by omega) (by omega) (by omega)
theorem byte_of {a b : Nat} (ha : a < 16) (hb : b < 16) : ((UInt8.ofNat (a * 16 + b)).toNat : Int) = (a : Int) * 16 + b := by simp; omega
theorem no_hasp {s : ByteArray} {p : List UInt8} (h : Lib.hasPrefix s.data.toList p = false) : Lib.trimPrefix s.data.toList p = s.data.toList := by rw [Lib.trimPrefix, h]; rfl
theorem lf_head (l : List UInt8) : Lib.hasPrefix l [10] = decide (l.head? = some 10) := by
  cases l with
  | nil => rfl
  | cons a r => simp [Lib.hasPrefix, List.isPrefixOf, eq_comm, Bool.beq_eq_decide_eq]
theorem crlf_head (l : List UInt8) : Lib.hasPrefix l [13, 10] = decide (l.take 2 = [13, 10]) := by
  rcases l with _ | ⟨a, _ | ⟨b, r⟩⟩
  · rfl
  · simp [Lib.hasPrefix, List.isPrefixOf]
  · by_cases h1 : a = 13
    · by_cases h2 : b = 10
      · simp [Lib.hasPrefix, List.isPrefixOf, h1, h2]
      · simp [Lib.hasPrefix, List.isPrefixOf, h1, h2, Ne.symm h2]
    · simp [Lib.hasPrefix, List.isPrefixOf, h1, Ne.symm h1]
/-- What strings.CutPrefix tells of the two ends of a line. -/
theorem cutLf {s : ByteArray} (w : World) : Calls Tryd.prog 35 #[.string s, .string ⟨#[10]⟩] w fun e w' => e = .returned (.tuple #[.string ⟨(Lib.trimPrefix s.data.toList [10]).toArray⟩, .bool (Lib.hasPrefix s.data.toList [10])]) ∧ w' = w := Tryd.strings_CutPrefix s ⟨#[10]⟩ w
theorem cutCrlf {s : ByteArray} (w : World) : Calls Tryd.prog 35 #[.string s, .string ⟨#[13, 10]⟩] w fun e w' => e = .returned (.tuple #[.string ⟨(Lib.trimPrefix s.data.toList [13, 10]).toArray⟩, .bool (Lib.hasPrefix s.data.toList [13, 10])]) ∧ w' = w := Tryd.strings_CutPrefix s ⟨#[13, 10]⟩ w

theorem soft_one {l : List UInt8} (h : l.head? = some 10) : Lib.hasPrefix l [10] = true ∧ Lib.trimPrefix l [10] = (soft l).2 ∧ (soft l).1 = [] := by
  have hp : Lib.hasPrefix l [10] = true := by rw [lf_head]; simpa using h
  refine ⟨hp, ?_, ?_⟩
  · rw [Lib.trimPrefix, hp, soft, if_pos h]; rfl
  · rw [soft, if_pos h]
theorem soft_two {l : List UInt8} (h : l.head? ≠ some 10) (h2 : l.take 2 = [13, 10]) : Lib.hasPrefix l [10] = false ∧ Lib.hasPrefix l [13, 10] = true ∧ Lib.trimPrefix l [13, 10] = (soft l).2 ∧ (soft l).1 = [] := by
  have hp : Lib.hasPrefix l [13, 10] = true := by rw [crlf_head]; simpa using h2
  refine ⟨by rw [lf_head]; simpa using h, hp, ?_, ?_⟩
  · rw [Lib.trimPrefix, hp, soft, if_neg h, if_pos h2]; rfl
  · rw [soft, if_neg h, if_pos h2]
theorem soft_none {l : List UInt8} (h : l.head? ≠ some 10) (h2 : l.take 2 ≠ [13, 10]) : Lib.hasPrefix l [10] = false ∧ Lib.hasPrefix l [13, 10] = false ∧ (soft l).2 = l ∧ (soft l).1 = [61] := by
  refine ⟨by rw [lf_head]; simpa using h, by rw [crlf_head]; simpa using h2, ?_, ?_⟩
  · rw [soft, if_neg h, if_neg h2]
  · rw [soft, if_neg h, if_neg h2]

set_option maxHeartbeats 400000 in
set_option maxRecDepth 100000 in
theorem next_any (B b : Nat) (l : List UInt8) (s : ByteArray) (w : World) (h : Lib.IsBuilderF 75 5 B b (Lib.byteCells l) w) (hl : l.length ≤ 8796093022208) (hBw : B ≤ w.heap.size) :
    Calls Tryd.prog 58 #[.pointer (some ⟨b, 0, none⟩), .string s] w fun e w' => e = .returned (.string ⟨(nextL s.data.toList).2.toArray⟩) ∧ (Lib.IsBuilderF 75 5 B b (Lib.byteCells (l ++ (nextL s.data.toList).1)) w' ∧ Below B w w') := by
  by_cases hs : s.size < 2
  · have g1 : (s.size : Int) < 2 := by omega
    have hn : Hid (nextL s.data.toList = soft s.data.toList) := by show _ = _; exact nextL_short (by rw [← Lib.size_eq]; exact hs)
    clear hs
    go_enter Tryd.func58, Tryd.ntmps58
    go_wp2_with fail
    by_cases h1 : s.data.toList.head? = some 10
    · have hso := soft_one h1
      have HP := Lib.hid hso.1
      have HT := Lib.hid hso.2.1
      have HE := Lib.hid hso.2.2
      clear hso h1
      refine wp_loop_rounds 1 ?_
      rw [rounds_succ]
      go_wp2_with fail
      refine (cutLf _).mono ?_
      rintro e w' ⟨rfl, rfl⟩
      rw [HP.out, HT.out]
      go_wp2
      go_ret
      rw [hn.out, HE.out, List.append_nil]
      exact ⟨rfl, h.alloc _, (Below.refl _ w).alloc hBw _⟩
    · by_cases h2 : s.data.toList.take 2 = [13, 10]
      · have hso := soft_two h1 h2
        have HP := Lib.hid hso.1
        have HQ := Lib.hid hso.2.1
        have HT := Lib.hid hso.2.2.1
        have HE := Lib.hid hso.2.2.2
        clear hso h1 h2
        refine wp_loop_rounds 2 ?_
        rw [rounds_succ]
        go_wp2_with fail
        refine (cutLf _).mono ?_
        rintro e w' ⟨rfl, rfl⟩
        rw [HP.out]
        go_wp2_with fail
        rw [rounds_succ]
        go_wp2_with fail
        refine (cutCrlf _).mono ?_
        rintro e w' ⟨rfl, rfl⟩
        rw [HQ.out, HT.out]
        go_wp2
        go_ret
        rw [hn.out, HE.out, List.append_nil]
        exact ⟨rfl, h.alloc _, (Below.refl _ w).alloc hBw _⟩
      · have hso := soft_none h1 h2
        have HP := Lib.hid hso.1
        have HQ := Lib.hid hso.2.1
        have HT := Lib.hid hso.2.2.1
        have HE := Lib.hid hso.2.2.2
        clear hso h1 h2
        refine wp_loop_rounds 3 ?_
        rw [rounds_succ]
        go_wp2_with fail
        refine (cutLf _).mono ?_
        rintro e w' ⟨rfl, rfl⟩
        rw [HP.out]
        go_wp2_with fail
        rw [rounds_succ]
        go_wp2_with fail
        refine (cutCrlf _).mono ?_
        rintro e w' ⟨rfl, rfl⟩
        rw [HQ.out]
        go_wp2_with fail
        rw [rounds_succ]
        go_wp2_with fail
        refine (Tryd.Builder_WriteByte_k B b _ _ _ (h.alloc _) (by rw [Lib.byteCells_length]; omega) (Nat.le_trans hBw (Nat.le_of_lt (lt_alloc w _)))).mono ?_
        rintro e w2 ⟨rfl, h2, hb2, _⟩
        go_wp2
        go_ret
        rw [hn.out, HE.out, HT.out]
        exact ⟨rfl, by rw [Kit.cells_snoc]; exact Or.inr h2, ((Below.refl _ w).alloc hBw _).trans hb2⟩
  · have g1 : (2 : Int) ≤ s.size := by omega
    have b0 : (0 : Int) < s.size := by omega
    have b1 : (1 : Int) < s.size := by omega
    obtain ⟨q, hq⟩ : ∃ q, s.data.toList = s[0] :: s[1] :: q := by
      have hl : s.data.toList.length = s.size := (Lib.size_eq s).symm
      refine ⟨s.data.toList.drop 2, ?_⟩
      rw [← byte_get s 0 (by omega), ← byte_get s 1 (by omega)]
      rw [← List.drop_eq_getElem_cons (by omega : 1 < s.data.toList.length), ← List.drop_eq_getElem_cons (by omega : 0 < s.data.toList.length)]
      rfl
    have c0 := s[0].toNat_lt
    have c1 := s[1].toNat_lt
    go_enter Tryd.func58, Tryd.ntmps58
    go_upto_region 2 with fail
    go_cut [5, 6] from 14 to 19 (fun x y wx => x = .int .i64 (hv s[0]) ∧ y = .int .i64 (hv s[1]) ∧ wx = w.drew)
    case first =>
      go_region_with ((go_at_call 88; refine (value_any _ _).mono ?_; rintro e w' ⟨rfl, rfl⟩))
      all_goals
        go_wp2_with fail
        go_meet
        exact ⟨rfl, rfl, rfl⟩
    case rest =>
      obtain ⟨rfl, rfl, rfl⟩ := hcut
      have hd : Lib.IsBuilderF 75 5 B b (Lib.byteCells l) w.drew := h
      have hbd : Below B w w.drew := (Below.refl _ w).drew
      have hBd : B ≤ w.drew.heap.size := hBw
      obtain ⟨wc, hwc⟩ : ∃ wc, w.drew = wc := ⟨_, rfl⟩
      rw [hwc] at hd hbd hBd ⊢
      clear hwc h hBw
      have v0 : -1 ≤ hv s[0] ∧ hv s[0] ≤ 15 := hv_in _
      have v1 : -1 ≤ hv s[1] ∧ hv s[1] ≤ 15 := hv_in _
      cases ha : hx s[0] with
      | none =>
        have hn : Hid (nextL s.data.toList = soft s.data.toList) := by show _ = _; rw [hq]; exact nextL_no1 ha _
        rw [hv_none ha]
        generalize hv s[1] = y1 at v1
        clear hq ha v0
        go_wp2_with fail
        by_cases h1 : s.data.toList.head? = some 10
        · have hso := soft_one h1
          have HP := Lib.hid hso.1
          have HT := Lib.hid hso.2.1
          have HE := Lib.hid hso.2.2
          clear hso h1
          refine wp_loop_rounds 1 ?_
          rw [rounds_succ]
          go_wp2_with fail
          refine (cutLf _).mono ?_
          rintro e w' ⟨rfl, rfl⟩
          rw [HP.out, HT.out]
          go_wp2
          go_ret
          rw [hn.out, HE.out, List.append_nil]
          exact ⟨rfl, hd.alloc _, hbd.alloc hBd _⟩
        · by_cases h2 : s.data.toList.take 2 = [13, 10]
          · have hso := soft_two h1 h2
            have HP := Lib.hid hso.1
            have HQ := Lib.hid hso.2.1
            have HT := Lib.hid hso.2.2.1
            have HE := Lib.hid hso.2.2.2
            clear hso h1 h2
            refine wp_loop_rounds 2 ?_
            rw [rounds_succ]
            go_wp2_with fail
            refine (cutLf _).mono ?_
            rintro e w' ⟨rfl, rfl⟩
            rw [HP.out]
            go_wp2_with fail
            rw [rounds_succ]
            go_wp2_with fail
            refine (cutCrlf _).mono ?_
            rintro e w' ⟨rfl, rfl⟩
            rw [HQ.out, HT.out]
            go_wp2
            go_ret
            rw [hn.out, HE.out, List.append_nil]
            exact ⟨rfl, hd.alloc _, hbd.alloc hBd _⟩
          · have hso := soft_none h1 h2
            have HP := Lib.hid hso.1
            have HQ := Lib.hid hso.2.1
            have HT := Lib.hid hso.2.2.1
            have HE := Lib.hid hso.2.2.2
            clear hso h1 h2
            refine wp_loop_rounds 3 ?_
            rw [rounds_succ]
            go_wp2_with fail
            refine (cutLf _).mono ?_
            rintro e w' ⟨rfl, rfl⟩
            rw [HP.out]
            go_wp2_with fail
            rw [rounds_succ]
            go_wp2_with fail
            refine (cutCrlf _).mono ?_
            rintro e w' ⟨rfl, rfl⟩
            rw [HQ.out]
            go_wp2_with fail
            rw [rounds_succ]
            go_wp2_with fail
            refine (Tryd.Builder_WriteByte_k B b _ _ _ (hd.alloc _) (by rw [Lib.byteCells_length]; omega) (Nat.le_trans hBd (Nat.le_of_lt (lt_alloc wc _)))).mono ?_
            rintro e w2 ⟨rfl, h2, hb2, _⟩
            go_wp2
            go_ret
            rw [hn.out, HE.out, HT.out]
            exact ⟨rfl, by rw [Kit.cells_snoc]; exact Or.inr h2, (hbd.alloc hBd _).trans hb2⟩
      | some a =>
        have a16 := hx_lt ha
        cases hb : hx s[1] with
        | none =>
          have hn : Hid (nextL s.data.toList = soft s.data.toList) := by show _ = _; rw [hq]; exact nextL_no2 hb _
          rw [hv_some ha, hv_none hb]
          clear hq ha hb v0 v1
          go_wp2_with fail
          by_cases h1 : s.data.toList.head? = some 10
          · have hso := soft_one h1
            have HP := Lib.hid hso.1
            have HT := Lib.hid hso.2.1
            have HE := Lib.hid hso.2.2
            clear hso h1
            refine wp_loop_rounds 1 ?_
            rw [rounds_succ]
            go_wp2_with fail
            refine (cutLf _).mono ?_
            rintro e w' ⟨rfl, rfl⟩
            rw [HP.out, HT.out]
            go_wp2
            go_ret
            rw [hn.out, HE.out, List.append_nil]
            exact ⟨rfl, hd.alloc _, hbd.alloc hBd _⟩
          · by_cases h2 : s.data.toList.take 2 = [13, 10]
            · have hso := soft_two h1 h2
              have HP := Lib.hid hso.1
              have HQ := Lib.hid hso.2.1
              have HT := Lib.hid hso.2.2.1
              have HE := Lib.hid hso.2.2.2
              clear hso h1 h2
              refine wp_loop_rounds 2 ?_
              rw [rounds_succ]
              go_wp2_with fail
              refine (cutLf _).mono ?_
              rintro e w' ⟨rfl, rfl⟩
              rw [HP.out]
              go_wp2_with fail
              rw [rounds_succ]
              go_wp2_with fail
              refine (cutCrlf _).mono ?_
              rintro e w' ⟨rfl, rfl⟩
              rw [HQ.out, HT.out]
              go_wp2
              go_ret
              rw [hn.out, HE.out, List.append_nil]
              exact ⟨rfl, hd.alloc _, hbd.alloc hBd _⟩
            · have hso := soft_none h1 h2
              have HP := Lib.hid hso.1
              have HQ := Lib.hid hso.2.1
              have HT := Lib.hid hso.2.2.1
              have HE := Lib.hid hso.2.2.2
              clear hso h1 h2
              refine wp_loop_rounds 3 ?_
              rw [rounds_succ]
              go_wp2_with fail
              refine (cutLf _).mono ?_
              rintro e w' ⟨rfl, rfl⟩
              rw [HP.out]
              go_wp2_with fail
              rw [rounds_succ]
              go_wp2_with fail
              refine (cutCrlf _).mono ?_
              rintro e w' ⟨rfl, rfl⟩
              rw [HQ.out]
              go_wp2_with fail
              rw [rounds_succ]
              go_wp2_with fail
              refine (Tryd.Builder_WriteByte_k B b _ _ _ (hd.alloc _) (by rw [Lib.byteCells_length]; omega) (Nat.le_trans hBd (Nat.le_of_lt (lt_alloc wc _)))).mono ?_
              rintro e w2 ⟨rfl, h2, hb2, _⟩
              go_wp2
              go_ret
              rw [hn.out, HE.out, HT.out]
              exact ⟨rfl, by rw [Kit.cells_snoc]; exact Or.inr h2, (hbd.alloc hBd _).trans hb2⟩
        | some b2 =>
          have b16 := hx_lt hb
          have hn : Hid (nextL s.data.toList = ([UInt8.ofNat (a * 16 + b2)], s.data.toList.drop 2)) := by
            show _ = _
            rw [hq, nextL_hex ha hb]
            rfl
          rw [hv_some ha, hv_some hb]
          have e1 := u8_or_low a b2 a16 b16
          have hby := Lib.hid (byte_of a16 b16)
          have g3 : (a : Int) * 16 + b2 ≤ 255 := by omega
          clear hq ha hb v0 v1
          go_wp2_with fail
          refine (Tryd.Builder_WriteByte_k B b _ _ _ hd (by rw [Lib.byteCells_length]; omega) hBd).mono ?_
          rintro e w2 ⟨rfl, h2, hb2, _⟩
          go_wp2
          go_ret
          rw [hn.out]
          rw [← hby.out, ← Kit.cells_snoc] at h2
          exact ⟨ret_bytes (ext_drop s 2), Or.inr h2, hbd.trans hb2⟩
end Go.Proofs.YtkmopneeafbeaaaDoor.Q4
namespace Go.Proofs.YtkmopneeafbeaaaDoor.Q4
open Go Go.RowKit Go.Joins Kit Srch

def lenV (v : Value) : Nat := match v with | .string t => t.size | _ => 0

set_option maxHeartbeats 1000000 in
set_option maxRecDepth 100000 in
theorem decode_any (s : ByteArray) (w : World) (hs : s.size ≤ 1099511627) (hE : Env w) :
    Calls Tryd.prog 30 #[.string s] w fun e w' => e = .returned (.string ⟨(plainL s.data.toList).toArray⟩) ∧ Below w.heap.size w w' := by
  go_enter Tryd.func30, Tryd.ntmps30
  go_wp2_with fail
  refine (Tryd.Builder_Grow_fresh w.heap.size w.heap.size s.size _ (Nat.le_refl _) (fresh_block w _ _) (by simp) (by omega)).mono ?_
  rintro e w1 ⟨rfl, hI, hb1⟩
  have hb0 : Below w.heap.size w w1 := ((Below.refl _ w).alloc (Nat.le_refl _) _).trans hb1
  have hB0 : Lib.IsBuilderF 75 5 w.heap.size w.heap.size (Lib.byteCells []) w1 := Lib.IsBuilderF.of (Or.inr hI)
  clear hI hb1
  go_wp2_with fail
  go_loopw [0] (fun v wr => ∃ (t : ByteArray) (out : List UInt8), v = .string t ∧ out.length + t.size ≤ s.size ∧ Hid (out ++ plainL t.data.toList = plainL s.data.toList) ∧ Lib.IsBuilderF 75 5 w.heap.size w.heap.size (Lib.byteCells out) wr ∧ Below w.heap.size w wr) (fun v _ => lenV v)
  case atStart => exact ⟨s, [], rfl, by simp, rfl, hB0, hb0⟩
  case round =>
    clear hB0 hb0
    obtain ⟨t, out, rfl, hlen, hq, hB, hb⟩ := hrel
    go_wp2_with fail
    refine (cut_any 61 t wr (by omega) (hE.next hb)).mono ?_
    rintro e w2 ⟨hc, hb2, hw2⟩
    have hB2 : Lib.IsBuilderF 75 5 w.heap.size w.heap.size (Lib.byteCells out) w2 := Bld.same_heap hB hw2
    have hbb := hb.trans (hb2.mono hb.size)
    clear hB hb hb2 hw2
    rcases hc with ⟨rfl, hno⟩ | ⟨a, r, hl, hno, rfl⟩
    · have hend := Lib.hid (show out ++ t.data.toList = plainL s.data.toList by rw [← hq.out, plain_self hno])
      clear hno
      go_wp2_with fail
      refine (Tryd.Builder_WriteString_k w.heap.size w.heap.size _ t _ hB2 (by rw [Lib.byteCells_length]; omega) hbb.size).mono ?_
      rintro e w3 ⟨rfl, h3, hb3, _⟩
      rw [Bld.str_cells, hend.out] at h3
      replace hb3 := hbb.trans hb3
      go_wp2_with fail
      refine (Tryd.Builder_String_any_k w.heap.size w.heap.size _ _ (Or.inr h3) hb3.size).mono ?_
      rintro e w4 ⟨rfl, _, hb4, _⟩
      go_wp2
      go_ret
      exact ⟨rfl, hb3.trans hb4⟩
    · have hn := nextL_len r.data.toList
      have hz : t.size = a.size + 1 + r.size := by rw [Lib.size_eq, hl, List.length_append, List.length_cons, ← Lib.size_eq, ← Lib.size_eq]; omega
      rw [← Lib.size_eq] at hn
      have hnx := Lib.hid (show ((out ++ a.data.toList) ++ (nextL r.data.toList).1) ++ plainL (nextL r.data.toList).2 = plainL s.data.toList by rw [← hq.out, hl, plain_app hno, plain_eq, List.append_assoc, List.append_assoc])
      have hla : (out ++ a.data.toList).length ≤ 1099511627776 := by rw [List.length_append, ← Lib.size_eq]; omega
      have hlo : ((out ++ a.data.toList) ++ (nextL r.data.toList).1).length + (nextL r.data.toList).2.length ≤ s.size := by rw [List.length_append, List.length_append, ← Lib.size_eq]; omega
      clear hno hl
      go_wp2_with fail
      refine (Tryd.Builder_WriteString_k w.heap.size w.heap.size _ a _ hB2 (by rw [Lib.byteCells_length]; omega) hbb.size).mono ?_
      rintro e w3 ⟨rfl, h3, hb3, _⟩
      rw [Bld.str_cells] at h3
      replace hb3 := hbb.trans hb3
      go_wp2_with fail
      refine (next_any w.heap.size w.heap.size _ r w3 (Or.inr h3) (by omega) hb3.size).mono ?_
      rintro e w4 ⟨rfl, h4, hb4⟩
      replace hb4 := hb3.trans hb4
      go_wp2
      go_roundw
      case rel => exact ⟨_, _, rfl, hlo, hnx, h4, hb4⟩
      case measure => show (nextL r.data.toList).2.toArray.size < t.size; simp; omega
def plainB (s : ByteArray) : ByteArray := ⟨(plainL s.data.toList).toArray⟩
def quoB (s : ByteArray) : ByteArray := ⟨(quoL 0 s.data.toList).toArray⟩
theorem plainB_data (s : ByteArray) : (plainB s).data.toList = plainL s.data.toList := by simp [plainB]
theorem quoB_data (s : ByteArray) : (quoB s).data.toList = quoL 0 s.data.toList := by simp [quoB]
theorem dec_call (s : ByteArray) (w : World) (hs : s.size ≤ 1099511627) (hE : Env w) :
    Calls Tryd.prog 30 #[.string s] w fun e w' => e = .returned (.string (plainB s)) ∧ Below w.heap.size w w' := decode_any s w hs hE
end Go.Proofs.YtkmopneeafbeaaaDoor.Q4
namespace Go.Proofs.YtkmopneeafbeaaaDoor.Q4
open Go Go.RowKit Go.Joins Kit Srch

theorem hv_not {c : UInt8} (h : ¬ (48 ≤ c.toNat ∧ c.toNat ≤ 57) ∧ ¬ (97 ≤ c.toNat ∧ c.toNat ≤ 102) ∧ ¬ (65 ≤ c.toNat ∧ c.toNat ≤ 70)) : hv c = -1 := by
  apply hv_none
  unfold hx hxN
  rw [if_neg h.1, if_neg h.2.1, if_neg h.2.2]
theorem hv_d {c : UInt8} (h : 48 ≤ c.toNat ∧ c.toNat ≤ 57) : hv c = (c.toNat : Int) - 48 := by
  have e : hx c = some (c.toNat - 48) := by unfold hx hxN; rw [if_pos h]
  rw [hv_some e]
  omega
theorem hv_l {c : UInt8} (h : 97 ≤ c.toNat ∧ c.toNat ≤ 102) : hv c = (c.toNat : Int) - 87 := by
  have e : hx c = some (c.toNat - 87) := by unfold hx hxN; rw [if_neg (by omega), if_pos h]
  rw [hv_some e]
  omega
theorem hv_u {c : UInt8} (h : 65 ≤ c.toNat ∧ c.toNat ≤ 70) : hv c = (c.toNat : Int) - 55 := by
  have e : hx c = some (c.toNat - 55) := by unfold hx hxN; rw [if_neg (by omega), if_neg (by omega), if_pos h]
  rw [hv_some e]
  omega
theorem half_any (c : UInt8) (w : World) :
    Calls Tryd.prog 84 #[.int .u8 (c.toNat : Int)] w fun e w' => e = .returned (.int .i64 (hv c)) ∧ w = w' := by
  have hc := c.toNat_lt
  rcases (show c.toNat < 48 ∨ (48 ≤ c.toNat ∧ c.toNat ≤ 57) ∨ (57 < c.toNat ∧ c.toNat < 65) ∨ (65 ≤ c.toNat ∧ c.toNat ≤ 70) ∨ (70 < c.toNat ∧ c.toNat < 97) ∨ (97 ≤ c.toNat ∧ c.toNat ≤ 102) ∨ 102 < c.toNat by omega) with h | h | h | h | h | h | h
  · have hd := Lib.hid (hv_not (c := c) (by omega))
    have g0 : (c.toNat : Int) < 48 := by omega
    clear h
    go_enter Tryd.func84, Tryd.ntmps84
    go_wp2
    go_ret
    exact ⟨ret_int (by rw [hd.out] <;> omega), rfl⟩
  · have hd := Lib.hid (hv_d (c := c) (by omega))
    have g0 : 48 ≤ (c.toNat : Int) := by omega
    have g1 : (c.toNat : Int) ≤ 57 := by omega
    clear h
    go_enter Tryd.func84, Tryd.ntmps84
    go_wp2
    go_ret
    exact ⟨ret_int (by rw [hd.out] <;> omega), rfl⟩
  · have hd := Lib.hid (hv_not (c := c) (by omega))
    have g0 : 57 < (c.toNat : Int) := by omega
    have g1 : (c.toNat : Int) < 65 := by omega
    clear h
    go_enter Tryd.func84, Tryd.ntmps84
    go_wp2
    go_ret
    exact ⟨ret_int (by rw [hd.out] <;> omega), rfl⟩
  · have hd := Lib.hid (hv_u (c := c) (by omega))
    have g0 : 65 ≤ (c.toNat : Int) := by omega
    have g1 : (c.toNat : Int) ≤ 70 := by omega
    clear h
    go_enter Tryd.func84, Tryd.ntmps84
    go_wp2
    go_ret
    exact ⟨ret_int (by rw [hd.out] <;> omega), rfl⟩
  · have hd := Lib.hid (hv_not (c := c) (by omega))
    have g0 : 70 < (c.toNat : Int) := by omega
    have g1 : (c.toNat : Int) < 97 := by omega
    clear h
    go_enter Tryd.func84, Tryd.ntmps84
    go_wp2
    go_ret
    exact ⟨ret_int (by rw [hd.out] <;> omega), rfl⟩
  · have hd := Lib.hid (hv_l (c := c) (by omega))
    have g0 : 97 ≤ (c.toNat : Int) := by omega
    have g1 : (c.toNat : Int) ≤ 102 := by omega
    clear h
    go_enter Tryd.func84, Tryd.ntmps84
    go_wp2
    go_ret
    exact ⟨ret_int (by rw [hd.out] <;> omega), rfl⟩
  · have hd := Lib.hid (hv_not (c := c) (by omega))
    have g0 : 102 < (c.toNat : Int) := by omega
    clear h
    go_enter Tryd.func84, Tryd.ntmps84
    go_wp2
    go_ret
    exact ⟨ret_int (by rw [hd.out] <;> omega), rfl⟩

end Go.Proofs.YtkmopneeafbeaaaDoor.Q4
namespace Go.Proofs.YtkmopneeafbeaaaDoor.Q4
open Go Go.RowKit Go.Joins Kit Srch

theorem rhalf_some {c : UInt8} {v : Nat} (h : hx c = some v) (w : World) :
    Calls Tryd.prog 84 #[.int .u8 (c.toNat : Int)] w fun e w' => e = .returned (.int .i64 (v : Int)) ∧ w = w' := by
  have := half_any c w
  rwa [hv_some h] at this
theorem rhalf_none {c : UInt8} (h : hx c = none) (w : World) :
    Calls Tryd.prog 84 #[.int .u8 (c.toNat : Int)] w fun e w' => e = .returned (.int .i64 (-1)) ∧ w = w' := by
  have := half_any c w
  rwa [hv_none h] at this
theorem drop_at (s : ByteArray) (k : Nat) (h : k < s.size) : s.data.toList.drop k = s[k] :: s.data.toList.drop (k + 1) := by
  have hl : k < s.data.toList.length := by rw [← Lib.size_eq]; exact h
  rw [List.drop_eq_getElem_cons hl, byte_get s k h]
theorem plain_stay {r : List UInt8} (h : nextL r = ([61], r)) : plainL (61 :: r) = 61 :: plainL r := by rw [plain_eq, h]; rfl
theorem next_one {x : UInt8} (h : x ≠ 10) : nextL [x] = ([61], [x]) := by
  rw [nextL_short (by simp)]
  unfold soft
  rw [if_neg (by simpa using h), if_neg (by simp)]
theorem soft_no {x y : UInt8} {r : List UInt8} (h : x ≠ 10) (h2 : ¬ (x = 13 ∧ y = 10)) : soft (x :: y :: r) = ([61], x :: y :: r) := by
  unfold soft
  rw [if_neg (by simpa using h), if_neg]
  intro e
  simp only [List.take_succ_cons, List.take_zero, List.cons.injEq, and_true] at e
  exact h2 e
theorem next_no1 {x y : UInt8} {r : List UInt8} (hx : hx x = none) (h : x ≠ 10) (h2 : ¬ (x = 13 ∧ y = 10)) : nextL (x :: y :: r) = ([61], x :: y :: r) := by
  rw [nextL_no1 hx, soft_no h h2]
theorem next_no2 {x y : UInt8} {r : List UInt8} (hy : hx y = none) (h : x ≠ 10) (h2 : x ≠ 13) : nextL (x :: y :: r) = ([61], x :: y :: r) := by
  rw [nextL_no2 hy, soft_no h (fun e => h2 e.1)]
theorem hx_not {c : UInt8} {v : Nat} (h : hx c = some v) : c.toNat ≠ 10 ∧ c.toNat ≠ 13 := by
  constructor
  · intro e
    unfold hx at h
    rw [e] at h
    rw [show hxN 10 = none from by decide] at h
    cases h
  · intro e
    unfold hx at h
    rw [e] at h
    rw [show hxN 13 = none from by decide] at h
    cases h

set_option maxHeartbeats 4000000 in
set_option maxRecDepth 100000 in
theorem plain_any (s : ByteArray) (w : World) (hs : s.size ≤ 1099511627) :
    Calls Tryd.prog 52 #[.string s] w fun e w' => e = .returned (.string (plainB s)) ∧ Below w.heap.size w w' := by
  have hB0 : Buf w (.slice none 0 0) [] w := Buf.empty (Below.refl _ w)
  go_enter Tryd.func52, Tryd.ntmps52
  go_wp2_with fail
  go_loopw [3, 4] (fun v i wr => ∃ (k : Nat) (out : List UInt8), k ≤ s.size ∧ out.length ≤ k ∧ i = .int .i64 k ∧ Hid (out ++ plainL (s.data.toList.drop k) = plainL s.data.toList) ∧ Buf w v out wr) (fun _ i _ => s.size - (intOf i).toNat)
  case atStart => exact ⟨0, [], by omega, Nat.le_refl _, rfl, rfl, hB0⟩
  case round =>
    clear hB0
    obtain ⟨k, out, hk, hol, rfl, hq, hB⟩ := hrel
    by_cases hlt : k < s.size
    · have g1 : (k : Int) < s.size := by omega
      have hc0 := s[k].toNat_lt
      have hd0 := drop_at s k hlt
      by_cases h61 : s[k].toNat = 61
      · have hk61 : s[k] = 61 := UInt8.toNat.inj h61
        rcases (show s.size ≤ k + 1 ∨ (k + 1 < s.size ∧ s.size ≤ k + 2) ∨ k + 2 < s.size by omega) with hz | ⟨hz, hz2⟩ | hz
        · have hnx : Hid (out ++ s[k] :: plainL (s.data.toList.drop (k + 1)) = plainL s.data.toList) := by
            show _ = _
            rw [← hq.out, hd0, hk61, List.drop_of_length_le (by rw [← Lib.size_eq]; omega), plain_stay rfl]
          have f1 : ((s[k].toNat : Int) == 61) = true := by rw [beq_iff_eq]; omega
          have f2 : ¬ (k : Int) + 1 < s.size := by omega
          have f3 : ¬ (k : Int) + 2 < s.size := by omega
          clear hd0 h61 hk61
          go_wp2_with (at_builtin; refine Buf.app rfl _ _ rfl w _ _ _ hB _ [s[k]] 1 1 rfl rfl rfl rfl ?room ?_)
          case room => omega
          intro v2 w2 hB2
          obtain ⟨L, hL⟩ : ∃ L, out ++ [s[k]] = L := ⟨_, rfl⟩
          rw [hL] at hB2
          have hLl : L.length = out.length + 1 := by rw [← hL, List.length_append]; rfl
          have hnx2 := Lib.hid (show L ++ plainL (s.data.toList.drop (k + 1)) = plainL s.data.toList by rw [← hL, List.append_assoc]; exact hnx.out)
          clear hL
          go_wp2
          go_roundw
          case rel => exact ⟨k + 1, L, by omega, by omega, by go_num, hnx2, hB2⟩
          case measure => simp [intOf]; omega
        · have hc1 := s[k + 1].toNat_lt
          have hd1 := drop_at s (k + 1) hz
          have he2 : s.data.toList.drop (k + 1 + 1) = [] := List.drop_of_length_le (by rw [← Lib.size_eq]; omega)
          by_cases h10 : s[k + 1].toNat = 10
          · have hnx : Hid (out ++ plainL (s.data.toList.drop (k + 2)) = plainL s.data.toList) := by
              show _ = _
              rw [← hq.out, hd0, hk61, hd1, show s[k + 1] = 10 from UInt8.toNat.inj h10, plain_lf]
            have f1 : ((s[k].toNat : Int) == 61) = true := by rw [beq_iff_eq]; omega
            have f2 : (k : Int) + 1 < s.size := by omega
            have f3 : ¬ (k : Int) + 2 < s.size := by omega
            have f4 : ((s[k + 1].toNat : Int) == 10) = true := by rw [beq_iff_eq]; omega
            clear hd0 hd1 h61 hk61 h10 he2
            go_wp2
            go_roundw
            case rel => exact ⟨k + 2, out, by omega, by omega, by go_num, hnx, hB⟩
            case measure => simp [intOf]; omega
          · have hnx : Hid (out ++ s[k] :: plainL (s.data.toList.drop (k + 1)) = plainL s.data.toList) := by
              show _ = _
              rw [← hq.out, hd0, hk61, hd1, he2, plain_stay (next_one (fun e => h10 (by rw [e]; rfl)))]
            have f1 : ((s[k].toNat : Int) == 61) = true := by rw [beq_iff_eq]; omega
            have f2 : (k : Int) + 1 < s.size := by omega
            have f3 : ¬ (k : Int) + 2 < s.size := by omega
            have f4 : ((s[k + 1].toNat : Int) == 10) = false := by rw [beq_eq_false_iff_ne]; omega
            clear hd0 hd1 h61 hk61 h10 he2
            go_wp2_with (at_builtin; refine Buf.app rfl _ _ rfl w _ _ _ hB _ [s[k]] 1 1 rfl rfl rfl rfl ?room ?_)
            case room => omega
            intro v2 w2 hB2
            obtain ⟨L, hL⟩ : ∃ L, out ++ [s[k]] = L := ⟨_, rfl⟩
            rw [hL] at hB2
            have hLl : L.length = out.length + 1 := by rw [← hL, List.length_append]; rfl
            have hnx2 := Lib.hid (show L ++ plainL (s.data.toList.drop (k + 1)) = plainL s.data.toList by rw [← hL, List.append_assoc]; exact hnx.out)
            clear hL
            go_wp2
            go_roundw
            case rel => exact ⟨k + 1, L, by omega, by omega, by go_num, hnx2, hB2⟩
            case measure => simp [intOf]; omega
        · have hz1 : k + 1 < s.size := by omega
          have hc1 := s[k + 1].toNat_lt
          have hc2 := s[k + 2].toNat_lt
          have hd1 := drop_at s (k + 1) hz1
          have hd2 := drop_at s (k + 2) hz
          have y1 : (k : Int) + 1 < s.size := by omega
          have y2 : (k : Int) + 2 < s.size := by omega
          cases hx1 : hx s[k + 1] with
          | none =>
            have HV1 := Lib.hid hx1
            by_cases h10 : s[k + 1].toNat = 10
            · have hnx : Hid (out ++ plainL (s.data.toList.drop (k + 2)) = plainL s.data.toList) := by
                show _ = _
                rw [← hq.out, hd0, hk61, hd1, show s[k + 1] = 10 from UInt8.toNat.inj h10, plain_lf]
              have f1 : ((s[k].toNat : Int) == 61) = true := by rw [beq_iff_eq]; omega
              have Z := Lib.hid h10
              clear hd0 hd1 hd2 h61 hk61 h10 hx1
              go_wp2_with fail
              refine (rhalf_none HV1.out _).mono ?_
              rintro e w' ⟨rfl, rfl⟩
              have f9 : ((s[k + 1].toNat : Int) == 10) = true := by rw [beq_iff_eq, Z.out]; rfl
              go_wp2
              go_roundw
              case rel => exact ⟨k + 2, out, by omega, by omega, by go_num, hnx, hB⟩
              case measure => simp [intOf]; omega
            · by_cases h13 : s[k + 1].toNat = 13 ∧ s[k + 2].toNat = 10
              · have hnx : Hid (out ++ plainL (s.data.toList.drop (k + 3)) = plainL s.data.toList) := by
                  show _ = _
                  rw [← hq.out, hd0, hk61, hd1, hd2, show s[k + 1] = 13 from UInt8.toNat.inj h13.1, show s[k + 2] = 10 from UInt8.toNat.inj h13.2, plain_crlf]
                have f1 : ((s[k].toNat : Int) == 61) = true := by rw [beq_iff_eq]; omega
                have Z := Lib.hid h13
                clear hd0 hd1 hd2 h61 hk61 h10 h13 hx1
                go_wp2_with fail
                refine (rhalf_none HV1.out _).mono ?_
                rintro e w' ⟨rfl, rfl⟩
                have f9 : ((s[k + 1].toNat : Int) == 10) = false := by rw [Z.out.1]; rfl
                have f8 : ((s[k + 1].toNat : Int) == 13) = true := by rw [beq_iff_eq, Z.out.1]; rfl
                have f7 : ((s[k + 2].toNat : Int) == 10) = true := by rw [beq_iff_eq, Z.out.2]; rfl
                go_wp2
                go_roundw
                case rel => exact ⟨k + 3, out, by omega, by omega, by go_num, hnx, hB⟩
                case measure => simp [intOf]; omega
              · have hnx : Hid (out ++ s[k] :: plainL (s.data.toList.drop (k + 1)) = plainL s.data.toList) := by
                  show _ = _
                  rw [← hq.out, hd0, hk61, hd1, hd2, plain_stay (next_no1 hx1 (fun e => h10 (by rw [e]; rfl)) (fun e => h13 ⟨by rw [e.1]; rfl, by rw [e.2]; rfl⟩))]
                by_cases h13a : s[k + 1].toNat = 13
                · have f1 : ((s[k].toNat : Int) == 61) = true := by rw [beq_iff_eq]; omega
                  have f2 : ((s[k + 2].toNat : Int) == 10) = false := by rw [beq_eq_false_iff_ne]; omega
                  have Z := Lib.hid h13a
                  clear hd0 hd1 hd2 h61 hk61 h10 h13 hx1 h13a
                  go_wp2_with fail
                  refine (rhalf_none HV1.out _).mono ?_
                  rintro e w' ⟨rfl, rfl⟩
                  have f9 : ((s[k + 1].toNat : Int) == 10) = false := by rw [Z.out]; rfl
                  have f8 : ((s[k + 1].toNat : Int) == 13) = true := by rw [beq_iff_eq, Z.out]; rfl
                  go_wp2_with (at_builtin; refine Buf.app rfl _ _ rfl w _ _ _ hB _ [s[k]] 1 1 rfl rfl rfl rfl ?room ?_)
                  case room => omega
                  intro v2 w2 hB2
                  obtain ⟨L, hL⟩ : ∃ L, out ++ [s[k]] = L := ⟨_, rfl⟩
                  rw [hL] at hB2
                  have hLl : L.length = out.length + 1 := by rw [← hL, List.length_append]; rfl
                  have hnx2 := Lib.hid (show L ++ plainL (s.data.toList.drop (k + 1)) = plainL s.data.toList by rw [← hL, List.append_assoc]; exact hnx.out)
                  clear hL
                  go_wp2
                  go_roundw
                  case rel => exact ⟨k + 1, L, by omega, by omega, by go_num, hnx2, hB2⟩
                  case measure => simp [intOf]; omega
                · have f1 : ((s[k].toNat : Int) == 61) = true := by rw [beq_iff_eq]; omega
                  have f2 : ((s[k + 1].toNat : Int) == 10) = false := by rw [beq_eq_false_iff_ne]; omega
                  have f3 : ((s[k + 1].toNat : Int) == 13) = false := by rw [beq_eq_false_iff_ne]; omega
                  clear hd0 hd1 hd2 h61 hk61 h10 h13 hx1 h13a
                  go_wp2_with fail
                  refine (rhalf_none HV1.out _).mono ?_
                  rintro e w' ⟨rfl, rfl⟩
                  go_wp2_with (at_builtin; refine Buf.app rfl _ _ rfl w _ _ _ hB _ [s[k]] 1 1 rfl rfl rfl rfl ?room ?_)
                  case room => omega
                  intro v2 w2 hB2
                  obtain ⟨L, hL⟩ : ∃ L, out ++ [s[k]] = L := ⟨_, rfl⟩
                  rw [hL] at hB2
                  have hLl : L.length = out.length + 1 := by rw [← hL, List.length_append]; rfl
                  have hnx2 := Lib.hid (show L ++ plainL (s.data.toList.drop (k + 1)) = plainL s.data.toList by rw [← hL, List.append_assoc]; exact hnx.out)
                  clear hL
                  go_wp2
                  go_roundw
                  case rel => exact ⟨k + 1, L, by omega, by omega, by go_num, hnx2, hB2⟩
                  case measure => simp [intOf]; omega
          | some a =>
            have HV1 := Lib.hid hx1
            have a16 := hx_lt hx1
            cases hx2 : hx s[k + 2] with
            | none =>
              have HV2 := Lib.hid hx2
              have hnt := hx_not hx1
              have hnx : Hid (out ++ s[k] :: plainL (s.data.toList.drop (k + 1)) = plainL s.data.toList) := by
                show _ = _
                rw [← hq.out, hd0, hk61, hd1, hd2, plain_stay (next_no2 hx2 (fun e => hnt.1 (by rw [e]; rfl)) (fun e => hnt.2 (by rw [e]; rfl)))]
              have f1 : ((s[k].toNat : Int) == 61) = true := by rw [beq_iff_eq]; omega
              have f2 : ((s[k + 1].toNat : Int) == 10) = false := by rw [beq_eq_false_iff_ne]; omega
              have f3 : ((s[k + 1].toNat : Int) == 13) = false := by rw [beq_eq_false_iff_ne]; omega
              clear hd0 hd1 hd2 h61 hk61 hx1 hx2 hnt
              go_wp2_with fail
              refine (rhalf_some HV1.out _).mono ?_
              rintro e w' ⟨rfl, rfl⟩
              go_wp2_with fail
              refine (rhalf_none HV2.out _).mono ?_
              rintro e w' ⟨rfl, rfl⟩
              go_wp2_with (at_builtin; refine Buf.app rfl _ _ rfl w _ _ _ hB _ [s[k]] 1 1 rfl rfl rfl rfl ?room ?_)
              case room => omega
              intro v2 w2 hB2
              obtain ⟨L, hL⟩ : ∃ L, out ++ [s[k]] = L := ⟨_, rfl⟩
              rw [hL] at hB2
              have hLl : L.length = out.length + 1 := by rw [← hL, List.length_append]; rfl
              have hnx2 := Lib.hid (show L ++ plainL (s.data.toList.drop (k + 1)) = plainL s.data.toList by rw [← hL, List.append_assoc]; exact hnx.out)
              clear hL
              go_wp2
              go_roundw
              case rel => exact ⟨k + 1, L, by omega, by omega, by go_num, hnx2, hB2⟩
              case measure => simp [intOf]; omega
            | some b =>
              have HV2 := Lib.hid hx2
              have b16 := hx_lt hx2
              have hnx : Hid ((out ++ [UInt8.ofNat (a * 16 + b)]) ++ plainL (s.data.toList.drop (k + 3)) = plainL s.data.toList) := by
                show _ = _
                rw [← hq.out, hd0, hk61, hd1, hd2, plain_hex hx1 hx2, List.append_assoc]
                rfl
              have f1 : ((s[k].toNat : Int) == 61) = true := by rw [beq_iff_eq]; omega
              clear hd0 hd1 hd2 h61 hk61 hx1 hx2
              go_wp2_with fail
              refine (rhalf_some HV1.out _).mono ?_
              rintro e w' ⟨rfl, rfl⟩
              go_wp2_with fail
              refine (rhalf_some HV2.out _).mono ?_
              rintro e w' ⟨rfl, rfl⟩
              have n1 : IntKind.i64.wrap ((k : Int) + 1) = (k : Int) + 1 := IntWalk.i64_in _ (by omega)
              have n2 : IntKind.i64.wrap ((k : Int) + 2) = (k : Int) + 2 := IntWalk.i64_in _ (by omega)
              have n3 : IntKind.i64.wrap (16 * (a : Int)) = 16 * (a : Int) := IntWalk.i64_in _ (by omega)
              have n4 : IntKind.i64.wrap (16 * (a : Int) + b) = 16 * (a : Int) + b := IntWalk.i64_in _ (by omega)
              have n5 : IntKind.u8.wrap (16 * (a : Int) + b) = 16 * (a : Int) + b := IntWalk.u8_in _ (by omega)
              have n6 : 0 ≤ (k : Int) + 1 := by omega
              have n7 : 0 ≤ (k : Int) + 2 := by omega
              have n8 : ((k : Int) + 1).toNat = k + 1 := by omega
              have n9 : ((k : Int) + 2).toNat = k + 2 := by omega
              go_wp2_with fail
              refine wp_region_any (by kernel_rfl) ?_
              try (change wpAny _ _ _ _ _ _ _ (World.drew _))
              refine wpAny_take (i := 0) (v := ?_) rfl (by kernel_rfl) (by kernel_rfl) (by kernel_rfl) (fun _ _ _ h => h) (Or.inl ⟨by rfl, ?_⟩) ?_
              rotate_left 1
              · (intro w; go_simp) <;> with_reducible rfl
              refine wpAny_take (i := 1) (v := ?_) rfl (by kernel_rfl) (by kernel_rfl) (by kernel_rfl) (fun _ _ _ h => h) (Or.inl ⟨by rfl, ?_⟩) ?_
              rotate_left 1
              · (intro w; go_simp) <;> with_reducible rfl
              refine wpAny_take (i := 2) (v := ?_) rfl (by kernel_rfl) (by kernel_rfl) (by kernel_rfl) (fun _ _ _ h => h) (Or.inl ⟨by rfl, ?_⟩) ?_
              rotate_left 1
              · (intro w; go_simp) <;> with_reducible rfl
              refine wpAny_take (i := 3) (v := ?_) rfl (by kernel_rfl) (by kernel_rfl) (by kernel_rfl) (fun _ _ _ h => h) (Or.inl ⟨by rfl, ?_⟩) ?_
              rotate_left 1
              · (intro w; go_simp) <;> with_reducible rfl
              refine wpAny_take (i := 4) (v := ?_) rfl (by kernel_rfl) (by kernel_rfl) (by kernel_rfl) (fun _ _ _ h => h) (Or.inl ⟨by rfl, ?_⟩) ?_
              rotate_left 1
              · (intro w; go_simp) <;> with_reducible rfl
              refine wpAny_take (i := 7) (v := ?_) rfl (by kernel_rfl) (by kernel_rfl) (by kernel_rfl) (fun _ _ _ h => h) (Or.inl ⟨by rfl, ?_⟩) ?_
              rotate_left 1
              · (intro w; go_simp) <;> with_reducible rfl
              refine wpAny_take (i := 8) (v := ?_) rfl (by kernel_rfl) (by kernel_rfl) (by kernel_rfl) (fun _ _ _ h => h) (Or.inl ⟨by rfl, ?_⟩) ?_
              rotate_left 1
              · (intro w; go_simp) <;> with_reducible rfl
              refine wpAny_take (i := 9) (v := ?_) rfl (by kernel_rfl) (by kernel_rfl) (by kernel_rfl) (fun _ _ _ h => h) (Or.inl ⟨by rfl, ?_⟩) ?_
              rotate_left 1
              · (intro w; go_simp) <;> with_reducible rfl
              refine wpAny_take (i := 10) (v := ?_) rfl (by kernel_rfl) (by kernel_rfl) (by kernel_rfl) (fun _ _ _ h => h) (Or.inl ⟨by rfl, ?_⟩) ?_
              rotate_left 1
              · (intro w; go_simp) <;> with_reducible rfl
              refine wpAny_ready (rs := [5]) (by kernel_rfl) (by simp) ?_
              refine AllReady.cons rfl (fun K hK => ?_) AllReady.nil
              go_simp
              go_wp2_with fail
              refine (rhalf_some HV1.out _).mono ?_
              rintro e w' ⟨rfl, rfl⟩
              go_wp2_with fail
              refine wpAny_take (i := 6) (v := ?_) rfl (by kernel_rfl) (by kernel_rfl) (by kernel_rfl) (fun _ _ _ h => h) (Or.inl ⟨by rfl, ?_⟩) ?_
              rotate_left 1
              · (intro w; go_simp) <;> with_reducible rfl
              refine wpAny_ready (rs := [11]) (by kernel_rfl) (by simp) ?_
              refine AllReady.cons rfl (fun K hK => ?_) AllReady.nil
              go_simp
              go_wp2_with fail
              refine (rhalf_some HV2.out _).mono ?_
              rintro e w' ⟨rfl, rfl⟩
              go_wp2_with fail
              refine wpAny_take (i := 12) (v := ?_) rfl (by kernel_rfl) (by kernel_rfl) (by kernel_rfl) (fun _ _ _ h => h) (Or.inl ⟨by rfl, ?_⟩) ?_
              rotate_left 1
              · (intro w; go_simp) <;> with_reducible rfl
              refine wpAny_take (i := 13) (v := ?_) rfl (by kernel_rfl) (by kernel_rfl) (by kernel_rfl) (fun _ _ _ h => h) (Or.inl ⟨by rfl, ?_⟩) ?_
              rotate_left 1
              · (intro w; go_simp) <;> with_reducible rfl
              refine wpAny_ready (rs := [14]) (by kernel_rfl) (by simp) ?_
              refine AllReady.cons rfl (fun K hK => ?_) AllReady.nil
              go_simp
              refine hK _ _ ?_
              clear hK K
              refine wpAny_ready (rs := [15]) (by kernel_rfl) (by simp) ?_
              refine AllReady.cons rfl (fun K hK => ?_) AllReady.nil
              refine Buf.step rfl (.tmp 45) (.tmp 59) rfl w _ _ out (hB.allocB _).drewB [UInt8.ofNat (a * 16 + b)] 1 1 wr.heap.size _ (0, 0) rfl (by decide) ?_ (Kit.fresh_block wr _ _) (by first | rfl | simp [Act.eval, Act.put]) (by first | rfl | simp [Act.eval, Act.put]) ?_ ?_
              · show [Value.int .u8 _] = [Value.int .u8 ((UInt8.ofNat (a * 16 + b)).toNat : Int)]
                rw [byte_of a16 b16]
                exact congrArg (fun x => [Value.int .u8 x]) (by omega)
              · omega
              intro g3 c3 w3 hB3 _ _ hbb
              refine hK _ _ ?_
              clear hK K
              refine wpAny_take (i := 16) (v := ?_) rfl (by kernel_rfl) (by kernel_rfl) (by kernel_rfl) (fun _ _ _ h => h) (Or.inl ⟨by rfl, ?_⟩) ?_
              rotate_left 1
              · (intro w; go_simp) <;> with_reducible rfl
              refine wpAny_done (by kernel_rfl) ?_ _
              go_wp2
              go_roundw
              case rel => exact ⟨k + 3, _, by omega, by rw [List.length_append]; show out.length + 1 ≤ _; omega, by go_num, hnx, hB3⟩
              case measure => simp [intOf]; omega
      · have hnx : Hid (out ++ s[k] :: plainL (s.data.toList.drop (k + 1)) = plainL s.data.toList) := by
          show _ = _
          rw [← hq.out, hd0, plain_ne (fun e => h61 (by rw [e]; rfl))]
        have f1 : ((s[k].toNat : Int) == 61) = false := by rw [beq_eq_false_iff_ne]; omega
        clear hd0 h61
        go_wp2_with (at_builtin; refine Buf.app rfl _ _ rfl w _ _ _ hB _ [s[k]] 1 1 rfl rfl rfl rfl ?room ?_)
        case room => omega
        intro v2 w2 hB2
        obtain ⟨L, hL⟩ : ∃ L, out ++ [s[k]] = L := ⟨_, rfl⟩
        rw [hL] at hB2
        have hLl : L.length = out.length + 1 := by rw [← hL, List.length_append]; rfl
        have hnx2 := Lib.hid (show L ++ plainL (s.data.toList.drop (k + 1)) = plainL s.data.toList by rw [← hL, List.append_assoc]; exact hnx.out)
        clear hL
        go_wp2
        go_roundw
        case rel => exact ⟨k + 1, L, by omega, by omega, by go_num, hnx2, hB2⟩
        case measure => simp [intOf]; omega
    · have hend := Lib.hid (show out = (plainB s).data.toList by rw [plainB_data, ← hq.out, List.drop_of_length_le (by rw [← Lib.size_eq]; omega), plain_nil, List.append_nil])
      have g1 : ¬ (k : Int) < s.size := by omega
      have hb := hB.below
      have hrun := hB.string
      clear hB
      go_wp2
      go_ret
      exact ⟨ret_string (Kit.bytes_ext (by rw [← hend.out])), hb⟩
end Go.Proofs.YtkmopneeafbeaaaDoor.Q4
namespace Go.Proofs.YtkmopneeafbeaaaDoor.B6
open Go Go.RowKit Go.Joins Kit

/-- The bound of the library's search is some number, in this world and in every one that keeps what was there. -/
structure Env (w : World) : Prop where
  max : ∀ w', Below w.heap.size w w' → ∃ m : Int, w'.cell? ⟨0, 0, none⟩ = some (.int .i64 m)
theorem Env.next {w w1 : World} (h : Env w) (hb : Below w.heap.size w w1) : Env w1 where
  max := fun w' hb' => h.max w' (hb.trans (hb'.mono hb.size))
theorem max_cell {W : World} (h : W.ShapedOpen Tryd.prog) : ∃ m : Int, W.cell? ⟨0, 0, none⟩ = some (.int .i64 m) :=
  Go.Proofs.cell_of_shapedOpen_int (zero := #[.int .i64 0]) (t := 3) h (of_decide_eq_true (by kernel_rfl)) (by kernel_rfl) rfl (by kernel_rfl) (by kernel_rfl) Tryd.underlying3
theorem env_of {W : World} (h : W.ShapedOpen Tryd.prog) : Env W := by
  obtain ⟨m, hm⟩ := max_cell h
  exact { max := fun w' hb => ⟨m, by rw [hb.cell (p := ⟨0, 0, none⟩) (cell_lt hm)]; exact hm⟩ }
/-! ### The library's calls -/
theorem ahead_index : ∀ (l : List UInt8), (if 0 ≤ Lib.indexByte l 61 then l.take (Lib.indexByte l 61).toNat else l) = ahead l
  | [] => by simp [ahead]
  | c :: r => by
    have ih := ahead_index r
    have hge := Lib.indexByte_ge r 61
    unfold ahead at ih ⊢
    by_cases h : c = 61
    · subst h
      have e : Lib.indexByte (61 :: r) 61 = 0 := by rw [Lib.indexByte]; simp
      rw [e]
      simp
    · rw [List.takeWhile_cons_of_pos (by simpa using h), ← ih]
      by_cases hr : Lib.indexByte r 61 = -1
      · have e : Lib.indexByte (c :: r) 61 = -1 := by rw [Lib.indexByte, hr]; simp [h]
        rw [e, hr]
        simp
      · have e : Lib.indexByte (c :: r) 61 = Lib.indexByte r 61 + 1 := by rw [Lib.indexByte]; simp [h, hr]
        rw [e, if_pos (by omega), if_pos (by omega), show (Lib.indexByte r 61 + 1).toNat = (Lib.indexByte r 61).toNat + 1 by omega]
        rfl
theorem cut_ahead (l : List UInt8) : (Lib.cut l [61]).1 = ahead l := by
  unfold Lib.cut
  rw [Lib.index_one, ← ahead_index]
  split <;> rfl
theorem cut_any (s : ByteArray) (w : World) (hs : s.size < 4294967281) (hE : Env w) :
    Calls Tryd.prog 19 #[.string s, .string ⟨#[61]⟩] w fun e w' => ∃ y b, e = .returned (.tuple #[.string (aheadB s), .string y, .bool b]) ∧ Below w.heap.size w w' := by
  obtain ⟨m, hm⟩ := hE.max w (Below.refl _ _)
  refine (Tryd.strings_Cut s ⟨#[61]⟩ m w hs hm).mono ?_
  rintro e w' ⟨rfl, n, rfl⟩
  rw [show (ByteArray.mk #[61]).data.toList = [61] from rfl, cut_ahead]
  exact ⟨_, _, rfl, below_drewN (Below.refl _ _) n⟩
theorem idx_byte (c : UInt8) (w : World) :
    Calls Tryd.prog 54 #[.string ⟨#[65, 66, 67, 68, 69, 70, 71, 72, 73, 74, 75, 76, 77, 78, 79, 80, 81, 82, 83, 84, 85, 86, 87, 88, 89, 90, 97, 98, 99, 100, 101, 102, 103, 104, 105, 106, 107, 108, 109, 110, 111, 112, 113, 114, 115, 116, 117, 118, 119, 120, 121, 122, 48, 49, 50, 51, 52, 53, 54, 55, 56, 57, 43, 47]⟩, .int .u8 (c.toNat : Int)] w fun e w' => e = .returned (.int .i64 (Lib.indexByte alphaL c)) ∧ w = w' := by
  refine (Tryd.strings_IndexByte _ _ w).mono ?_
  rintro e w' ⟨rfl, rfl⟩
  refine ⟨?_, rfl⟩
  rw [show ((c.toNat : Int).toNat.toUInt8) = c by simp]
  rfl
theorem idx_none {c : UInt8} (h : val c = none) (w : World) :
    Calls Tryd.prog 54 #[.string ⟨#[65, 66, 67, 68, 69, 70, 71, 72, 73, 74, 75, 76, 77, 78, 79, 80, 81, 82, 83, 84, 85, 86, 87, 88, 89, 90, 97, 98, 99, 100, 101, 102, 103, 104, 105, 106, 107, 108, 109, 110, 111, 112, 113, 114, 115, 116, 117, 118, 119, 120, 121, 122, 48, 49, 50, 51, 52, 53, 54, 55, 56, 57, 43, 47]⟩, .int .u8 (c.toNat : Int)] w fun e w' => e = .returned (.int .i64 (-1)) ∧ w = w' := by
  have := idx_byte c w
  rwa [val_none h] at this
theorem idx_some {c : UInt8} {v : Nat} (h : val c = some v) (w : World) :
    Calls Tryd.prog 54 #[.string ⟨#[65, 66, 67, 68, 69, 70, 71, 72, 73, 74, 75, 76, 77, 78, 79, 80, 81, 82, 83, 84, 85, 86, 87, 88, 89, 90, 97, 98, 99, 100, 101, 102, 103, 104, 105, 106, 107, 108, 109, 110, 111, 112, 113, 114, 115, 116, 117, 118, 119, 120, 121, 122, 48, 49, 50, 51, 52, 53, 54, 55, 56, 57, 43, 47]⟩, .int .u8 (c.toNat : Int)] w fun e w' => e = .returned (.int .i64 (v : Int)) ∧ w = w' := by
  have := idx_byte c w
  rwa [val_some h] at this
set_option maxHeartbeats 2000000 in
set_option maxRecDepth 100000 in
theorem loose_any (s : ByteArray) (w : World) (hs : s.size ≤ 1099511627) (hE : Env w) :
    Calls Tryd.prog 29 #[.string s] w fun e w' => e = .returned (.string ⟨(looseL s.data.toList).toArray⟩) ∧ Below w.heap.size w w' := by
  go_enter Tryd.func29, Tryd.ntmps29
  go_wp2_with fail
  refine (cut_any s w (by omega) hE).mono ?_
  rintro e w0 ⟨y, b, rfl, hb0⟩
  have hst : Hid (runH 0 0 (vals (aheadB s).data.toList) = looseL s.data.toList) := by
    show _ = _
    rw [aheadB_data, runH_unsix _ (vals_lt _)]
    rfl
  have hts := aheadB_size s
  generalize aheadB s = t at hst hts ⊢
  go_wp2_with fail
  refine (Tryd.Builder_Grow_fresh w0.heap.size w0.heap.size (t.size / 4 * 3 + 2) _ (Nat.le_refl _) (fresh_block w0 _ _) (by simp) (by omega)).mono ?_
  rintro e w1 ⟨rfl, hI, hb1⟩
  have hb1' : Below w.heap.size w w1 := hb0.trans ((((Below.refl _ w0).alloc (Nat.le_refl _) _).trans hb1).mono hb0.size)
  have hsz0 : w0.heap.size ≤ w1.heap.size := (((Below.refl _ w0).alloc (Nat.le_refl _) _).trans hb1).size
  have hI0 : Lib.IsBuilder 75 5 w0.heap.size w0.heap.size (Lib.byteCells []) w1 := Or.inr hI
  have hle : w.heap.size ≤ w0.heap.size := hb0.size
  clear hI hb0 hb1
  generalize w0.heap.size = b0 at hI0 hsz0 hle ⊢
  go_wp2_with fail
  go_loopw [4, 5, 22] (fun v h i wr => ∃ (k B hv : Nat) (out : List UInt8), k ≤ t.size ∧ out.length ≤ k ∧ i = .int .i64 k ∧ v = .int .i64 B ∧ h = .int .i64 hv ∧ (hv = 0 ∨ hv = 2 ∨ hv = 4 ∨ hv = 6) ∧ Hid (B < 2 ^ hv) ∧ Hid (out ++ runH B hv (vals (t.data.toList.drop k)) = looseL s.data.toList) ∧ Lib.IsBuilder 75 5 b0 b0 (Lib.byteCells out) wr ∧ b0 ≤ wr.heap.size ∧ Below w.heap.size w wr) (fun _ _ i _ => t.size - (intOf i).toNat)
  case atStart => exact ⟨0, 0, 0, [], Nat.zero_le _, Nat.le_refl _, rfl, rfl, rfl, Or.inl rfl, (by show _ < _; decide), hst, hI0, hsz0, hb1'⟩
  case round =>
    clear hI0 hsz0 hb1' hst
    obtain ⟨k, B, hv, out, hk, hlo, rfl, rfl, rfl, hh, hB, hr, hI, hsz, hb⟩ := hrel
    have hlo' : (Lib.byteCells out).length + 1 ≤ 140737488355328 := by rw [Lib.byteCells_length]; omega
    by_cases hlt : k < t.size
    · have hdr := vals_drop t k hlt
      cases hvv : val t[k] with
      | none =>
        have hnx : Hid (out ++ runH B hv (vals (t.data.toList.drop (k + 1))) = looseL s.data.toList) := by
          show _ = _
          rw [← hr.out, hdr, hvv]
        have HV := Lib.hid hvv
        clear hvv hdr
        go_wp2_with fail
        refine (idx_none HV.out wr).mono ?_
        rintro e w2 ⟨rfl, rfl⟩
        go_wp2
        go_roundw
        case rel => exact ⟨k + 1, B, hv, out, by omega, by omega, by go_num, rfl, rfl, hh, hB, hnx, hI, hsz, hb⟩
        case measure => simp [intOf]; omega
      | some v =>
        have hv64 := val_lt hvv
        have HV := Lib.hid hvv
        have HST : Hid (vals (t.data.toList.drop k) = v :: vals (t.data.toList.drop (k + 1))) := by show _ = _; rw [hdr, hvv]
        clear hvv hdr
        rcases hh with rfl | rfl | rfl | rfl
        · have gB : B ≤ 0 := by have := hB.out; simp at this; omega
          have e1 := or6 (B * 64 : Int) v (by omega) (by omega) (by omega) (by omega) (by omega)
          have hnx : Hid (out ++ runH (B * 64 + v) 6 (vals (t.data.toList.drop (k + 1))) = looseL s.data.toList) := by show _ = _; rw [← hr.out, HST.out, runH_first]
          go_wp2_with fail
          refine (idx_some HV.out wr).mono ?_
          rintro e w2 ⟨rfl, rfl⟩
          go_wp2
          go_roundw
          case rel => exact ⟨k + 1, B * 64 + v, 6, out, by omega, by omega, by go_num, by go_num, rfl, by omega, by show _ < _; simp; omega, hnx, hI, hsz, hb⟩
          case measure => simp [intOf]; omega
        · have gB : B ≤ 3 := by have := hB.out; simp at this; omega
          have e1 := or6 (B * 64 : Int) v (by omega) (by omega) (by omega) (by omega) (by omega)
          have e2 := and0 ((B : Int) * 64 + v) (by omega) (by omega)
          have g3 : 0 ≤ (B : Int) * 64 + v := by omega
          have g4 : (B : Int) * 64 + v ≤ 255 := by omega
          have hnx : Hid ((out ++ [UInt8.ofNat (B * 64 + v)]) ++ runH (0) 0 (vals (t.data.toList.drop (k + 1))) = looseL s.data.toList) := by show _ = _; rw [← hr.out, HST.out, runH_two, List.append_assoc]; rfl
          have hcs : Hid (Lib.byteCells (out ++ [UInt8.ofNat (B * 64 + v)]) = Lib.byteCells out ++ [.int .u8 ((B : Int) * 64 + v)]) := by
            show _ = _
            rw [cells_snoc, ofNat_nat (by omega)]
            congr 1
          go_wp2_with fail
          refine (idx_some HV.out wr).mono ?_
          rintro e w2 ⟨rfl, rfl⟩
          go_wp2_with fail
          refine (Tryd.Builder_WriteByte b0 b0 _ _ _ hI hlo' hsz).mono ?_
          rintro e w2 ⟨rfl, h2, hb2⟩
          rw [← hcs.out] at h2
          go_wp2
          go_roundw
          case rel => exact ⟨k + 1, 0, 0, out ++ [UInt8.ofNat (B * 64 + v)], by omega, by rw [List.length_append]; simp; omega, by go_num, by go_num, rfl, by omega, by show _ < _; decide, hnx, Or.inr h2, Nat.le_trans hsz hb2.size, hb.trans (hb2.mono hle)⟩
          case measure => simp [intOf]; omega
        · have gB : B ≤ 15 := by have := hB.out; simp at this; omega
          have e1 := or6 (B * 64 : Int) v (by omega) (by omega) (by omega) (by omega) (by omega)
          have e2 := and3 ((B : Int) * 64 + v) (by omega) (by omega)
          have g3 : 0 ≤ ((B : Int) * 64 + v) / 4 := by omega
          have g4 : ((B : Int) * 64 + v) / 4 ≤ 255 := by omega
          have hnx : Hid ((out ++ [UInt8.ofNat ((B * 64 + v) / 4)]) ++ runH ((B * 64 + v) % 4) 2 (vals (t.data.toList.drop (k + 1))) = looseL s.data.toList) := by show _ = _; rw [← hr.out, HST.out, runH_four, List.append_assoc]; rfl
          have hcs : Hid (Lib.byteCells (out ++ [UInt8.ofNat ((B * 64 + v) / 4)]) = Lib.byteCells out ++ [.int .u8 (((B : Int) * 64 + v) / 4)]) := by
            show _ = _
            rw [cells_snoc, ofNat_nat (by omega)]
            congr 1
          go_wp2_with fail
          refine (idx_some HV.out wr).mono ?_
          rintro e w2 ⟨rfl, rfl⟩
          go_wp2_with fail
          refine (Tryd.Builder_WriteByte b0 b0 _ _ _ hI hlo' hsz).mono ?_
          rintro e w2 ⟨rfl, h2, hb2⟩
          rw [← hcs.out] at h2
          go_wp2
          go_roundw
          case rel => exact ⟨k + 1, (B * 64 + v) % 4, 2, out ++ [UInt8.ofNat ((B * 64 + v) / 4)], by omega, by rw [List.length_append]; simp; omega, by go_num, by go_num, rfl, by omega, by show _ < _; simp; omega, hnx, Or.inr h2, Nat.le_trans hsz hb2.size, hb.trans (hb2.mono hle)⟩
          case measure => simp [intOf]; omega
        · have gB : B ≤ 63 := by have := hB.out; simp at this; omega
          have e1 := or6 (B * 64 : Int) v (by omega) (by omega) (by omega) (by omega) (by omega)
          have e2 := and15 ((B : Int) * 64 + v) (by omega) (by omega)
          have g3 : 0 ≤ ((B : Int) * 64 + v) / 16 := by omega
          have g4 : ((B : Int) * 64 + v) / 16 ≤ 255 := by omega
          have hnx : Hid ((out ++ [UInt8.ofNat ((B * 64 + v) / 16)]) ++ runH ((B * 64 + v) % 16) 4 (vals (t.data.toList.drop (k + 1))) = looseL s.data.toList) := by show _ = _; rw [← hr.out, HST.out, runH_six, List.append_assoc]; rfl
          have hcs : Hid (Lib.byteCells (out ++ [UInt8.ofNat ((B * 64 + v) / 16)]) = Lib.byteCells out ++ [.int .u8 (((B : Int) * 64 + v) / 16)]) := by
            show _ = _
            rw [cells_snoc, ofNat_nat (by omega)]
            congr 1
          go_wp2_with fail
          refine (idx_some HV.out wr).mono ?_
          rintro e w2 ⟨rfl, rfl⟩
          go_wp2_with fail
          refine (Tryd.Builder_WriteByte b0 b0 _ _ _ hI hlo' hsz).mono ?_
          rintro e w2 ⟨rfl, h2, hb2⟩
          rw [← hcs.out] at h2
          go_wp2
          go_roundw
          case rel => exact ⟨k + 1, (B * 64 + v) % 16, 4, out ++ [UInt8.ofNat ((B * 64 + v) / 16)], by omega, by rw [List.length_append]; simp; omega, by go_num, by go_num, rfl, by omega, by show _ < _; simp; omega, hnx, Or.inr h2, Nat.le_trans hsz hb2.size, hb.trans (hb2.mono hle)⟩
          case measure => simp [intOf]; omega
    · have he : k = t.size := by omega
      subst he
      have hend : Hid (out = looseL s.data.toList) := by
        show _ = _
        rw [← hr.out, List.drop_of_length_le (by rw [← Lib.size_eq]; exact Nat.le_refl _)]
        simp [vals, runH]
      go_wp2_with fail
      refine (Tryd.Builder_String_any b0 b0 _ _ hI hsz).mono ?_
      rintro e w2 ⟨rfl, hb2⟩
      go_wp2
      go_ret
      exact ⟨ret_str hend.out, hb.trans (hb2.mono hle)⟩
end Go.Proofs.YtkmopneeafbeaaaDoor.B6
namespace Go.Proofs.YtkmopneeafbeaaaDoor.Pt
open Go Go.RowKit Go.Joins Kit F0

def b64T : List UInt8 := [98, 97, 115, 101, 54, 52]
def quotT : List UInt8 := [113, 117, 111, 116, 101, 100, 45, 112, 114, 105, 110, 116, 97, 98, 108, 101]
def contL (s enc : List UInt8) (f t : Nat) : List UInt8 := if enc = b64T then B6.looseL (segL s f t) else if enc = quotT then Q4.plainL (segL s f t) else segL s f t

set_option maxHeartbeats 4000000 in
set_option maxRecDepth 100000 in
theorem content_any (s : ByteArray) (enc : List UInt8) (f t : Nat) (c0 c1 c3 c4 c7 : Value) (w : World) (hs : s.size ≤ 32768) (hft : f ≤ t) (hts : t ≤ s.size) (hE : Srch.Env w) :
    Calls Tryd.prog 18 #[.string s, .agg #[c0, c1, .string ⟨enc.toArray⟩, c3, c4, .int .i64 (f : Int), .int .i64 (t : Int), c7]] w fun e w' => e = .returned (.string ⟨(contL s.data.toList enc f t).toArray⟩) ∧ Below w.heap.size w w' := by
  have HX : Hid ((s.extract f t).data.toList = segL s.data.toList f t ∧ (s.extract f t).size ≤ 32768) := Lib.hid ⟨ext_seg s f t, by rw [ByteArray.size_extract]; omega⟩
  obtain ⟨W, hW⟩ : ∃ W, w.alloc (.cells #[c0, c1, .string ⟨enc.toArray⟩, c3, c4, .int .i64 (f : Int), .int .i64 (t : Int), c7] 31) = W := ⟨_, rfl⟩
  have HB : Hid (Below w.heap.size w W) := Lib.hid (by rw [← hW]; exact (Below.refl _ w).alloc (Nat.le_refl _) _)
  have HE : Hid (Srch.Env W) := Lib.hid (hE.next HB.out)
  have HQ : Hid (∀ b, (enc == b64T) = b → ∀ q, (enc == quotT) = q → contL s.data.toList enc f t = if b then B6.looseL (segL s.data.toList f t) else if q then Q4.plainL (segL s.data.toList f t) else segL s.data.toList f t) := Lib.hid (by
    intro b hb q hq
    unfold contL
    subst hb hq
    simp only [beq_iff_eq])
  have HW := Lib.hid hW
  clear hE hW
  go_enter Tryd.func18, Tryd.ntmps18
  go_wp2_with fail
  all_goals rw [HW.out]
  · rename_i h1 _ _ _ _
    refine (B6.loose_any (s.extract f t) W (by have := HX.out.2; omega) ⟨HE.out.max⟩).mono ?_
    rintro e w1 ⟨rfl, hb1⟩
    have HR := Lib.hid (HQ.out true h1 _ rfl)
    rw [HX.out.1]
    go_wp2
    go_ret
    exact ⟨by rw [HR.out]; rfl, HB.out.trans (hb1.mono HB.out.size)⟩
  · rename_i h1 h2 _ _ _ _
    refine (Q4.decode_any (s.extract f t) W (by have := HX.out.2; omega) HE.out).mono ?_
    rintro e w1 ⟨rfl, hb1⟩
    have HR := Lib.hid (HQ.out false h1 true h2)
    rw [HX.out.1]
    go_wp2
    go_ret
    exact ⟨by rw [HR.out]; rfl, HB.out.trans (hb1.mono HB.out.size)⟩
  · rename_i h1 h2 _ _ _ _
    refine (U8.clone_any (s.extract f t) W (by have := HX.out.2; omega)).mono ?_
    rintro e w1 ⟨rfl, hb1⟩
    have HR := Lib.hid (HQ.out false h1 false h2)
    rw [show s.extract f t = ⟨(segL s.data.toList f t).toArray⟩ by rw [← HX.out.1]]
    go_wp2
    go_ret
    exact ⟨by rw [HR.out]; rfl, HB.out.trans (hb1.mono HB.out.size)⟩
end Go.Proofs.YtkmopneeafbeaaaDoor.Pt
namespace Go.Proofs.YtkmopneeafbeaaaDoor.Pt
open Go Go.RowKit Go.Joins Kit F0

set_option maxHeartbeats 4000000 in
set_option maxRecDepth 100000 in
theorem rcontent_any (s : ByteArray) (enc : List UInt8) (f t : Nat) (c0 c1 c3 c4 c7 : Value) (w : World) (hs : s.size ≤ 32768) (hft : f ≤ t) (hts : t ≤ s.size) :
    Calls Tryd.prog 28 #[.string s, .agg #[c0, c1, .string ⟨enc.toArray⟩, c3, c4, .int .i64 (f : Int), .int .i64 (t : Int), c7]] w fun e w' => e = .returned (.string ⟨(contL s.data.toList enc f t).toArray⟩) ∧ Below w.heap.size w w' := by
  have HX : Hid ((s.extract f t).data.toList = segL s.data.toList f t ∧ (s.extract f t).size ≤ 32768) := Lib.hid ⟨ext_seg s f t, by rw [ByteArray.size_extract]; omega⟩
  obtain ⟨W, hW⟩ : ∃ W, w.alloc (.cells #[c0, c1, .string ⟨enc.toArray⟩, c3, c4, .int .i64 (f : Int), .int .i64 (t : Int), c7] 31) = W := ⟨_, rfl⟩
  have HB : Hid (Below w.heap.size w W) := Lib.hid (by rw [← hW]; exact (Below.refl _ w).alloc (Nat.le_refl _) _)
  have HQ : Hid (∀ b, (enc == b64T) = b → ∀ q, (enc == quotT) = q → contL s.data.toList enc f t = if b then B6.looseL (segL s.data.toList f t) else if q then Q4.plainL (segL s.data.toList f t) else segL s.data.toList f t) := Lib.hid (by
    intro b hb q hq
    unfold contL
    subst hb hq
    simp only [beq_iff_eq])
  have HW := Lib.hid hW
  clear hW
  go_enter Tryd.func28, Tryd.ntmps28
  go_wp2_with fail
  all_goals (try rw [HW.out])
  · rename_i h1 _ _ _ _
    refine (B6.rloose_any (s.extract f t) W (by have := HX.out.2; omega)).mono ?_
    rintro e w1 ⟨rfl, hb1⟩
    have HR := Lib.hid (HQ.out true h1 _ rfl)
    rw [HX.out.1]
    go_wp2
    go_ret
    exact ⟨by rw [HR.out]; rfl, HB.out.trans (hb1.mono HB.out.size)⟩
  · rename_i h1 h2 _ _ _ _
    refine (Q4.plain_any (s.extract f t) W (by have := HX.out.2; omega)).mono ?_
    rintro e w1 ⟨rfl, hb1⟩
    have HR := Lib.hid (HQ.out false h1 true h2)
    unfold Q4.plainB
    rw [HX.out.1]
    go_wp2
    go_ret
    exact ⟨by rw [HR.out]; rfl, HB.out.trans (hb1.mono HB.out.size)⟩
  · rename_i h1 h2
    have HR := Lib.hid (HQ.out false h1 false h2)
    go_ret
    exact ⟨by rw [HR.out, ← HX.out.1]; rfl, HB.out⟩
end Go.Proofs.YtkmopneeafbeaaaDoor.Pt
namespace Go.Proofs.YtkmopneeafbeaaaDoor.Pt
open Go Go.RowKit Go.Joins Kit F0

def ConOk (s : ByteArray) (j : P) : Prop := ∀ (Q : Nat → Prop) (w : World) (a b : Nat) (v : Value), slimL j → insL j a b → b ≤ s.size → Srch.Env w → PartAt Q w j v →
  Calls Tryd.prog 16 #[.string s, v] w fun e w' => e = .returned (.bool true) ∧ Below w.heap.size w w'

set_option maxHeartbeats 8000000 in
set_option maxRecDepth 100000 in
theorem con_of (s : ByteArray) (hs : s.size ≤ 32768) (j : P) (ih : ∀ k ∈ j.kids, ConOk s k) : ConOk s j := by
  intro Q w a b v hsl hin hbs hE hv
  obtain ⟨ap, mp, ak, mk, rfl, -, cs, hk1, hk2⟩ := part_read hv
  obtain ⟨hl30, hsk⟩ := slim_kids hsl
  obtain ⟨h1, h2, h3, h4, h5⟩ := ins_own hin
  clear hv hsl hin
  obtain ⟨W, hW⟩ : ∃ W, w.alloc (.cells #[.string ⟨j.ty.toArray⟩, .slice ap j.ps.length mp, .string ⟨j.enc.toArray⟩, .bool j.att, .int .i64 (j.hd : Int), .int .i64 (j.fm : Int), .int .i64 (j.to : Int), .slice ak j.kids.length mk] 31) = W := ⟨_, rfl⟩
  have hbW : Below w.heap.size w W := by rw [← hW]; exact (Below.refl _ w).alloc (Nat.le_refl _) _
  have hA : Bx w.heap.size (.string ⟨j.ty.toArray⟩) (.slice ap j.ps.length mp) (.string ⟨j.enc.toArray⟩) (.bool j.att) (.int .i64 (j.hd : Int)) (.int .i64 (j.fm : Int)) (.int .i64 (j.to : Int)) (.slice ak j.kids.length mk) W := by rw [← hW]; exact Bx.made w _ _ _ _ _ _ _ _
  have hcells := Lib.hid (fun (w' : World) (hb : Below W.heap.size W w') (i : Nat) (hi : i < j.kids.length) => kid_cells (CellsAt.keep (hk1.keep (kept_below hbW)) (kept_below hb)) (KidsAt.keep (kept_below hb) (KidsAt.keep (kept_below hbW) hk2)) i hi)
  have HIH := Lib.hid (fun i (hi : i < j.kids.length) => And.intro (ih _ (List.getElem_mem hi)) (hsk _ (List.getElem_mem hi)))
  have H5 : Hid (insL.kidsI (j.kids.drop 0) j.fm j.to) := Lib.hid h5
  have HST := Lib.hid (fun (i lo : Nat) (hi : i < j.kids.length) (h : insL.kidsI (j.kids.drop i) lo j.to) => ins_step hi h)
  have HE := Lib.hid (hE.next hbW)
  have HTB : Hid (j.fm ≤ j.to ∧ j.to ≤ s.size) := Lib.hid ⟨h3, Nat.le_trans h4 hbs⟩
  obtain ⟨CV, hCV⟩ : ∃ CV : ByteArray, (⟨(contL s.data.toList j.enc j.fm j.to).toArray⟩ : ByteArray) = CV := ⟨_, rfl⟩
  obtain ⟨G, hG⟩ : ∃ G, w.heap.size = G := ⟨_, rfl⟩
  rw [hG] at hA
  have HC1 : Hid (∀ W', (Below W.heap.size W W' ∧ W'.cell? ⟨G, 0, none⟩ = some (.string ⟨j.ty.toArray⟩) ∧ W'.cell? ⟨G, 1, none⟩ = some (.slice ap j.ps.length mp) ∧ W'.cell? ⟨G, 2, none⟩ = some (.string ⟨j.enc.toArray⟩) ∧ W'.cell? ⟨G, 3, none⟩ = some (.bool j.att) ∧ W'.cell? ⟨G, 4, none⟩ = some (.int .i64 (j.hd : Int)) ∧ W'.cell? ⟨G, 5, none⟩ = some (.int .i64 (j.fm : Int)) ∧ W'.cell? ⟨G, 6, none⟩ = some (.int .i64 (j.to : Int)) ∧ W'.cell? ⟨G, 7, none⟩ = some (.slice ak j.kids.length mk)) → Calls Tryd.prog 18 #[.string s, .agg #[.string ⟨j.ty.toArray⟩, .slice ap j.ps.length mp, .string ⟨j.enc.toArray⟩, .bool j.att, .int .i64 (j.hd : Int), .int .i64 (j.fm : Int), .int .i64 (j.to : Int), .slice ak j.kids.length mk]] W' fun e w' => e = .returned (.string CV) ∧ Below W'.heap.size W' w') := Lib.hid (fun W' h => by
    rw [← hCV]
    exact content_any s j.enc j.fm j.to _ _ _ _ _ W' hs HTB.out.1 HTB.out.2 (HE.out.next h.1))
  have HC2 : Hid (∀ W', (Below W.heap.size W W' ∧ W'.cell? ⟨G, 0, none⟩ = some (.string ⟨j.ty.toArray⟩) ∧ W'.cell? ⟨G, 1, none⟩ = some (.slice ap j.ps.length mp) ∧ W'.cell? ⟨G, 2, none⟩ = some (.string ⟨j.enc.toArray⟩) ∧ W'.cell? ⟨G, 3, none⟩ = some (.bool j.att) ∧ W'.cell? ⟨G, 4, none⟩ = some (.int .i64 (j.hd : Int)) ∧ W'.cell? ⟨G, 5, none⟩ = some (.int .i64 (j.fm : Int)) ∧ W'.cell? ⟨G, 6, none⟩ = some (.int .i64 (j.to : Int)) ∧ W'.cell? ⟨G, 7, none⟩ = some (.slice ak j.kids.length mk)) → Calls Tryd.prog 28 #[.string s, .agg #[.string ⟨j.ty.toArray⟩, .slice ap j.ps.length mp, .string ⟨j.enc.toArray⟩, .bool j.att, .int .i64 (j.hd : Int), .int .i64 (j.fm : Int), .int .i64 (j.to : Int), .slice ak j.kids.length mk]] W' fun e w' => e = .returned (.string CV) ∧ Below W'.heap.size W' w') := Lib.hid (fun W' h => by
    rw [← hCV]
    exact rcontent_any s j.enc j.fm j.to _ _ _ _ _ W' hs HTB.out.1 HTB.out.2)
  have HSOF : Hid (∀ W', Below W.heap.size W W' → (Below W.heap.size W W' ∧ W'.cell? ⟨G, 0, none⟩ = some (.string ⟨j.ty.toArray⟩) ∧ W'.cell? ⟨G, 1, none⟩ = some (.slice ap j.ps.length mp) ∧ W'.cell? ⟨G, 2, none⟩ = some (.string ⟨j.enc.toArray⟩) ∧ W'.cell? ⟨G, 3, none⟩ = some (.bool j.att) ∧ W'.cell? ⟨G, 4, none⟩ = some (.int .i64 (j.hd : Int)) ∧ W'.cell? ⟨G, 5, none⟩ = some (.int .i64 (j.fm : Int)) ∧ W'.cell? ⟨G, 6, none⟩ = some (.int .i64 (j.to : Int)) ∧ W'.cell? ⟨G, 7, none⟩ = some (.slice ak j.kids.length mk))) := Lib.hid (fun W' h => ⟨h, (h.cell (p := ⟨G, 0, none⟩) hA.lt).trans hA.p0, (h.cell (p := ⟨G, 1, none⟩) hA.lt).trans hA.p1, (h.cell (p := ⟨G, 2, none⟩) hA.lt).trans hA.p2, (h.cell (p := ⟨G, 3, none⟩) hA.lt).trans hA.p3, (h.cell (p := ⟨G, 4, none⟩) hA.lt).trans hA.p4, (h.cell (p := ⟨G, 5, none⟩) hA.lt).trans hA.p5, (h.cell (p := ⟨G, 6, none⟩) hA.lt).trans hA.p6, (h.cell (p := ⟨G, 7, none⟩) hA.lt).trans hA.p7⟩)
  have HS0 : Hid (Below W.heap.size W W.drew ∧ W.drew.cell? ⟨G, 0, none⟩ = some (.string ⟨j.ty.toArray⟩) ∧ W.drew.cell? ⟨G, 1, none⟩ = some (.slice ap j.ps.length mp) ∧ W.drew.cell? ⟨G, 2, none⟩ = some (.string ⟨j.enc.toArray⟩) ∧ W.drew.cell? ⟨G, 3, none⟩ = some (.bool j.att) ∧ W.drew.cell? ⟨G, 4, none⟩ = some (.int .i64 (j.hd : Int)) ∧ W.drew.cell? ⟨G, 5, none⟩ = some (.int .i64 (j.fm : Int)) ∧ W.drew.cell? ⟨G, 6, none⟩ = some (.int .i64 (j.to : Int)) ∧ W.drew.cell? ⟨G, 7, none⟩ = some (.slice ak j.kids.length mk)) := Lib.hid (HSOF.out _ ((Below.refl _ W).drew))
  have HSN : Hid (∀ w1 w2, (Below W.heap.size W w1 ∧ w1.cell? ⟨G, 0, none⟩ = some (.string ⟨j.ty.toArray⟩) ∧ w1.cell? ⟨G, 1, none⟩ = some (.slice ap j.ps.length mp) ∧ w1.cell? ⟨G, 2, none⟩ = some (.string ⟨j.enc.toArray⟩) ∧ w1.cell? ⟨G, 3, none⟩ = some (.bool j.att) ∧ w1.cell? ⟨G, 4, none⟩ = some (.int .i64 (j.hd : Int)) ∧ w1.cell? ⟨G, 5, none⟩ = some (.int .i64 (j.fm : Int)) ∧ w1.cell? ⟨G, 6, none⟩ = some (.int .i64 (j.to : Int)) ∧ w1.cell? ⟨G, 7, none⟩ = some (.slice ak j.kids.length mk)) → Below w1.heap.size w1 w2 → (Below W.heap.size W w2 ∧ w2.cell? ⟨G, 0, none⟩ = some (.string ⟨j.ty.toArray⟩) ∧ w2.cell? ⟨G, 1, none⟩ = some (.slice ap j.ps.length mp) ∧ w2.cell? ⟨G, 2, none⟩ = some (.string ⟨j.enc.toArray⟩) ∧ w2.cell? ⟨G, 3, none⟩ = some (.bool j.att) ∧ w2.cell? ⟨G, 4, none⟩ = some (.int .i64 (j.hd : Int)) ∧ w2.cell? ⟨G, 5, none⟩ = some (.int .i64 (j.fm : Int)) ∧ w2.cell? ⟨G, 6, none⟩ = some (.int .i64 (j.to : Int)) ∧ w2.cell? ⟨G, 7, none⟩ = some (.slice ak j.kids.length mk))) := Lib.hid (fun w1 w2 h k => HSOF.out _ (h.1.trans (k.mono h.1.size)))
  have HW := Lib.hid hW
  have HBW := Lib.hid hbW
  have HA := Lib.hid hA
  obtain ⟨nv, hnv⟩ : ∃ nv, j.kids.length = nv := ⟨_, rfl⟩
  have HNV := Lib.hid hnv
  have hk30 : (nv : Int) ≤ 30 := by omega
  clear hk1 hk2 hW hbW hA ih hsk h5 h1 h2 h3 h4 hE hCV hl30 hnv
  have HG := Lib.hid hG
  clear hG
  go_enter Tryd.func16, Tryd.ntmps16
  go_upto_region 1 with fail
  rw [HW.out]
  (try rw [HG.out])
  go_region_held3 (fun w' : World => (Below W.heap.size W w' ∧ w'.cell? ⟨G, 0, none⟩ = some (.string ⟨j.ty.toArray⟩) ∧ w'.cell? ⟨G, 1, none⟩ = some (.slice ap j.ps.length mp) ∧ w'.cell? ⟨G, 2, none⟩ = some (.string ⟨j.enc.toArray⟩) ∧ w'.cell? ⟨G, 3, none⟩ = some (.bool j.att) ∧ w'.cell? ⟨G, 4, none⟩ = some (.int .i64 (j.hd : Int)) ∧ w'.cell? ⟨G, 5, none⟩ = some (.int .i64 (j.fm : Int)) ∧ w'.cell? ⟨G, 6, none⟩ = some (.int .i64 (j.to : Int)) ∧ w'.cell? ⟨G, 7, none⟩ = some (.slice ak j.kids.length mk)))
    (first | with_reducible exact HS0.out | with_reducible exact HSN.out _ _ (by assumption) (by assumption))
    (first | (with_reducible refine (HC1.out _ (by assumption)).mono ?_; rintro e7 w7 ⟨rfl, hb7⟩) | (with_reducible refine (HC2.out _ (by assumption)).mono ?_; rintro e8 w8 ⟨rfl, hb8⟩))
  all_goals
    have HB8 : Hid (Below W.heap.size W w8) := Lib.hid (by first | exact ((((Below.refl _ W).drew).trans hb7).trans (hb8.mono hb7.size)) | exact (((Below.refl _ W).drew).trans hb8))
    have HB7 : Hid (Below W.heap.size W w7) := Lib.hid (by first | exact (((Below.refl _ W).drew).trans hb7) | exact ((((Below.refl _ W).drew).trans hb8).trans (hb7.mono hb8.size)))
    have z7 := (HSOF.out _ HB7.out).2.2.2.2.2.2.2.2
    have z8 := (HSOF.out _ HB8.out).2.2.2.2.2.2.2.2
    go_wp2_with fail
    go_loopg [5] nv (fun m iv wr => ∃ i lo : Nat, m = nv - i ∧ i ≤ nv ∧ iv = .int .i64 (i : Int) ∧ Hid (Below W.heap.size W wr) ∧ Hid (insL.kidsI (j.kids.drop i) lo j.to))
    case atStart => exact ⟨0, j.fm, rfl, Nat.zero_le _, rfl, by first | exact HB8 | exact HB7, H5⟩
    case round =>
      clear z7 z8
      obtain ⟨i, lo, rfl, hi, rfl, HBR, HKI⟩ := hrel
      have p7 := (HSOF.out _ HBR.out).2.2.2.2.2.2.2.2
      rw [HNV.out] at p7
      by_cases hlt : i < nv
      · have gi : (i : Int) < (nv : Int) := by omega
        have hlt' : i < j.kids.length := by rw [HNV.out]; exact hlt
        obtain ⟨g, o, x0, x1, x2, x3, x4, x5, x6, x7, rfl, hg, r0, r1, r2, r3, r4, r5, r6, r7, hx⟩ := hcells.out wr HBR.out i hlt'
        have HIN := Lib.hid (HST.out i lo hlt' HKI.out)
        have HCL : Hid (Calls Tryd.prog 16 #[.string s, .agg #[x0, x1, x2, x3, x4, x5, x6, x7]] wr fun e w' => e = .returned (.bool true) ∧ Below wr.heap.size wr w') :=
          Lib.hid ((HIH.out i hlt').1 Q wr lo j.to _ (HIH.out i hlt').2 HIN.out.1 HTB.out.2 (HE.out.next HBR.out) hx)
        clear hx
        go_wp2_with fail
        refine (HCL.out).mono ?_
        rintro e w9 ⟨rfl, hb9⟩
        go_wp2_with fail
        go_roundg (nv - (i + 1))
        case measure => omega
        case rel => exact ⟨i + 1, j.kids[i].to, rfl, by omega, by go_num, Lib.hid (HBR.out.trans (hb9.mono HBR.out.size)), Lib.hid HIN.out.2⟩
      · have gi : ¬ (i : Int) < (nv : Int) := by omega
        go_wp2_with fail
        go_ret
        exact ⟨rfl, HBW.out.trans (HBR.out.mono HBW.out.size)⟩
theorem con_any (s : ByteArray) (hs : s.size ≤ 32768) (j : P) : ConOk s j := P.ind (fun j ih => con_of s hs j ih) j

set_option maxHeartbeats 1000000 in
set_option maxRecDepth 100000 in
theorem partContents_walk (s : ByteArray) (w : World) (hE : Srch.Env w) :
    Calls Tryd.prog 5 #[.string s] w fun e w' => e = .returned (.bool true) ∧ Below w.heap.size w w' := by
  have HE := Lib.hid hE
  clear hE
  by_cases hs : 3000 < s.size
  · have g1 : (3000 : Int) < (s.size : Int) := by omega
    go_enter Tryd.func5, Tryd.ntmps5
    go_wp2_with fail
    refine (awake_any tree_ok w HE.out).mono ?_
    rintro e w1 ⟨rfl, hb1⟩
    go_wp2
    go_ret
    exact ⟨rfl, hb1⟩
  · have g1 : ¬ (3000 : Int) < (s.size : Int) := by omega
    have hs2 : s.size ≤ 32768 := by omega
    have HI := Lib.hid (tree_ins s.data.toList)
    rw [← Lib.size_eq] at HI
    clear hs
    go_enter Tryd.func5, Tryd.ntmps5
    go_wp2_with fail
    refine (rtree_any s w hs2).mono ?_
    rintro e w1 ⟨c0, c1, c2, c3, c4, c5, c6, c7, rfl, hp, hb1⟩
    have HP := Lib.hid hp
    have HB1 := Lib.hid hb1
    clear hp hb1
    go_wp2_with fail
    refine (con_any s hs2 (treeL s.data.toList) _ w1 0 s.size _ (tree_slim _) HI.out (Nat.le_refl _) (HE.out.next HB1.out) HP.out).mono ?_
    rintro e w2 ⟨rfl, hb2⟩
    have HB2 := Lib.hid (HB1.out.trans (hb2.mono HB1.out.size))
    clear hb2
    go_wp2_with fail
    refine (awake_any tree_ok w2 (HE.out.next HB2.out)).mono ?_
    rintro e w3 ⟨rfl, hb3⟩
    go_wp2
    go_ret
    exact ⟨rfl, HB2.out.trans (hb3.mono HB2.out.size)⟩
end Go.Proofs.YtkmopneeafbeaaaDoor.Pt
namespace Go.Proofs.YtkmopneeafbeaaaDoor.fnPartContents
open Go Go.ChangeShapes Go.WideShapes Go.ChangeAt Go.RowKit
open Go.ChangeMaps (open_string shut_string)

theorem env {W : World} (h : laidMetH Tryd.prog Rows.partContentsRow.laid W) (hsh : W.ShapedOpen Tryd.prog) : Srch.Env W := by
  rw [MakeChecks.laidMetH_plain _ _ _ (by kernel_rfl)] at h
  exact (fun _ => Srch.env_of hsh) h

set_option maxRecDepth 100000 in
theorem contract (H : Type) (enc : TypeId × Value → H) (W : World) (base : Nat) (args : Array Value) (ds gs : List (DataW H)) (before : List MemPlace)
    (hval : ∀ (j : Nat) t v, Tryd.f5.params[j]? = some t → args[j]? = some v → Value.okWide Tryd.prog W .any base t v)
    (hW : DataW.Whole enc Tryd.prog Tryd.f5.params.toList Rows.partContentsSpec.vars false W args.toList ds gs before) (hE : Srch.Env W) :
    Calls Tryd.prog 5 args W fun e W' => ∃ v, e = .returned v ∧ Rows.partContentsSpec.post enc Tryd.prog Tryd.f5 false true false false W args v W' := by
  have hW' := hW
  obtain ⟨p, q, hA0, hV, rfl, hfz, hnd⟩ := hW
  have hA : DataW.TrodAll enc Tryd.prog W 0 (fun _ => true) true Tryd.f5.params.toList args.toList ds p := hA0
  rw [Tryd.params5] at hA hval
  obtain ⟨v0, vs0, d0, ds0, p0, q0, hargs, rfl, rfl, h0, r0⟩ := trodAll_cons hA
  obtain ⟨rfl, rfl, rfl⟩ := trodAll_nil r0
  obtain rfl : args = #[v0] := by cases args; simp_all
  obtain ⟨rfl, rfl⟩ := trodVars_none hV
  obtain ⟨x0, rfl, rfl, rfl, w0⟩ := open_string Tryd.underlying9 (hval 0 9 v0 rfl rfl) h0
  clear hA0
  simp only [List.append_nil] at hW'
  refine (Pt.partContents_walk x0 W hE).mono fun e W' ⟨he, hb⟩ => ?_
  subst he
  exact ⟨_, rfl, _, _, _, [], [], [], hW', trodAll_cons_mk (shut_bool Tryd.underlying4 _) trodAll_mk0, (trodAll_cons_mk (shut_string Tryd.underlying9 w0) trodAll_mk0), rfl, hb.frame _, fun h => by cases h⟩

theorem laid_met (os : Os) : laidMet Tryd.prog Rows.partContentsRow.laid ((World.laidAll Tryd.prog os Rows.partContentsRow.laid).forCall (fun _ _ => 0) ⟨#[], #[.string ⟨#[]⟩], []⟩).memory :=
  laidMet_laidAll #[.string ⟨#[]⟩] (by kernel_rfl) (by kernel_rfl)
theorem reads (os : Os) {H : Type} (enc : TypeId × Value → H) : ∃ places, DataW.whole enc Tryd.prog ((World.laidAll Tryd.prog os Rows.partContentsRow.laid).forCall (fun _ _ => 0) ⟨#[], #[.string ⟨#[]⟩], []⟩).memory Tryd.f5.params.toList Rows.partContentsSpec.vars false (#[.string ⟨#[]⟩] : Array Value).toList 8 = some ([.lit (.string [])], [], places) :=
  ⟨[], by kernel_rfl⟩

set_option maxRecDepth 100000 in
theorem lifted (os : Os) (started : os.Started) (H : Type) (enc : TypeId × Value → H) (F : Stop.Interp) :
    ReturnsInHanded {} Tryd.checked os 5 .any ((OpenSpec.ofChange Rows.partContentsSpec).preRow enc Tryd.prog Tryd.f5 Rows.partContentsRow.domain false Rows.partContentsRow.laid) (((OpenSpec.ofChange Rows.partContentsSpec).at F).post enc Tryd.prog Tryd.f5 false true false false) := by
  obtain ⟨places, hx⟩ := reads os enc
  refine returnsInHanded_of_row (C := Tryd.checked) (s := OpenSpec.ofChange Rows.partContentsSpec) Kit.own started (by kernel_rfl) Tryd.func5
    (witness_row_at (enc := enc) (C := Tryd.checked) false (World.laidAll Tryd.prog os Rows.partContentsRow.laid) #[.string ⟨#[]⟩] (World.laidAll_os _ _ _) (by kernel_rfl) (by kernel_rfl) (by kernel_rfl)
      (OpenSpec.preRow_of_cond 8 hx (by kernel_rfl) (fun k hk => by cases hk) (by kernel_rfl) (laid_met os))) ?_
  intro W base args ds gs before hval hW _ _ _ hL hsh _
  exact contract H enc W base args ds gs before hval hW (env hL hsh)

theorem said : Rows.PartContentsSaid :=
  OpenClaim.holds_of_cond 5 Tryd.f5 rfl rfl rfl rfl rfl rfl rfl ⟨rfl, rfl, rfl, rfl, rfl⟩ rfl rfl rfl rfl rfl (by kernel_rfl) Tryd.func5 (by kernel_rfl)
    (of_decide_eq_true (by kernel_rfl)) (by unfold Func.isWrapper; rw [if_neg (by decide +kernel)]; exact ⟨rfl, rfl⟩)
    (fun os started H enc _ F => by rw [OpenClaim.pre_eq_preRow]; exact lifted os started H enc F)

theorem plain (f : FuncId) (fn : Func) (hf : Tryd.pinned.checked.prog.funcNamed "pillarbox/pillarboxlaw13.PartContents" = some f) (hfn : Tryd.pinned.checked.prog.funcs[f]? = some fn) :
    false = Tryd.pinned.checked.prog.looks [] ∧ ∀ (j : Nat) t, fn.params[j]? = some t → Tryd.pinned.checked.prog.wantsStandIn t = false := by
  obtain rfl : f = 5 := Option.some.inj ((show Tryd.prog.funcNamed "pillarbox/pillarboxlaw13.PartContents" = some 5 by kernel_rfl).symm.trans hf) |>.symm
  obtain rfl : fn = Tryd.f5 := (Option.some.inj (Tryd.func5.symm.trans hfn)).symm
  refine ⟨by kernel_rfl, fun j t ht => ?_⟩
  rw [Tryd.params5] at ht
  have hm : t = 9 := by simpa using Array.mem_of_getElem? ht
  rcases hm with rfl
  · exact (show Tryd.prog.wantsStandIn 9 = false by kernel_rfl)

theorem card : Rows.PartContentsCardSaid :=
  Claim7.holds_tied_plain_at .later [] _ _ _ _ said (fun _ h => by cases h) (by kernel_rfl) (fun _ h => by cases h) partContents_row_tie rfl ⟨rfl, rfl⟩ (by kernel_rfl) rfl plain (by kernel_rfl)
end Go.Proofs.YtkmopneeafbeaaaDoor.fnPartContents
