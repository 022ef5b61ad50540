/-
  Plain facts on parts: how many kids the texts of the law PartMany have, and how many parts stand in one another. No program in this text. Conditions: none.
-/
import Derived.Test.YtkmopneeafbeaaaDoorPtPlain
namespace Go.Proofs.YtkmopneeafbeaaaDoor.Pt
open Go F0

def manyH : List UInt8 := [67, 111, 110, 116, 101, 110, 116, 45, 84, 121, 112, 101, 58, 32, 109, 117, 108, 116, 105, 112, 97, 114, 116, 47, 120, 59, 32, 98, 111, 117, 110, 100, 97, 114, 121, 61, 97, 10, 10]
def manyP : List UInt8 := [45, 45, 97, 10, 10, 120, 10]
def manyT : Nat → List UInt8
  | 0 => manyH
  | n + 1 => manyT n ++ manyP
def deepP (i : Nat) : List UInt8 := [67, 111, 110, 116, 101, 110, 116, 45, 84, 121, 112, 101, 58, 32, 109, 117, 108, 116, 105, 112, 97, 114, 116, 47, 120, 59, 32, 98, 111, 117, 110, 100, 97, 114, 121, 61] ++ ([98, UInt8.ofNat (97 + i)] ++ ([10, 10, 45, 45] ++ ([98, UInt8.ofNat (97 + i)] ++ [10])))
def deepT : Nat → List UInt8
  | 0 => []
  | n + 1 => deepT n ++ deepP n
/-- So many parts in one another, one kid each. -/
def chainB : Nat → P → Bool
  | 0, p => p.kids.length != 1
  | n + 1, p => match p.kids with
    | [q] => chainB n q
    | _ => false
theorem chain_zero {p : P} (h : chainB 0 p = true) : p.kids.length ≠ 1 := by
  rw [chainB] at h
  simpa using h
theorem chain_succ {n : Nat} {p : P} (h : chainB (n + 1) p = true) : ∃ q, p.kids = [q] ∧ chainB n q = true := by
  rw [chainB] at h
  split at h
  · rename_i q hq
    exact ⟨q, hq, h⟩
  · cases h
theorem many_len : ∀ n, (manyT n).length = 39 + 7 * n
  | 0 => rfl
  | n + 1 => by rw [manyT, List.length_append, many_len n]; simp [manyP]; omega
theorem deep_len : ∀ n, (deepT n).length = 45 * n
  | 0 => rfl
  | n + 1 => by rw [deepT, List.length_append, deep_len n]; simp [deepP]; omega
theorem many_kids : ∀ k, k < 50 → (treeL (manyT k)).kids.length = min k 29 := by decide +kernel
theorem deep_kids : ∀ d, d < 11 → 0 < d → chainB (min d 6) (treeL (deepT d ++ [10, 120])) = true := by decide +kernel
end Go.Proofs.YtkmopneeafbeaaaDoor.Pt
