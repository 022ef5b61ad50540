/-
  Plain facts on so many keywords, and on one so long. No program in this text. Conditions: none.
-/
import Derived.Test.YtggnkpbadfabcaaFgSort
namespace Go.Proofs.Ytggnkpbadfabcaa.Fg
open Go Tx

def wdL (i : Nat) : Tl := [107, UInt8.ofNat (97 + i % 26), UInt8.ofNat (97 + i / 26)]
def manyL (k : Nat) : List Tl := (List.range k).map wdL
def exL (m : Nat) : Tl := List.replicate m 120
theorem many_succ (k : Nat) : manyL (k + 1) = manyL k ++ [wdL k] := by simp [manyL, List.range_succ]
theorem many_len (k : Nat) : (manyL k).length = k := by simp [manyL]
theorem wd_len (k : Nat) : (wdL k).length = 3 := rfl
def keysI (l : List Tl) : Nat := if l.all rightL = false then 1 else if 16 < (insAll l).length then 13 else 0
theorem keysI_eq (l : List Tl) : (keysL l).2 = keysI l := by
  unfold keysL keysI
  rw [ins_once]
  split
  · rfl
  · split <;> rfl
theorem many_run : ((List.range 30).all fun k => decide (keysI (manyL k) = if 16 < k then 13 else 0)) = true := by decide +kernel
theorem many_keys {k : Nat} (h : k < 30) : (keysL (manyL k)).2 = if 16 < k then 13 else 0 := by
  rw [keysI_eq]
  exact of_decide_eq_true (List.all_eq_true.1 many_run k (List.mem_range.2 h))
theorem long_run : ((List.range 101).all fun m => decide (keysI [exL m] = (if 64 < m then 1 else 0) ∧ rightL (exL m) = decide (m ≤ 64)) || decide (m = 0)) = true := by decide +kernel
theorem long_keys {m : Nat} (h0 : 1 ≤ m) (h : m ≤ 100) : (keysL [exL m]).2 = (if 64 < m then 1 else 0) ∧ rightL (exL m) = decide (m ≤ 64) := by
  rw [keysI_eq]
  have := List.all_eq_true.1 long_run m (List.mem_range.2 (by omega))
  rw [Bool.or_eq_true] at this
  rcases this with h' | h'
  · exact of_decide_eq_true h'
  · have := of_decide_eq_true h'
    omega
theorem ex_succ (j : Nat) : exL (j + 1) = exL j ++ [120] := List.replicate_succ'
end Go.Proofs.Ytggnkpbadfabcaa.Fg
