/-
  Plain facts on parts: an induction over the parts of a part; they are few. No program in this text. Conditions: none.
-/
import Derived.Test.YtnnbbjdidbggmaaGreatDoorPtPlain
namespace Go.Proofs.YtnnbbjdidbggmaaGreatDoor.Pt
open Go F0

theorem P.ind {M : P → Prop} (h : ∀ j, (∀ k ∈ j.kids, M k) → M j) (j : P) : M j := by
  obtain ⟨ty, ps, enc, att, hh, f, t, kids⟩ := j
  exact h _ (fun k hk => P.ind h k)
termination_by SizeOf.sizeOf j
decreasing_by
  have := List.sizeOf_lt_of_mem (show k ∈ kids from hk)
  simp
  omega
/-- At most thirty kids, in all. -/
def slimL : P → Prop
  | .mk _ _ _ _ _ _ _ kids => kids.length ≤ 30 ∧ slimK kids
where slimK : List P → Prop
  | [] => True
  | k :: r => slimL k ∧ slimK r
theorem slimK_mem : ∀ {l : List P} (_ : slimL.slimK l), ∀ k ∈ l, slimL k
  | [], _, k, hk => by cases hk
  | j :: r, h, k, hk => by
    rcases List.mem_cons.1 hk with rfl | hk
    · exact h.1
    · exact slimK_mem h.2 k hk
theorem slim_kids {j : P} (h : slimL j) : j.kids.length ≤ 30 ∧ ∀ k ∈ j.kids, slimL k := by
  obtain ⟨ty, ps, enc, att, hh, f, t, kids⟩ := j
  exact ⟨h.1, slimK_mem h.2⟩
theorem foldK_slim {rd : Nat → Nat → Nat → P × Nat} (h : ∀ f e n, n ≤ 30 → slimL (rd f e n).1) (h2 : ∀ f e n, n ≤ 30 → n ≤ (rd f e n).2 ∧ (rd f e n).2 ≤ 30) : ∀ (l : List (Nat × Nat)) (n : Nat) (_ : n ≤ 30), slimL.slimK (foldK rd l n).1
  | [], n, _ => by rw [foldK]; trivial
  | (f, e) :: r, n, hn => by
    rw [foldK]
    split
    · exact ⟨h f e (n + 1) (by omega), foldK_slim h h2 r _ (h2 f e (n + 1) (by omega)).2⟩
    · trivial
theorem read_slim (s : List UInt8) : ∀ (d a b n : Nat) (_ : n ≤ 30), slimL (readL s d a b n).1
  | 0, a, b, n, h => by rw [readL]; exact ⟨by simp, trivial⟩
  | d + 1, a, b, n, h => by
    rw [readL]
    split
    · exact ⟨by simp, trivial⟩
    · rename_i bd _
      have h1 := foldK_count (rd := readL s d) (fun f e n hn => read_count s d f e n hn) (kidsL bd s (headL s a b).2 b) n h
      refine ⟨?_, foldK_slim (fun f e n hn => read_slim s d f e n hn) (fun f e n hn => read_count s d f e n hn) _ n h⟩
      omega
theorem tree_slim (s : List UInt8) : slimL (treeL s) := read_slim s 6 0 s.length 1 (by omega)
theorem tree_ins (s : List UInt8) : insL (treeL s) 0 s.length := (read_ins s 6 0 s.length 1 (Nat.zero_le _) (Nat.le_refl _)).1
theorem ins_own {j : P} {a b : Nat} (h : insL j a b) : a ≤ j.hd ∧ j.hd ≤ j.fm ∧ j.fm ≤ j.to ∧ j.to ≤ b ∧ insL.kidsI j.kids j.fm j.to := by
  obtain ⟨ty, ps, enc, att, hh, f, t, kids⟩ := j
  exact h
theorem ins_step {l : List P} {i lo t : Nat} (hi : i < l.length) (h : insL.kidsI (l.drop i) lo t) : insL l[i] lo t ∧ insL.kidsI (l.drop (i + 1)) l[i].to t := by
  rw [List.drop_eq_getElem_cons hi] at h
  exact h
end Go.Proofs.YtnnbbjdidbggmaaGreatDoor.Pt
