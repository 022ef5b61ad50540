/-
  Plain facts on lists of texts that rise, each once: what sorting and leaving out doubles gives; what is put in, one by one, at its place. No program in this text. Conditions: none.
-/
import Derived.Test.YtggnkpbadfabcaaFgPlain
import Derived.Lib.SlicesCompact
import Derived.Lib.Join
namespace Go.Proofs.Ytggnkpbadfabcaa.Fg
open Go Tx

abbrev Tl := List UInt8
theorem tlt_irr (x : Tl) : ¬ x < x := List.lt_irrefl x
theorem tlt_tr {x y z : Tl} (h : x < y) (k : y < z) : x < z := List.lt_trans h k
theorem tle_tr {x y z : Tl} (h : x ≤ y) (k : y ≤ z) : x ≤ z := List.le_trans h k
theorem tle_tot (x y : Tl) : x ≤ y ∨ y ≤ x := List.le_total x y
theorem tle_lt {x y : Tl} (h : x ≤ y) (k : x ≠ y) : x < y := by
  rcases Classical.em (x < y) with h' | h'
  · exact h'
  · exact absurd (List.le_antisymm h (List.not_lt.1 h')) k
theorem tle_lt_tr {x y z : Tl} (h : x ≤ y) (k : y < z) : x < z := by
  by_cases e : x = y
  · rw [e]; exact k
  · exact tlt_tr (tle_lt h e) k
/-- Rising, each once. -/
def Up (l : List Tl) : Prop := l.Pairwise (· < ·)
/-- Two rising lists of the same texts are one. -/
theorem up_ext : ∀ {a b : List Tl} (_ : Up a) (_ : Up b) (_ : ∀ x, x ∈ a ↔ x ∈ b), a = b
  | [], [], _, _, _ => rfl
  | [], y :: b, _, _, h => absurd ((h y).2 (by simp)) (by simp)
  | x :: a, [], _, _, h => absurd ((h x).1 (by simp)) (by simp)
  | x :: a, y :: b, ha, hb, h => by
    have ha' := List.pairwise_cons.1 ha
    have hb' := List.pairwise_cons.1 hb
    have e : x = y := by
      rcases List.mem_cons.1 ((h x).1 (by simp)) with e | e
      · exact e
      · rcases List.mem_cons.1 ((h y).2 (by simp)) with e' | e'
        · exact e'.symm
        · exact absurd (tlt_tr (ha'.1 y e') (hb'.1 x e)) (tlt_irr x)
    subst e
    rw [up_ext ha'.2 hb'.2 (fun z => ?_)]
    constructor
    · intro hz
      rcases List.mem_cons.1 ((h z).1 (by simp [hz])) with e | e
      · subst e; exact absurd (ha'.1 z hz) (tlt_irr z)
      · exact e
    · intro hz
      rcases List.mem_cons.1 ((h z).2 (by simp [hz])) with e | e
      · subst e; exact absurd (hb'.1 z hz) (tlt_irr z)
      · exact e
/-- Sorted, and of doubles but one. -/
def onceL (l : List Tl) : List Tl := Lib.compact (l.mergeSort (fun x y => decide (x ≤ y)))
theorem sorted_le (l : List Tl) : (l.mergeSort (fun x y => decide (x ≤ y))).Pairwise (· ≤ ·) := by
  have h := List.pairwise_mergeSort (le := fun x y : Tl => decide (x ≤ y)) (fun a b c h k => decide_eq_true (tle_tr (of_decide_eq_true h) (of_decide_eq_true k))) (fun a b => by simpa using tle_tot a b) l
  exact h.imp (fun h => of_decide_eq_true h)
theorem get_bang (zs : List Tl) (j : Nat) (h : j < zs.length) : zs.toArray[j]! = zs[j] := by simp [h]
theorem compact_mem (zs : List Tl) (x : Tl) : x ∈ Lib.compact zs ↔ x ∈ zs := by
  unfold Lib.compact Lib.compactUpTo
  simp only [List.mem_map, List.mem_filter, List.mem_range]
  constructor
  · rintro ⟨j, ⟨hj, _⟩, rfl⟩
    rw [get_bang zs j hj]
    exact List.getElem_mem hj
  · intro hx
    obtain ⟨j, hj, rfl⟩ := List.mem_iff_getElem.1 hx
    induction j with
    | zero => exact ⟨0, ⟨hj, by simp [Lib.keeps]⟩, get_bang zs 0 hj⟩
    | succ j ih =>
      by_cases e : zs[j + 1] = zs[j]
      · rw [e]
        exact ih (by omega) (List.getElem_mem _)
      · refine ⟨j + 1, ⟨hj, ?_⟩, get_bang zs (j + 1) hj⟩
        unfold Lib.keeps
        rw [get_bang zs (j + 1) hj, show j + 1 - 1 = j from rfl, get_bang zs j (by omega)]
        simp [e]
theorem compact_up (zs : List Tl) (h : zs.Pairwise (· ≤ ·)) : Up (Lib.compact zs) := by
  unfold Up Lib.compact Lib.compactUpTo
  rw [List.pairwise_map]
  have h1 := (List.pairwise_lt_range (n := zs.length)).filter (Lib.keeps zs.toArray)
  refine List.Pairwise.imp_of_mem ?_ h1
  intro i j hi hj hij
  obtain ⟨hi1, _⟩ := List.mem_filter.1 hi
  obtain ⟨hj1, hj2⟩ := List.mem_filter.1 hj
  have hi' := List.mem_range.1 hi1
  have hj' := List.mem_range.1 hj1
  rw [get_bang zs i hi', get_bang zs j hj']
  unfold Lib.keeps at hj2
  rw [get_bang zs j hj', get_bang zs (j - 1) (by omega), decide_eq_true_eq] at hj2
  have hne : zs[j] ≠ zs[j - 1] := by
    rcases hj2 with h | h
    · omega
    · exact h
  have hp := List.pairwise_iff_getElem.1 h
  have h2 : zs[j - 1] < zs[j] := tle_lt (hp (j - 1) j (by omega) hj' (by omega)) (fun e => hne e.symm)
  by_cases e : i = j - 1
  · subst e; exact h2
  · exact tle_lt_tr (hp i (j - 1) hi' (by omega) (by omega)) h2
theorem once_mem (l : List Tl) (x : Tl) : x ∈ onceL l ↔ x ∈ l := by
  unfold onceL
  rw [compact_mem]
  exact (List.mergeSort_perm l _).mem_iff
theorem once_up (l : List Tl) : Up (onceL l) := compact_up _ (sorted_le l)
theorem once_once (l : List Tl) : onceL (onceL l) = onceL l := up_ext (once_up _) (once_up _) (fun x => once_mem _ x)
theorem once_nil : onceL [] = [] := up_ext (once_up _) List.Pairwise.nil (fun x => once_mem _ x)
theorem up_len : ∀ {a b : List Tl} (_ : Up a) (_ : ∀ x ∈ a, x ∈ b), a.length ≤ b.length
  | [], _, _, _ => Nat.zero_le _
  | x :: a, b, ha, h => by
    have ha' := List.pairwise_cons.1 ha
    have hx := h x (by simp)
    have := up_len (b := b.erase x) ha'.2 (fun y hy => by
      refine (List.mem_erase_of_ne ?_).2 (h y (by simp [hy]))
      intro e
      subst e
      exact tlt_irr y (ha'.1 y hy))
    rw [List.length_erase_of_mem hx] at this
    have := List.length_pos_of_mem hx
    rw [List.length_cons]
    omega
theorem once_len (l : List Tl) : (onceL l).length ≤ l.length := up_len (once_up l) (fun x hx => (once_mem l x).1 hx)
/-- Put in at its place. -/
def insT (x : Tl) : List Tl → List Tl
  | [] => [x]
  | y :: r => if y < x then y :: insT x r else if y = x then y :: r else x :: y :: r
theorem ins_mem (x z : Tl) : ∀ l : List Tl, z ∈ insT x l ↔ z = x ∨ z ∈ l
  | [] => by simp [insT]
  | y :: r => by
    rw [insT]
    split
    · simp only [List.mem_cons, ins_mem x z r]
      constructor
      · rintro (h | h | h) <;> simp [h]
      · rintro (h | h | h) <;> simp [h]
    · split
      · rename_i e; subst e; simp
      · simp
theorem ins_up (x : Tl) : ∀ {l : List Tl} (_ : Up l), Up (insT x l)
  | [], _ => List.pairwise_singleton _ _
  | y :: r, h => by
    have h' := List.pairwise_cons.1 h
    rw [insT]
    split
    · rename_i hy
      refine List.pairwise_cons.2 ⟨?_, ins_up x h'.2⟩
      intro z hz
      rcases (ins_mem x z r).1 hz with rfl | hz
      · exact hy
      · exact h'.1 z hz
    · split
      · exact h
      · rename_i h1 h2
        have hxy : x < y := tle_lt (List.not_lt.1 h1) (fun e => h2 e.symm)
        refine List.pairwise_cons.2 ⟨?_, h⟩
        intro z hz
        rcases List.mem_cons.1 hz with rfl | hz
        · exact hxy
        · exact tlt_tr hxy (h'.1 z hz)
def insAll (l : List Tl) : List Tl := l.foldl (fun o x => insT x o) []
theorem insAll_snoc (l : List Tl) (x : Tl) : insAll (l ++ [x]) = insT x (insAll l) := by simp [insAll]
theorem insAll_ok (l : List Tl) : Up (insAll l) ∧ ∀ x, x ∈ insAll l ↔ x ∈ l := by
  unfold insAll
  suffices h : ∀ (l o : List Tl), Up o → Up (l.foldl (fun o x => insT x o) o) ∧ ∀ x, x ∈ l.foldl (fun o x => insT x o) o ↔ x ∈ o ∨ x ∈ l by
    have := h l [] List.Pairwise.nil
    exact ⟨this.1, fun x => by rw [this.2 x]; simp⟩
  intro l
  induction l with
  | nil => intro o ho; exact ⟨ho, by simp⟩
  | cons a r ih =>
    intro o ho
    obtain ⟨h1, h2⟩ := ih (insT a o) (ins_up a ho)
    refine ⟨h1, fun x => ?_⟩
    rw [List.foldl_cons, h2 x, ins_mem]
    simp only [List.mem_cons]
    constructor
    · rintro ((h | h) | h) <;> simp [h]
    · rintro (h | h | h) <;> simp [h]
theorem ins_once (l : List Tl) : insAll l = onceL l := up_ext (insAll_ok l).1 (once_up l) (fun x => by rw [(insAll_ok l).2 x, once_mem])
/-- What Keys answers: the number of its error beside it. -/
def keysL (l : List Tl) : List Tl × Nat := if l.all rightL = false then ([], 1) else if 16 < (onceL l).length then ([], 13) else (onceL l, 0)
theorem keys_again {l : List Tl} (h : (keysL l).2 = 0) : keysL (keysL l).1 = keysL l := by
  unfold keysL at h ⊢
  split at h
  · cases h
  · rename_i h1
    split at h
    · cases h
    · rename_i h2
      rw [if_neg h1, if_neg h2]
      simp only
      rw [once_once, if_neg h2, if_neg]
      rw [Bool.not_eq_false, List.all_eq_true] at h1 ⊢
      exact fun x hx => h1 x ((once_mem l x).1 hx)
def listL (ks : List Tl) : List UInt8 := 40 :: Lib.join (ks.map flagL) [32] ++ [41]
end Go.Proofs.Ytggnkpbadfabcaa.Fg
