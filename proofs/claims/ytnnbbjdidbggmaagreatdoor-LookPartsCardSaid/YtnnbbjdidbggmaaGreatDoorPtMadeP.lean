/-
  Plain facts: what marks, and lines between them, tell as kids; parts without headers that say otherwise. No program in this text. Conditions: none.
-/
import Derived.Test.YtnnbbjdidbggmaaGreatDoorPtPlain
import Derived.Test.YtnnbbjdidbggmaaGreatDoorF0MadeP
namespace Go.Proofs.YtnnbbjdidbggmaaGreatDoor.Pt
open Go F0

/-! ### Pieces of a text -/
theorem seg_at {s A M Z : List UInt8} {a b : Nat} (h : s = A ++ (M ++ Z)) (ha : A.length = a) (hb : a + M.length = b) : segL s a b = M := by
  unfold segL
  rw [h, ← hb, ← ha, List.take_append]
  simp
/-- A line, and what stands behind it. -/
theorem line_at {e : List UInt8} (he : IsEnd e) (t r : List UInt8) (p : Nat) (h10 : ∀ c ∈ t, c ≠ 10) (h13 : t.getLast? ≠ some 13) : linesL p (t ++ (e ++ r)) = (t, p + t.length + e.length) :: linesL (p + t.length + e.length) r := by
  rw [← List.append_assoc]
  exact line_end he t r p h10 h13

/-! ### Kids -/
def closeL (s : List UInt8) (o : Option Nat) (p : Nat) : List (Nat × Nat) := (o.map fun f => (f, backL s f p)).toList
/-- Lines, each with its end, none of which is a mark. -/
def Calm (bd c : List UInt8) : Prop := ∀ (s : List UInt8) (b : Nat) (o : Option Nat) (p : Nat) (r : List UInt8), kidsG bd s b o p (linesL p (c ++ r)) = kidsG bd s b o (p + c.length) (linesL (p + c.length) r)
theorem calm_nil (bd : List UInt8) : Calm bd [] := fun s b o p r => by simp
theorem calm_append {bd c d : List UInt8} (h : Calm bd c) (k : Calm bd d) : Calm bd (c ++ d) := fun s b o p r => by
  rw [List.append_assoc, h, k, List.length_append, Nat.add_assoc]
theorem calm_line {bd e : List UInt8} (he : IsEnd e) {t : List UInt8} (h10 : ∀ c ∈ t, c ≠ 10) (h13 : t.getLast? ≠ some 13) (hm : isMark bd t = false) (hl : isLast bd t = false) : Calm bd (t ++ e) := fun s b o p r => by
  rw [List.append_assoc, line_at he t r p h10 h13, kidsG, hm, hl, List.length_append, Nat.add_assoc]
  rfl
theorem kids_mark {bd e : List UInt8} (he : IsEnd e) {t : List UInt8} (h10 : ∀ c ∈ t, c ≠ 10) (h13 : t.getLast? ≠ some 13) (hm : isMark bd t = true) (s : List UInt8) (b : Nat) (o : Option Nat) (p : Nat) (r : List UInt8) :
    kidsG bd s b o p (linesL p (t ++ (e ++ r))) = closeL s o p ++ kidsG bd s b (some (p + t.length + e.length)) (p + t.length + e.length) (linesL (p + t.length + e.length) r) := by
  rw [line_at he t r p h10 h13, kidsG, hm]
  rfl
theorem kids_last {bd e : List UInt8} (he : IsEnd e) {t : List UInt8} (h10 : ∀ c ∈ t, c ≠ 10) (h13 : t.getLast? ≠ some 13) (hm : isMark bd t = false) (hl : isLast bd t = true) (s : List UInt8) (b : Nat) (o : Option Nat) (p : Nat) (r : List UInt8) :
    kidsG bd s b o p (linesL p (t ++ (e ++ r))) = closeL s o p := by
  rw [line_at he t r p h10 h13, kidsG, hm, hl]
  rfl
theorem kids_stop (bd s : List UInt8) (b f p : Nat) : kidsG bd s b (some f) p (linesL p []) = [(f, b)] := by
  rw [linesL_nil, kidsG]
  rfl
/-- A last line without its end. -/
theorem kids_open {bd t : List UInt8} (h10 : ∀ c ∈ t, c ≠ 10) (hm : isMark bd t = false) (hl : isLast bd t = false) (s : List UInt8) (b f p : Nat) : kidsG bd s b (some f) p (linesL p t) = [(f, b)] := by
  by_cases h0 : t = []
  · rw [h0]
    exact kids_stop bd s b f p
  · rw [linesL_last t p h10 h0, kidsG, hm, hl, kidsG]
    rfl
theorem kids_lastopen {bd t : List UInt8} (h10 : ∀ c ∈ t, c ≠ 10) (h0 : t ≠ []) (hm : isMark bd t = false) (hl : isLast bd t = true) (s : List UInt8) (b : Nat) (o : Option Nat) (p : Nat) : kidsG bd s b o p (linesL p t) = closeL s o p := by
  rw [linesL_last t p h10 h0, kidsG, hm, hl]
  rfl
theorem hasSuffix_snoc (l : List UInt8) : Lib.hasSuffix (l ++ [10]) [10] = true := by
  unfold Lib.hasSuffix
  rw [List.isSuffixOf_iff_suffix]
  exact ⟨l, rfl⟩
theorem trimSuffix_snoc (l : List UInt8) : Lib.trimSuffix (l ++ [10]) [10] = l := by
  unfold Lib.trimSuffix
  rw [if_pos (hasSuffix_snoc l)]
  simp
theorem woEnd_end {c e : List UInt8} (he : IsEnd e) (h13 : e = [10] → c.getLast? ≠ some 13) : woEnd (c ++ e) = c := by
  rcases he with rfl | rfl
  · unfold woEnd
    rw [hasSuffix_snoc, trimSuffix_snoc, if_pos rfl, chopL_other (h13 rfl)]
  · have : c ++ [13, 10] = (c ++ [13]) ++ [10] := by simp
    unfold woEnd
    rw [this, hasSuffix_snoc, trimSuffix_snoc, if_pos rfl, chopL_cr]
theorem back_end {e : List UInt8} (he : IsEnd e) {s c : List UInt8} {f p : Nat} (h : segL s f p = c ++ e) (h13 : e = [10] → c.getLast? ≠ some 13) : backL s f p = f + c.length := by
  unfold backL
  unfold segL at h
  rw [h, woEnd_end he h13]
theorem close_none (s : List UInt8) (p : Nat) : closeL s none p = [] := rfl
theorem close_some {e : List UInt8} (he : IsEnd e) {s c : List UInt8} {f p : Nat} (h : segL s f p = c ++ e) (h13 : e = [10] → c.getLast? ≠ some 13) : closeL s (some f) p = [(f, f + c.length)] := by
  unfold closeL
  rw [Option.map_some, back_end he h h13]
  rfl

/-! ### Parts -/
theorem read_leaf {s : List UInt8} {a b : Nat} (h : hasL s a b = none) : ∀ (d n : Nat), readL s d a b n = (partL s a b [], n)
  | 0, n => by rw [readL]
  | d + 1, n => by rw [readL, h]
theorem read_kids {s bd : List UInt8} {a b : Nat} (h : hasL s a b = some bd) (d n : Nat) : readL s (d + 1) a b n = (partL s a b (foldK (readL s d) (kidsL bd s (headL s a b).2 b) n).1, (foldK (readL s d) (kidsL bd s (headL s a b).2 b) n).2) := by
  rw [readL, h]
/-- A headers' type that is not said, or a text's. -/
theorem has_none {s : List UInt8} {a b : Nat} {fs : List Fl} {k : Nat} (h : headL s a b = (fs, k)) (ht : Lib.hasPrefix (typeL fs).1 multiT = false) : hasL s a b = none := by
  unfold hasL markL
  rw [h, ht]
  rfl
theorem part_parts (s : List UInt8) (a b : Nat) (l : List P) : (partL s a b l).kids = l ∧ (partL s a b l).ty = (typeL (headL s a b).1).1 ∧ (partL s a b l).enc = encL (headL s a b).1 ∧ (partL s a b l).fm = (headL s a b).2 ∧ (partL s a b l).to = b ∧ (partL s a b l).hd = a := ⟨rfl, rfl, rfl, rfl, rfl, rfl⟩
/-- One header, an empty line. -/
theorem head_one {e : List UInt8} (he : IsEnd e) (t r : List UInt8) (a b : Nat) (h10 : ∀ c ∈ t, c ≠ 10) (h13 : t.getLast? ≠ some 13) (h0 : t ≠ []) (hg : goesL t = false) : splitL a b (t ++ (e ++ (e ++ r))) = (oneL t, a + t.length + e.length + e.length) := by
  have h1 := line_at he t (e ++ r) a h10 h13
  have h2 := line_at he [] r (a + t.length + e.length) (by simp) (by simp)
  rw [List.nil_append, List.length_nil, Nat.add_zero] at h2
  unfold splitL
  rw [h1, h2]
  have h3 := fields_stop (to := b) (n := a + t.length + e.length + e.length) (ls := [(t, a + t.length + e.length)]) (r := linesL (a + t.length + e.length + e.length) r) (fun x hx => by simp only [List.mem_singleton] at hx; rw [hx]; exact h0)
  rw [List.singleton_append] at h3
  rw [h3]
  have h4 : endL (stL [t]) = oneL t := by
    unfold stL endL
    rw [List.foldl_cons, List.foldl_nil]
    unfold stepL
    rw [hg]
    simp [oneL, fieldL_nil]
  simp only [List.map_cons, List.map_nil]
  rw [h4]
/-- No header, an empty line. -/
theorem head_empty {e : List UInt8} (he : IsEnd e) (r : List UInt8) (a b : Nat) : splitL a b (e ++ r) = ([], a + e.length) := by
  have h2 := line_at he [] r a (by simp) (by simp)
  rw [List.nil_append, List.length_nil, Nat.add_zero] at h2
  unfold splitL
  rw [h2]
  have h3 := fields_stop (to := b) (n := a + e.length) (ls := []) (r := linesL (a + e.length) r) (by simp)
  rw [List.nil_append] at h3
  rw [h3]
  have : endL (stL []) = [] := by decide
  simp only [List.map_nil]
  rw [this]
theorem type_none {fs : List Fl} (h : fstL fs ctypeT = none) : typeL fs = (plainT, []) := by
  unfold typeL fvL
  rw [h]
  rfl
end Go.Proofs.YtnnbbjdidbggmaaGreatDoor.Pt
