/-
  The law LookBalanced holds as its card says, for every input: it returns true, and what it is handed reads as it did. Conditions: none of its own.
-/
import Derived.Test.YtnnbbjdidbggmaaGreatDoorLkPlain
import Derived.Test.YtnnbbjdidbggmaaGreatDoorPtWell
import Derived.Test.YtnnbbjdidbggmaaGreatDoorPtSizes
import Derived.Test.YtnnbbjdidbggmaaGreatDoorLkLow
import Derived.Test.YtnnbbjdidbggmaaGreatDoorU8Valid
import Derived.Test.YtnnbbjdidbggmaaGreatDoorF0Split
import Derived.Test.YtnnbbjdidbggmaaGreatDoorPtType
import Derived.Test.YtnnbbjdidbggmaaGreatDoorKit
import Derived.Test.YtnnbbjdidbggmaaGreatDoorRxIdx
import Derived.Test.YtnnbbjdidbggmaaGreatDoorPtBx
import Derived.Test.YtnnbbjdidbggmaaGreatDoorCards
import Derived.Test.YtnnbbjdidbggmaaGreatDoorTie
import Derived.Lib.Bytealg
import Derived.Lib.Join
import Derived.Lib.IndexBytes
import Derived.Deep.CutRange
import Derived.Deep.RegionWith
import Derived.Lib.IndexLaws
import Derived.IntWalk
import Derived.Deep.RegionHeld3
import Derived.ProofKit
import Derived.OpenShut
import Derived.Deep.DeepHandedRow
import Derived.Lib.LaidTab
import Derived.Lay
import Derived.LaidSub
import Derived.MakeChecks
import Derived.ShutString
import Derived.Carry
namespace Go.Proofs.YtnnbbjdidbggmaaGreatDoor.Lk
open Go Ad

/-- Each address told is no longer than this. -/
def TS (n : Nat) (T : List Ad3) : Prop := ∀ a ∈ T, a.1.length ≤ 2 * n ∧ a.2.1.length ≤ n ∧ a.2.2.length ≤ n
theorem TS.up {n m : Nat} {T : List Ad3} (h : TS n T) (hm : n ≤ m) : TS m T := fun a ha => by have := h a ha; omega
theorem cutA_le (p : List UInt8) : (cutA p).1.length ≤ p.length ∧ (cutA p).2.length ≤ p.length := by
  unfold cutA
  split
  · simp
  · simp only [List.length_take, List.length_drop]; omega
theorem TS.tell {n : Nat} {s : St} (h : TS n s.told) (hb : Bd n s) : TS n (tellS s).told := by
  show TS n (s.told ++ oneA (nameA s) (placeA s))
  intro a ha
  rcases List.mem_append.1 ha with ha | ha
  · exact h a ha
  · unfold oneA at ha
    split at ha
    · cases ha
    · simp only [List.mem_singleton] at ha
      subst ha
      have hw := hb.wt
      have h1 : (nameA s).length ≤ 2 * n := by
        unfold nameA
        split
        · have h2 := Wd.decW_len _ true (Lib.join s.words [32]) (Nat.le_refl _)
          have h3 := join_len s.words [32] (by decide)
          omega
        · simp
      have h2 : (placeA s).length ≤ n := by
        unfold placeA
        split
        · exact hb.angle
        · have h3 := join_len s.words [] (by decide)
          omega
      have h3 := cutA_le (placeA s)
      exact ⟨h1, Nat.le_trans h3.1 h2, Nat.le_trans h3.2 h2⟩
theorem begin_told (s : St) (c : UInt8) : (beginS s c).told = s.told ∨ (beginS s c).told = (tellS s).told := by
  unfold beginS
  repeat' split
  all_goals first | exact Or.inl rfl | exact Or.inr rfl
theorem step_told (s : St) (c : UInt8) : (stepS s c).told = s.told ∨ (stepS s c).told = (tellS s).told ∨ (stepS s c).told = (tellS (endWordS s)).told := by
  unfold stepS
  split
  · split
    · rcases begin_told (endWordS s) c with h | h
      · exact Or.inl h
      · exact Or.inr (Or.inr h)
    · exact Or.inl rfl
  split
  · rcases begin_told s c with h | h
    · exact Or.inl h
    · exact Or.inr (Or.inl h)
  unfold angleS remarkS
  repeat' split
  all_goals exact Or.inl rfl
theorem TS.step {n : Nat} {s : St} (h : TS n s.told) (hb : Bd n s) (c : UInt8) : TS (n + 2) (stepS s c).told := by
  rcases step_told s c with e | e | e <;> rw [e]
  · exact h.up (by omega)
  · exact (h.tell hb).up (by omega)
  · exact (TS.tell (s := endWordS s) (n := n + 1) (h.up (by omega)) hb.endWord).up (by omega)
theorem TS.run {n : Nat} {s : St} (h : TS n s.told) (hb : Bd n s) (l : List UInt8) : TS (n + 2 * l.length) (run s l).told := by
  induction l generalizing n s with
  | nil => exact h
  | cons c r ih =>
    rw [run_cons]
    exact (ih (h.step hb c) (hb.step c)).up (by rw [List.length_cons]; omega)
theorem doc_small (l : List UInt8) : TS (2 * l.length + 3) (docA l) := by
  have h0 : TS 0 (fresh []).told := fun a ha => by cases ha
  have h1 := h0.run (Bd.new []) l
  have h2 := run_bd l
  rw [Nat.zero_add] at h1
  unfold docA endS
  split
  · exact TS.tell (s := endWordS { (run (fresh []) l) with txt := (run (fresh []) l).txt ++ [92] }) (h1.up (by omega)) (((h2.put 92 h2.st).endWord).up (by omega))
  split
  · exact TS.tell (s := endWordS (run (fresh []) l)) (h1.up (by omega)) (h2.endWord.up (by omega))
  split
  · exact TS.tell (s := endAngleS (run (fresh []) l)) (h1.up (by omega)) (h2.endAngle.up (by omega))
  · exact TS.tell (s := run (fresh []) l) (h1.up (by omega)) (h2.up (by omega))
theorem str_len (l : List UInt8) (h : l.length ≤ 1099511627) : (Tx.strL l).length ≤ 2 * l.length + 20 := by
  unfold Tx.strL
  split
  · have := (Tx.escL_length l).2
    simp only [List.length_append, List.length_cons, List.length_nil]
    omega
  · unfold Tx.litL
    have := Tx.nDigits_le (k := 12) (u := l.length) (by omega)
    rw [← Lib.decDigits_length] at this
    simp only [List.length_append, List.length_cons, List.length_nil]
    omega
theorem one_len {n : Nat} {a : Ad3} (hn : n ≤ 100000) (h : a.1.length ≤ 2 * n ∧ a.2.1.length ≤ n ∧ a.2.2.length ≤ n) : (oneAdL a).length ≤ 8 * n + 100 := by
  have h1 := str_len a.1 (by omega)
  have h2 := str_len a.2.1 (by omega)
  have h3 := str_len a.2.2 (by omega)
  unfold oneAdL
  simp only [List.length_append]
  have h4 : (if a.1 = [] then nilT else Tx.strL a.1).length ≤ 4 * n + 20 := by
    split
    · have : nilT.length = 3 := rfl
      omega
    · omega
  have h5 : nilT.length = 3 := rfl
  simp only [List.length_cons, List.length_nil]
  omega
theorem flat_len {n : Nat} (hn : n ≤ 100000) : ∀ {T : List Ad3} (_ : TS n T), (T.flatMap oneAdL).length ≤ T.length * (8 * n + 100)
  | [], _ => by simp
  | a :: r, h => by
    rw [List.flatMap_cons, List.length_append, List.length_cons, Nat.succ_mul]
    have h1 := one_len hn (h a (by simp))
    have h2 := flat_len hn (T := r) (fun x hx => h x (by simp [hx]))
    omega
/-- What is told of the addresses of a short text. -/
theorem adL_len {l : List UInt8} (h : l.length ≤ 32768) : (adL (docA l)).length ≤ 50000000000 ∧ TS 65539 (docA l) ∧ (docA l).length ≤ 65539 := by
  have h1 := (doc_small l).up (m := 65539) (by omega)
  have h2 := doc_len l
  refine ⟨?_, h1, by omega⟩
  have h3 := flat_len (by decide) h1
  have h4 : (docA l).length * (8 * 65539 + 100) ≤ 65539 * (8 * 65539 + 100) := Nat.mul_le_mul_right _ (by omega)
  unfold adL
  split
  · decide
  · simp only [List.length_append, List.length_cons, List.length_nil]
    omega
end Go.Proofs.YtnnbbjdidbggmaaGreatDoor.Lk
namespace Go.Proofs.YtnnbbjdidbggmaaGreatDoor.Lk
open Go Pt

def oneParL (f : Pt.Fl) : List UInt8 := Tx.strL f.1 ++ [32] ++ Tx.strL f.2
/-- The first k parameters, with what stands ahead of each. -/
def parK (ps : List Pt.Fl) : Nat → List UInt8
  | 0 => []
  | k + 1 => parK ps k ++ ((if k = 0 then [40] else [32]) ++ (match ps[k]? with | some f => oneParL f | none => []))
def parL (ps : List Pt.Fl) : List UInt8 := if ps = [] then nilT else parK ps ps.length ++ [41]
theorem parK_succ (ps : List Pt.Fl) (k : Nat) (h : k < ps.length) : parK ps (k + 1) = parK ps k ++ ((if k = 0 then [40] else [32]) ++ oneParL ps[k]) := by
  rw [parK, List.getElem?_eq_getElem h]
def kindL (ty : List UInt8) : List UInt8 := (Lib.cut ty [47]).1
def formL (ty : List UInt8) : List UInt8 := (Lib.cut ty [47]).2.1
def textT : List UInt8 := [116, 101, 120, 116]
def cntL (s : List UInt8) (j : P) : List UInt8 := if kindL j.ty = textT then [32] ++ Lib.decDigits (Lib.countByte (segL s j.fm j.to) 10) else []
def leafL (s : List UInt8) (j : P) : List UInt8 :=
  (Tx.strL (kindL j.ty) ++ [32] ++ Tx.strL (formL j.ty) ++ [32]) ++ parL j.ps ++ ([32] ++ nilT ++ [32] ++ nilT ++ [32] ++ Tx.strL j.enc ++ [32] ++ Lib.decDigits (j.to - j.fm)) ++ cntL s j ++ [41]
/-- What IMAP tells of a part. -/
def structP (s : List UInt8) : P → List UInt8
  | .mk ty ps enc att h f t kids => [40] ++ (if kids = [] then leafL s (.mk ty ps enc att h f t kids) else structK s kids ++ ([32] ++ Tx.strL (formL ty) ++ [41]))
where structK (s : List UInt8) : List P → List UInt8
  | [] => []
  | k :: r => structP s k ++ structK s r
theorem structP_leaf (s : List UInt8) {j : P} (h : j.kids = []) : structP s j = [40] ++ leafL s j := by
  obtain ⟨ty, ps, enc, att, hh, f, t, kids⟩ := j
  rw [structP, if_pos (show kids = [] from h)]
theorem structP_kids (s : List UInt8) {j : P} (h : j.kids ≠ []) : structP s j = [40] ++ (structP.structK s j.kids ++ ([32] ++ Tx.strL (formL j.ty) ++ [41])) := by
  obtain ⟨ty, ps, enc, att, hh, f, t, kids⟩ := j
  rw [structP, if_neg (show kids ≠ [] from h)]
  rfl
theorem structK_snoc (s : List UInt8) (j : P) : ∀ l : List P, structP.structK s (l ++ [j]) = structP.structK s l ++ structP s j
  | [] => by rw [List.nil_append, structP.structK, structP.structK, structP.structK, List.append_nil, List.nil_append]
  | k :: r => by rw [List.cons_append, structP.structK, structP.structK, structK_snoc s j r, List.append_assoc]
theorem structK_take (s : List UInt8) (l : List P) (k : Nat) (h : k < l.length) : structP.structK s (l.take (k + 1)) = structP.structK s (l.take k) ++ structP s l[k] := by
  rw [List.take_succ_eq_append_getElem h, structK_snoc]

/-! ### How much there is -/
/-- How many parts. -/
def wtP : P → Nat
  | .mk _ _ _ _ _ _ _ kids => wtK kids + 1
where wtK : List P → Nat
  | [] => 0
  | k :: r => wtP k + wtK r
theorem wt_own (j : P) : wtP j = wtP.wtK j.kids + 1 := by
  obtain ⟨ty, ps, enc, att, hh, f, t, kids⟩ := j
  rfl
theorem wt_take : ∀ (l : List P) (k : Nat) (h : k < l.length), wtP.wtK (l.take k) + wtP l[k] ≤ wtP.wtK l
  | [], k, h => by simp at h
  | j :: r, 0, _ => by simp [wtP.wtK]
  | j :: r, k + 1, h => by
    have := wt_take r k (by simpa using h)
    simp only [List.take_succ_cons, wtP.wtK, List.getElem_cons_succ]
    omega
theorem foldK_wt {rd : Nat → Nat → Nat → P × Nat} (h : ∀ f e n, n ≤ 30 → wtP (rd f e n).1 + n ≤ (rd f e n).2 + 1 ∧ (rd f e n).2 ≤ 30) : ∀ (l : List (Nat × Nat)) (n : Nat) (_ : n ≤ 30), wtP.wtK (foldK rd l n).1 + n ≤ (foldK rd l n).2
  | [], n, _ => by rw [foldK]; simp [wtP.wtK]
  | (f, e) :: r, n, hn => by
    rw [foldK]
    split
    · have h1 := h f e (n + 1) (by omega)
      have h2 := foldK_wt h r (rd f e (n + 1)).2 h1.2
      simp only [wtP.wtK]
      omega
    · simp [wtP.wtK]
theorem read_wt (s : List UInt8) : ∀ (d a b n : Nat) (_ : n ≤ 30), wtP (readL s d a b n).1 + n ≤ (readL s d a b n).2 + 1
  | 0, a, b, n, h => by rw [readL]; simp [partL, wtP, wtP.wtK]; omega
  | d + 1, a, b, n, h => by
    rw [readL]
    split
    · simp [partL, wtP, wtP.wtK]; omega
    · rename_i bd _
      have h1 := foldK_wt (rd := readL s d) (fun f e n hn => ⟨read_wt s d f e n hn, (read_count s d f e n hn).2⟩) (kidsL bd s (headL s a b).2 b) n h
      simp only [partL, wtP]
      omega
theorem tree_wt (s : List UInt8) : wtP (treeL s) ≤ 30 := by
  have h1 := read_wt s 6 0 s.length 1 (by omega)
  have h2 := (read_count s 6 0 s.length 1 (by omega)).2
  unfold treeL
  omega
/-- Its texts are short, it lies in the octets. -/
def fineP (n : Nat) : P → Prop
  | .mk ty ps enc _ _ f t kids => (ty.length ≤ 40000 ∧ enc.length ≤ 40000 ∧ ps.length ≤ 40000 ∧ (∀ x ∈ ps, x.1.length ≤ 40000 ∧ x.2.length ≤ 40000) ∧ f ≤ t ∧ t ≤ n) ∧ fineK n kids
where fineK (n : Nat) : List P → Prop
  | [] => True
  | k :: r => fineP n k ∧ fineK n r
theorem fineK_mem {n : Nat} : ∀ {l : List P} (_ : fineP.fineK n l), ∀ k ∈ l, fineP n k
  | [], _, k, hk => by cases hk
  | j :: r, h, k, hk => by
    rcases List.mem_cons.1 hk with rfl | hk
    · exact h.1
    · exact fineK_mem h.2 k hk
theorem fine_own {n : Nat} {j : P} (h : fineP n j) : (j.ty.length ≤ 40000 ∧ j.enc.length ≤ 40000 ∧ j.ps.length ≤ 40000 ∧ (∀ x ∈ j.ps, x.1.length ≤ 40000 ∧ x.2.length ≤ 40000) ∧ j.fm ≤ j.to ∧ j.to ≤ n) ∧ ∀ k ∈ j.kids, fineP n k := by
  obtain ⟨ty, ps, enc, att, hh, f, t, kids⟩ := j
  exact ⟨h.1, fineK_mem h.2⟩
theorem foldK_fine {m : Nat} {rd : Nat → Nat → Nat → P × Nat} {b : Nat} (h : ∀ f e n, f ≤ e → e ≤ b → fineP m (rd f e n).1) : ∀ (l : List (Nat × Nat)) (lo n : Nat) (_ : Ord b lo l), fineP.fineK m (foldK rd l n).1
  | [], lo, n, _ => by rw [foldK]; trivial
  | (f, e) :: r, lo, n, ho => by
    obtain ⟨h1, h2, h3, h4⟩ := ho
    rw [foldK]
    split
    · exact ⟨h f e (n + 1) h2 h3, foldK_fine h r e _ h4⟩
    · trivial
theorem part_fine {s : List UInt8} (hs : s.length ≤ 32768) {a b : Nat} (hab : a ≤ b) (hb : b ≤ s.length) : (typeL (headL s a b).1).1.length ≤ 40000 ∧ (encL (headL s a b).1).length ≤ 40000 ∧ (typeL (headL s a b).1).2.length ≤ 40000 ∧ (∀ x ∈ (typeL (headL s a b).1).2, x.1.length ≤ 40000 ∧ x.2.length ≤ 40000) ∧ (headL s a b).2 ≤ b ∧ b ≤ s.length := by
  have h1 := type_sizes (s := s) (a := a) (b := b) hb
  have h2 := split_in hab hb
  have h3 := (head_sizes (s := s) (a := a) (b := b) hb).1
  refine ⟨by omega, ?_, by omega, fun x hx => by have := h1.2.2 x hx; omega, h2.2, hb⟩
  unfold encL
  cases e : fstL (headL s a b).1 cencT with
  | none => decide
  | some f =>
    have h4 := small_le f.2
    have h5 := (h3 f (fst_mem e)).2
    simp only
    omega
theorem read_fine (s : List UInt8) (hs : s.length ≤ 32768) : ∀ (d a b n : Nat) (_ : a ≤ b) (_ : b ≤ s.length), fineP s.length (readL s d a b n).1
  | 0, a, b, n, hab, hb => by
    have h := part_fine hs hab hb
    rw [readL]
    exact ⟨h, trivial⟩
  | d + 1, a, b, n, hab, hb => by
    have h := part_fine hs hab hb
    rw [readL]
    split
    · exact ⟨h, trivial⟩
    · rename_i bd _
      refine ⟨h, ?_⟩
      exact foldK_fine (b := b) (fun f e n h1 h2 => read_fine s hs d f e n h1 (by omega)) _ (headL s a b).2 n (kids_ord bd s b _ none _ _ (linesG_rise b _ [] _ _ (Nat.le_refl _) (by
        have := seg_len (s := s) (a := (headL s a b).2) (b := b) hb
        have := (split_in hab hb).2
        omega)) (split_in hab hb).2 (Nat.le_refl _) (fun f e => by cases e))
theorem tree_fine (s : List UInt8) (hs : s.length ≤ 32768) : fineP s.length (treeL s) := read_fine s hs 6 0 s.length 1 (Nat.zero_le _) (Nat.le_refl _)
theorem cut_len2 (l : List UInt8) : (kindL l).length ≤ l.length ∧ (formL l).length ≤ l.length := by
  unfold kindL formL
  rw [Lib.cut, Lib.index_one]
  split
  · simp only [List.length_take, List.length_drop]; omega
  · simp
theorem onePar_len {f : Pt.Fl} (h : f.1.length ≤ 40000 ∧ f.2.length ≤ 40000) : (oneParL f).length ≤ 160041 := by
  have h1 := str_len f.1 (by omega)
  have h2 := str_len f.2 (by omega)
  unfold oneParL
  simp only [List.length_append, List.length_singleton]
  omega
theorem parK_len {ps : List Pt.Fl} (h : ∀ x ∈ ps, x.1.length ≤ 40000 ∧ x.2.length ≤ 40000) : ∀ k, (parK ps k).length ≤ k * 160042
  | 0 => Nat.le_refl _
  | k + 1 => by
    have h1 := parK_len h k
    rw [parK, List.length_append, List.length_append]
    have h2 : (if k = 0 then [40] else [32] : List UInt8).length = 1 := by split <;> rfl
    have h3 : (match ps[k]? with | some f => oneParL f | none => []).length ≤ 160041 := by
      cases e : ps[k]? with
      | none => simp
      | some f => exact onePar_len (h f (List.mem_of_getElem? e))
    omega
theorem parL_len {ps : List Pt.Fl} (h : ∀ x ∈ ps, x.1.length ≤ 40000 ∧ x.2.length ≤ 40000) (hl : ps.length ≤ 40000) : (parL ps).length ≤ 6500000000 := by
  have h1 := parK_len h ps.length
  have h2 : ps.length * 160042 ≤ 40000 * 160042 := Nat.mul_le_mul_right _ hl
  unfold parL
  split
  · decide
  · simp only [List.length_append, List.length_singleton]
    omega
theorem dig_len {n : Nat} (h : n ≤ 1099511627776) : (Lib.decDigits n).length ≤ 13 := by
  rw [Lib.decDigits_length]
  exact Tx.nDigits_le (k := 12) (by omega)
theorem cnt_len {s : List UInt8} (hs : s.length ≤ 32768) (j : P) : (cntL s j).length ≤ 14 := by
  unfold cntL
  split
  · have h1 : Lib.countByte (segL s j.fm j.to) 10 ≤ (segL s j.fm j.to).length := List.count_le_length
    have h2 : (segL s j.fm j.to).length ≤ s.length := by unfold segL; simp only [List.length_drop, List.length_take]; omega
    have := dig_len (n := Lib.countByte (segL s j.fm j.to) 10) (by omega)
    simp only [List.length_append, List.length_singleton]
    omega
  · simp
theorem leaf_len {s : List UInt8} (hs : s.length ≤ 32768) {j : P} (h : fineP s.length j) : (leafL s j).length ≤ 6600000000 := by
  obtain ⟨⟨h1, h2, h3, h4, h5, h6⟩, _⟩ := fine_own h
  have q0 := cut_len2 j.ty
  have q1 := str_len (kindL j.ty) (by omega)
  have q2 := str_len (formL j.ty) (by omega)
  have q3 := str_len j.enc (by omega)
  have q4 := parL_len h4 h3
  have q5 := cnt_len hs j
  have q6 := dig_len (n := j.to - j.fm) (by omega)
  have q7 : nilT.length = 3 := rfl
  unfold leafL
  simp only [List.length_append, List.length_singleton]
  omega
theorem structP_len {s : List UInt8} (hs : s.length ≤ 32768) (j : P) : fineP s.length j → (structP s j).length ≤ wtP j * 7000000000 := by
  refine P.ind (M := fun j => fineP s.length j → (structP s j).length ≤ wtP j * 7000000000) (fun j ih h => ?_) j
  obtain ⟨hown, hk⟩ := fine_own h
  rw [wt_own]
  by_cases e : j.kids = []
  · rw [structP_leaf s e, List.length_append, List.length_singleton]
    have := leaf_len hs h
    omega
  · rw [structP_kids s e]
    have h1 : ∀ l : List P, (∀ k ∈ l, k ∈ j.kids) → (structP.structK s l).length ≤ wtP.wtK l * 7000000000 := by
      intro l
      induction l with
      | nil => intro _; rw [structP.structK]; simp
      | cons k r ihl =>
        intro hm
        rw [structP.structK, List.length_append, wtP.wtK]
        have a1 := ih k (hm k (by simp)) (hk k (hm k (by simp)))
        have a2 := ihl (fun x hx => hm x (by simp [hx]))
        omega
    have h2 := h1 j.kids (fun _ h => h)
    have q0 := cut_len2 j.ty
    have q2 := str_len (formL j.ty) (by have := hown.1; omega)
    have := hown.1
    simp only [List.length_append, List.length_singleton]
    omega
def structL (s : List UInt8) : List UInt8 := structP s (treeL s)
end Go.Proofs.YtnnbbjdidbggmaaGreatDoor.Lk
namespace Go.Proofs.YtnnbbjdidbggmaaGreatDoor.Lk
open Go Go.RowKit Go.Joins Kit F0 Pt

/-- The headers of a whole message. -/
theorem head_any (s : ByteArray) (w : World) (hs : s.size ≤ 32768) (hE : Srch.Env w) :
    Calls Tryz.prog 37 #[.string s, .int .i64 0, .int .i64 (s.size : Int)] w fun e w' => ∃ v, e = .returned (.tuple #[v, .int .i64 ((headL s.data.toList 0 s.size).2 : Int)]) ∧
      FAt w' v (headL s.data.toList 0 s.size).1 ∧ Below w.heap.size w w' :=
  (split_some s 0 s.size w hs (Nat.zero_le _) (Nat.le_refl _) hE).mono (fun e w' h => by
    obtain ⟨v, he, hr, hb⟩ := h
    exact ⟨v, he, RowF.at hr, hb⟩)
/-- .. and their sizes. -/
theorem head_small (s : ByteArray) (hs : s.size ≤ 32768) : (∀ f ∈ (headL s.data.toList 0 s.size).1, f.1.length ≤ 1073741824 ∧ f.2.length ≤ 1073741824) ∧ (headL s.data.toList 0 s.size).1.length ≤ 1073741824 ∧ ∀ n, (fvL (headL s.data.toList 0 s.size).1 n).length ≤ 32768 := by
  have h := head_sizes (s := s.data.toList) (a := 0) (b := s.size) (by rw [Lib.size_eq]; exact Nat.le_refl _)
  rw [← Lib.size_eq] at h
  refine ⟨fun f hf => by have := h.1 f hf; omega, by omega, fun n => ?_⟩
  unfold fvL fstL
  cases e : List.find? (fun f => Tx.foldL f.1 == Tx.foldL n) (headL s.data.toList 0 s.size).1 with
  | none => simp
  | some f =>
    have := h.1 f (List.mem_of_find?_eq_some e)
    simp only
    omega

theorem gone_new {W0 : World} {B A : Nat} {l : List UInt8} {w : World} (h : GatB W0 B A l w) (o : Obj) : GoneB W0 B A l w (w.alloc o) :=
  gone_next (gone_refl h) ((Below.refl _ w).alloc (Nat.le_refl _) o)
/-- Adding texts that are laid now. -/
theorem add_new (W0 : World) {B : Nat} (A : Nat) (l : List UInt8) (ts : List ByteArray) (cs : Array Value) (n : Nat) (w : World) (h : GatB W0 B A l w) (hcs : cs.toList = ts.map .string) (hn : ts.length = n) (hn9 : n ≤ 1099511627776) (hl : l.length + (flatT ts).length ≤ 1099511627776) :
    Calls Tryz.prog 53 #[.slice (some ⟨w.heap.size, 0, none⟩) n n, .pointer (some ⟨A, 0, none⟩)] (w.alloc (.cells cs 9)) fun e w' => e = .returned (.tuple #[]) ∧ GoneB W0 B A (l ++ flatT ts) w w' :=
  (add_any W0 A l ts cs w.heap.size n n (0, 0) _ (gone_new h _).gat (Kit.fresh_block w cs _) hcs hn hn9 hl).mono (fun _ _ h' => ⟨h'.1, gone_trans (gone_new h _) h'.2⟩)

set_option maxHeartbeats 2000000 in
set_option maxRecDepth 100000 in
theorem readable_any (s : ByteArray) (w : World) (hs : s.size ≤ 1099511627) :
    Calls Tryz.prog 32 #[.string s] w fun e w' => e = .returned (.string ⟨(readL8 s.data.toList).toArray⟩) ∧ Below w.heap.size w w' := by
  cases hv : U8.validL s.data.toList
  · have HV := Lib.hid hv
    have HR : Hid (readL8 s.data.toList = Wd.latinL s.data.toList) := Lib.hid (by unfold readL8; rw [hv]; rfl)
    clear hv
    go_enter Tryz.func32, Tryz.ntmps32
    go_wp2_with fail
    refine (U8.valid_any s (by omega) w).mono ?_
    rintro e w' ⟨rfl, rfl⟩
    rw [HV.out]
    go_wp2_with fail
    refine (gather_any w).mono ?_
    rintro e w1 ⟨rfl, rfl⟩
    have H0 : Hid (Gat w w.heap.size (Wd.latinL (s.data.toList.take 0)) (w.alloc (.cells #[.slice none 0 0] 32))) := Lib.hid (by rw [List.take_zero]; exact gat_new w)
    go_wp2_with fail
    go_loopw [15] (fun i wr => ∃ k : Nat, k ≤ s.size ∧ i = .int .i64 (k : Int) ∧ Hid (Gat w w.heap.size (Wd.latinL (s.data.toList.take k)) wr)) (fun i _ => s.size - (intOf i).toNat)
    case atStart => exact ⟨0, Nat.zero_le _, rfl, H0⟩
    case round =>
      clear H0
      obtain ⟨k, hk, rfl, hG⟩ := hrel
      by_cases hlt : k < s.size
      · have gk : (k : Int) < (s.size : Int) := by omega
        have hr := Wd.latin_room s k
        have g0 := (s[k]).toNat_lt
        have hst := Lib.hid (Wd.latin_take s k hlt)
        have hp := Wd.putB_le (s[k].toNat : Int)
        obtain ⟨L, hL⟩ : ∃ L, Wd.latinL (s.data.toList.take k) = L := ⟨_, rfl⟩
        rw [hL] at hr hG hst
        clear hL
        go_wp2_with fail
        refine (U8.put_any (s[k].toNat : Int) wr).mono ?_
        rintro e w2 ⟨rfl, hb2⟩
        have hG2 := Lib.hid (hG.out.next hb2)
        obtain ⟨T, hT⟩ : ∃ T, U8.putB (s[k].toNat : Int) = T := ⟨_, rfl⟩
        have hTd : Hid (T.data.toList = U8.putL (s[k].toNat : Int)) := Lib.hid (by rw [← hT]; simp [U8.putB])
        rw [hT] at hp ⊢
        have hfl : (flatT [T]).length = T.size := by rw [flatT_cons, flatT_nil, List.append_nil, ← Lib.size_eq]
        clear hT
        go_wp2_with fail
        refine (add_new w w.heap.size L [T] #[.string T] 1 w2 hG2.out rfl rfl (by decide) (by omega)).mono ?_
        rintro e w3 ⟨rfl, hg3⟩
        have HG3 := Lib.hid hg3.gat
        clear hg3
        go_wp2_with fail
        go_roundw
        case rel =>
          refine ⟨k + 1, by omega, by go_num, ?_⟩
          rw [hst.out, ← hTd.out]
          have := HG3
          rw [flatT_cons, flatT_nil, List.append_nil] at this
          exact this
        case measure => simp [intOf]; omega
      · have gk : ¬ (k : Int) < (s.size : Int) := by omega
        rw [List.take_of_length_le (by rw [← Lib.size_eq]; omega)] at hG
        go_wp2_with fail
        refine (told_any w w.heap.size _ wr hG.out).mono ?_
        rintro e w4 ⟨rfl, rfl⟩
        have HB := Lib.hid hG.out.below
        go_wp2_with fail
        go_ret
        rw [HR.out]
        exact ⟨rfl, HB.out⟩
  · have HV := Lib.hid hv
    have HR : Hid (readL8 s.data.toList = s.data.toList) := Lib.hid (by unfold readL8; rw [hv]; rfl)
    clear hv
    go_enter Tryz.func32, Tryz.ntmps32
    go_wp2_with fail
    refine (U8.valid_any s (by omega) w).mono ?_
    rintro e w' ⟨rfl, rfl⟩
    rw [HV.out]
    go_wp2_with fail
    go_ret
    rw [HR.out]
    exact ⟨rfl, Below.refl _ _⟩

theorem dec_small {l : List UInt8} (h : l.length ≤ 32768) : (Wd.decW true l).length ≤ 65536 := by
  have := Wd.decW_len _ true l (Nat.le_refl _)
  omega
set_option maxHeartbeats 2000000 in
set_option maxRecDepth 100000 in
theorem subject_any (s : ByteArray) (w : World) (hs : s.size ≤ 32768) (hE : Srch.Env w) :
    Calls Tryz.prog 16 #[.string s] w fun e w' => e = .returned (.string ⟨(subjL s.data.toList).toArray⟩) ∧ Below w.heap.size w w' := by
  have HE := Lib.hid hE
  have HS : Hid (subjL s.data.toList = readL8 (Wd.decW true (fvL (headL s.data.toList 0 s.size).1 subjN))) := Lib.hid (by unfold subjL; rw [Lib.size_eq])
  have HSM := Lib.hid (head_small s hs)
  have HH := Lib.hid (head_any s w hs hE)
  obtain ⟨fs, hfs⟩ : ∃ fs, (headL s.data.toList 0 s.size).1 = fs := ⟨_, rfl⟩
  obtain ⟨bd, hbd⟩ : ∃ bd, (headL s.data.toList 0 s.size).2 = bd := ⟨_, rfl⟩
  rw [hfs] at HS HSM
  rw [hfs, hbd] at HH
  clear hfs hbd hE
  go_enter Tryz.func16, Tryz.ntmps16
  go_wp2_with fail
  refine HH.out.mono ?_
  rintro e w1 ⟨v, rfl, hF, hb1⟩
  obtain ⟨va, vc, rfl, _⟩ := hF.form
  have HF := Lib.hid hF
  clear hF
  go_wp2_with fail
  refine (first_call _ fs ⟨#[83, 117, 98, 106, 101, 99, 116]⟩ w1 HF.out HSM.out.1 (by decide) HSM.out.2.1).mono ?_
  rintro e w2 ⟨rfl, hb2⟩
  rw [show fvL fs (ByteArray.mk #[83, 117, 98, 106, 101, 99, 116]).data.toList = fvL fs subjN from rfl]
  have hvz := HSM.out.2.2 subjN
  obtain ⟨V, hV⟩ : ∃ V, fvL fs subjN = V := ⟨_, rfl⟩
  rw [hV] at hvz HS ⊢
  clear hV
  have HB2 := Lib.hid (hb1.trans (hb2.mono hb1.size))
  have HE2 := Lib.hid (HE.out.next HB2.out)
  clear hb1 hb2
  unfold sV
  go_wp2_with fail
  refine (Wd.decode_any ⟨V.toArray⟩ w2 (by rw [Lib.size_mk]; omega) HE2.out).mono ?_
  rintro e w3 ⟨rfl, hb3⟩
  rw [show (ByteArray.mk V.toArray).data.toList = V from rfl]
  have HB3 := Lib.hid (HB2.out.trans (hb3.mono HB2.out.size))
  have hdz := dec_small hvz
  clear hb3
  go_wp2_with fail
  refine (readable_any ⟨(Wd.decW true V).toArray⟩ w3 (by rw [Lib.size_mk]; omega)).mono ?_
  rintro e w4 ⟨rfl, hb4⟩
  rw [show (ByteArray.mk (Wd.decW true V).toArray).data.toList = Wd.decW true V from rfl]
  go_wp2_with fail
  go_ret
  rw [HS.out]
  exact ⟨rfl, HB3.out.trans (hb4.mono HB3.out.size)⟩
end Go.Proofs.YtnnbbjdidbggmaaGreatDoor.Lk
namespace Go.Proofs.YtnnbbjdidbggmaaGreatDoor.Lk
open Go Go.RowKit Go.Joins Kit F0 Pt

theorem srch_of {w : World} (h : Tx.Env w) : Srch.Env w := ⟨h.max⟩
theorem nstr_len (fs : List F0.Fl) (n : List UInt8) (h : (fvL fs n).length ≤ 32768) : (nstrL fs n).length ≤ 65556 := by
  unfold nstrL
  unfold fvL at h
  cases e : fstL fs n with
  | none => decide
  | some f =>
    rw [e] at h
    simp only at h ⊢
    have := str_len f.2 (by omega)
    omega

set_option maxHeartbeats 1000000 in
set_option maxRecDepth 100000 in
theorem nstring_any (v : Value) (fs : List F0.Fl) (name : ByteArray) (w : World) (hv : FAt w v fs) (hsz : ∀ f ∈ fs, f.1.length ≤ 1073741824 ∧ f.2.length ≤ 1073741824) (hn : name.size ≤ 1073741824) (hc : fs.length ≤ 1073741824) (hE : Tx.Env w) :
    Calls Tryz.prog 42 #[v, .string name] w fun e w' => e = .returned (.string ⟨(nstrL fs name.data.toList).toArray⟩) ∧ Below w.heap.size w w' := by
  have HE := Lib.hid hE
  have HF := Lib.hid (first_call v fs name w hv hsz hn hc)
  have hz := fv_len hsz name.data.toList
  obtain ⟨va, vc, rfl, _⟩ := hv.form
  clear hv hE hsz
  cases e : fstL fs name.data.toList with
  | none =>
    have HN : Hid (nstrL fs name.data.toList = nilT) := Lib.hid (by unfold nstrL; rw [e])
    have H1 : Hid (fvL fs name.data.toList = []) := Lib.hid (by unfold fvL; rw [e])
    rw [e, H1.out] at HF
    clear e hz
    go_enter Tryz.func42, Tryz.ntmps42
    go_wp2_with fail
    refine HF.out.mono ?_
    rintro e w1 ⟨rfl, hb1⟩
    unfold sV Option.isSome
    go_wp2_with fail
    go_ret
    rw [HN.out]
    exact ⟨rfl, hb1⟩
  | some f =>
    have HN : Hid (nstrL fs name.data.toList = Tx.strL f.2) := Lib.hid (by unfold nstrL; rw [e])
    have h1 : fvL fs name.data.toList = f.2 := by unfold fvL; rw [e]
    rw [e, h1] at HF
    rw [h1] at hz
    obtain ⟨V, hV⟩ : ∃ V, f.2 = V := ⟨_, rfl⟩
    rw [hV] at HN HF hz
    clear e h1 hV
    go_enter Tryz.func42, Tryz.ntmps42
    go_wp2_with fail
    refine HF.out.mono ?_
    rintro e w1 ⟨rfl, hb1⟩
    have HE1 := Lib.hid (HE.out.next hb1)
    unfold sV Option.isSome
    go_wp2_with fail
    refine (Tx.string_any ⟨V.toArray⟩ w1 (by rw [Lib.size_mk]; omega) HE1.out).mono ?_
    rintro e w2 ⟨rfl, hb2⟩
    go_wp2_with fail
    go_ret
    rw [HN.out]
    exact ⟨rfl, hb1.trans (hb2.mono hb1.size)⟩

set_option maxHeartbeats 1000000 in
set_option maxRecDepth 100000 in
theorem addresses_any (v : Value) (fs : List F0.Fl) (name : ByteArray) (w : World) (hv : FAt w v fs) (hsz : ∀ f ∈ fs, f.1.length ≤ 1073741824 ∧ f.2.length ≤ 1073741824) (hz : (fvL fs name.data.toList).length ≤ 32768) (hn : name.size ≤ 1073741824) (hc : fs.length ≤ 1073741824) (hE : Srch.Env w) :
    Calls Tryz.prog 41 #[v, .string name] w fun e w' => ∃ u, e = .returned u ∧ Ad.RowA w.heap.size u (addrsL fs name.data.toList) w' ∧ Below w.heap.size w w' := by
  have HE := Lib.hid hE
  have HF := Lib.hid (first_call v fs name w hv hsz hn hc)
  obtain ⟨va, vc, rfl, _⟩ := hv.form
  have HA : Hid (addrsL fs name.data.toList = Ad.docA (fvL fs name.data.toList)) := Lib.hid rfl
  obtain ⟨V, hV⟩ : ∃ V, fvL fs name.data.toList = V := ⟨_, rfl⟩
  rw [hV] at HA HF hz
  clear hv hE hsz hV
  go_enter Tryz.func41, Tryz.ntmps41
  go_wp2_with fail
  refine HF.out.mono ?_
  rintro e w1 ⟨rfl, hb1⟩
  have HE1 := Lib.hid (HE.out.next hb1)
  unfold sV
  go_wp2_with fail
  refine (Ad.list_any ⟨V.toArray⟩ w1 (by rw [Lib.size_mk]; omega) HE1.out).mono ?_
  rintro e w2 ⟨u, rfl, hr, hb2⟩
  obtain ⟨ua, uc, rfl⟩ := Ad.row_form hr
  have HR := Lib.hid hr
  clear hr
  go_wp2_with fail
  go_ret
  rw [HA.out]
  refine ⟨_, rfl, ?_, hb1.trans (hb2.mono hb1.size)⟩
  have h := HR.out
  exact ⟨h.1, h.2.imp id (fun ⟨g, cap, cur, a, b, c⟩ => ⟨g, cap, cur, a, Nat.le_trans hb1.size b, c⟩)⟩
end Go.Proofs.YtnnbbjdidbggmaaGreatDoor.Lk
namespace Go.Proofs.YtnnbbjdidbggmaaGreatDoor.Lk
open Go Go.RowKit Go.Joins Kit F0 Pt

/-- A row of addresses of the call's own stays while texts are added. -/
theorem row_gone {W0 w w' : World} {A : Nat} {l m : List UInt8} {B : Nat} {v : Value} {T : List Ad.Ad3} (h : Ad.RowA B v T w) (hg : Gat W0 A l w) (hk : Gone W0 A m w w') : Ad.RowA B v T w' := by
  refine Ad.row_keep h (fun g hv _ => ?_)
  obtain ⟨_, cur, hh⟩ := Ad.row_block h hv
  obtain ⟨u, hu, _⟩ := hg.box
  rw [hh]
  refine gone_cell hk hh (by decide) (fun e => ?_)
  subst e
  rw [show w.heap[g]? = _ from hu] at hh
  injection hh with hh
  injection hh with _ hh
  exact absurd hh (by decide)
theorem flat_take (T : List Ad.Ad3) (k : Nat) (h : k < T.length) : (T.take (k + 1)).flatMap oneAdL = (T.take k).flatMap oneAdL ++ oneAdL T[k] := by
  rw [List.take_succ_eq_append_getElem h, List.flatMap_append]
  simp
theorem flat_take_len (T : List Ad.Ad3) (k : Nat) : ((T.take k).flatMap oneAdL).length ≤ (T.flatMap oneAdL).length := by
  have : T.flatMap oneAdL = (T.take k).flatMap oneAdL ++ (T.drop k).flatMap oneAdL := by rw [← List.flatMap_append, List.take_append_drop]
  rw [this, List.length_append]
  omega
def oneT (N B H : List UInt8) : List ByteArray := [⟨#[40]⟩, ⟨N.toArray⟩, ⟨#[32]⟩, ⟨#[78, 73, 76]⟩, ⟨#[32]⟩, ⟨B.toArray⟩, ⟨#[32]⟩, ⟨H.toArray⟩, ⟨#[41]⟩]
theorem oneT_flat (N B H : List UInt8) : flatT (oneT N B H) = [40] ++ N ++ [32] ++ nilT ++ [32] ++ B ++ [32] ++ H ++ [41] := by
  simp [oneT, flatT, nilT]

/-- What the round that tells an address goes by: what is gathered, the variable at block q. -/
structure Rd (W0 : World) (A : Nat) (M : List UInt8) (w : World) (q : Nat) (Bx Hx : List UInt8) (X : World) : Prop where
  gone : Gone W0 A M w X
  c1 : X.cell? ⟨q, 1, none⟩ = some (.string ⟨Bx.toArray⟩)
  c2 : X.cell? ⟨q, 2, none⟩ = some (.string ⟨Hx.toArray⟩)
  env : Tx.Env X
theorem Rd.next {W0 : World} {A : Nat} {M : List UInt8} {w : World} {q : Nat} {Bx Hx : List UInt8} {X Y : World} (h : Rd W0 A M w q Bx Hx X) (hb : Below X.heap.size X Y) : Rd W0 A M w q Bx Hx Y :=
  ⟨gone_next h.gone hb, (hb.cell (p := ⟨q, 1, none⟩) (cell_lt h.c1)).trans h.c1, (hb.cell (p := ⟨q, 2, none⟩) (cell_lt h.c2)).trans h.c2, h.env.next hb⟩

set_option maxHeartbeats 4000000 in
set_option maxRecDepth 100000 in
theorem adds_any (W0 : World) (A : Nat) (m : List UInt8) (B : Nat) (u : Value) (T : List Ad.Ad3) (w : World) (h : Gat W0 A m w) (hr : Ad.RowA B u T w) (hT : TS 65539 T) (hT2 : T.length ≤ 65539) (hm : m.length ≤ 500000000000) (hE0 : ∀ w', Below W0.heap.size w w' → Tx.Env w') :
    Calls Tryz.prog 43 #[.func (.func 53) #[] #[.pointer (some ⟨A, 0, none⟩)], u] w fun e w' => e = .returned (.tuple #[]) ∧ Gone W0 A (m ++ adL T) w w' := by
  obtain ⟨ua, uc, rfl⟩ := Ad.row_form hr
  by_cases h0 : T = []
  · subst h0
    have HG := Lib.hid h
    have HA : Hid (flatT [⟨#[78, 73, 76]⟩] = adL []) := Lib.hid rfl
    clear h hr
    go_enter Tryz.func43, Tryz.ntmps43
    go_wp2_with fail
    refine (add_new W0 A m [⟨#[78, 73, 76]⟩] #[.string ⟨#[78, 73, 76]⟩] 1 w HG.out rfl rfl (by decide) (by show m.length + 3 ≤ _; omega)).mono ?_
    rintro e w1 ⟨rfl, hg1⟩
    rw [HA.out] at hg1
    have HG1 := Lib.hid hg1
    clear hg1
    go_wp2_with fail
    refine bodyPost_ret (results_none rfl _ _ _) rfl ?_
    exact ⟨rfl, HG1.out⟩
  · have hlen : 0 < T.length := List.length_pos_iff.2 h0
    have HAD : Hid (adL T = [40] ++ T.flatMap oneAdL ++ [41]) := Lib.hid (by unfold adL; rw [if_neg h0])
    have HFL : Hid ((T.flatMap oneAdL).length ≤ 40000000000) := Lib.hid (by
      have h3 := flat_len (by decide) hT
      have h4 : T.length * (8 * 65539 + 100) ≤ 65539 * (8 * 65539 + 100) := Nat.mul_le_mul_right _ hT2
      omega)
    have HT := Lib.hid hT
    have HG := Lib.hid h
    have HR := Lib.hid hr
    have HE0 := Lib.hid hE0
    clear h hr hE0 hT h0
    go_enter Tryz.func43, Tryz.ntmps43
    go_wp2_with fail
    refine (add_new W0 A m [⟨#[40]⟩] #[.string ⟨#[40]⟩] 1 w HG.out rfl rfl (by decide) (by show m.length + 1 ≤ _; omega)).mono ?_
    rintro e w1 ⟨rfl, hg1⟩
    have H1 : Hid (Gone W0 A (m ++ [40] ++ (T.take 0).flatMap oneAdL) w w1) := Lib.hid (by
      rw [List.take_zero, List.flatMap_nil, List.append_nil]
      exact hg1)
    clear hg1
    go_wp2_with fail
    go_loopw [18] (fun i wr => ∃ k : Nat, k ≤ T.length ∧ i = .int .i64 (k : Int) ∧ Hid (Gone W0 A (m ++ [40] ++ (T.take k).flatMap oneAdL) w wr)) (fun i _ => T.length - (intOf i).toNat)
    case atStart => exact ⟨0, Nat.zero_le _, rfl, H1⟩
    case round =>
      clear H1
      obtain ⟨k, hk, rfl, hG⟩ := hrel
      by_cases hlt : k < T.length
      · have gk : (k : Int) < (T.length : Int) := by omega
        have HRk := Ad.RowA.at (row_gone HR.out HG.out hG.out)
        obtain ⟨a2, cap2, he2, hcell⟩ := HRk.form
        injection he2 with e1 _ e3
        subst e1 e3
        obtain ⟨g, o, rfl, hgl, c0, c1, c2⟩ := hcell k hlt
        have hts := HT.out T[k] (List.getElem_mem hlt)
        have hfk := flat_take_len T k
        have HST : Hid ((T.take (k + 1)).flatMap oneAdL = (T.take k).flatMap oneAdL ++ oneAdL T[k]) := Lib.hid (flat_take T k hlt)
        obtain ⟨a, ha⟩ : ∃ a, T[k] = a := ⟨_, rfl⟩
        rw [ha] at c0 c1 c2 hts HST
        obtain ⟨N, Bx, Hx⟩ := a
        obtain ⟨M, hM⟩ : ∃ M, m ++ [40] ++ (T.take k).flatMap oneAdL = M := ⟨_, rfl⟩
        have hMl : M.length ≤ 600000000000 := by
          have := HFL.out
          rw [← hM, List.length_append, List.length_append, List.length_singleton]
          omega
        have HNX : Hid (m ++ [40] ++ (T.take (k + 1)).flatMap oneAdL = M ++ oneAdL (N, Bx, Hx)) := Lib.hid (by rw [HST.out, ← hM, List.append_assoc, List.append_assoc, List.append_assoc])
        rw [hM] at hG
        simp only at c0 c1 c2 hts
        obtain ⟨t1, t2, t3⟩ := hts
        unfold Ad.sV at c0 c1 c2
        clear hcell HRk ha hM hfk HST
        have HSTR : Hid (∀ (l : List UInt8) (W : World), Hid (l.length ≤ 131078) → Tx.Env W → Calls Tryz.prog 75 #[.string ⟨l.toArray⟩] W fun e w' => e = .returned (.string ⟨(Tx.strL l).toArray⟩) ∧ Below W.heap.size W w') := Lib.hid (fun l W h1 h2 => Tx.string_any ⟨l.toArray⟩ W (by rw [Lib.size_mk]; have := h1.out; omega) h2)
        have HB : Hid (Bx.length ≤ 131078) := Lib.hid (by omega)
        have HH : Hid (Hx.length ≤ 131078) := Lib.hid (by omega)
        have HN : Hid (N.length ≤ 131078) := Lib.hid (by omega)
        have hX0 : Rd W0 A M w wr.heap.size Bx Hx (wr.alloc (.cells #[.string ⟨N.toArray⟩, .string ⟨Bx.toArray⟩, .string ⟨Hx.toArray⟩] 103)) :=
          ⟨gone_next hG.out ((Below.refl _ wr).alloc (Nat.le_refl _) _), Lib.cell_of_heap (Kit.fresh_block wr _ _) 1, Lib.cell_of_heap (Kit.fresh_block wr _ _) 2, HE0.out _ (hG.out.below.trans (((Below.refl _ wr).alloc (Nat.le_refl _) _).mono hG.out.gat.room))⟩
        have HX0 := Lib.hid hX0
        clear hX0
        have HONE : Hid (oneAdL (N, Bx, Hx) = flatT (oneT (if N = [] then nilT else Tx.strL N) (Tx.strL Bx) (Tx.strL Hx))) := Lib.hid (by rw [oneT_flat]; rfl)
        have HBND : Hid (M.length + (flatT (oneT (if N = [] then nilT else Tx.strL N) (Tx.strL Bx) (Tx.strL Hx))).length ≤ 1099511627776) := Lib.hid (by
          rw [← HONE.out]
          have := one_len (n := 65539) (a := (N, Bx, Hx)) (by decide) ⟨t1, t2, t3⟩
          omega)
        by_cases hN : N = []
        · subst hN
          rw [if_pos rfl] at HONE HBND
          go_wp2_with fail
          have hRd := HX0.out
          have q1 := hRd.c1
          have q2 := hRd.c2
          generalize (wr.alloc (.cells #[.string ⟨([] : List UInt8).toArray⟩, .string ⟨Bx.toArray⟩, .string ⟨Hx.toArray⟩] 103)) = X at *
          have hRd2 := hRd.next ((Below.refl _ X).drew)
          clear hRd
          go_region_with (first
            | (refine (HSTR.out _ _ (by assumption) (Rd.env (by assumption))).mono ?_; rintro e7 w7 ⟨rfl, hb7⟩; have hRd7 := Rd.next (by assumption) hb7; have p1 := hRd7.c1; have p2 := hRd7.c2)
            | (refine (add_new W0 A M (oneT nilT (Tx.strL Bx) (Tx.strL Hx)) _ 9 _ (Rd.gone (by assumption)).gat rfl rfl (by decide) HBND.out).mono ?_; rintro e8 w8 ⟨rfl, hg8⟩; have HG8 := Lib.hid (gone_trans (Rd.gone (by assumption)) hg8)))
          all_goals
            go_wp2_with fail
            go_roundw
            case rel =>
              refine ⟨k + 1, by omega, by go_num, ?_⟩
              rw [HNX.out, HONE.out]
              exact HG8
            case measure => simp [intOf]; omega
        · have gN : (N == []) = false := by simpa using hN
          rw [if_neg hN] at HONE HBND
          clear hN
          go_wp2_with fail
          have hRd0 := HX0.out
          generalize (wr.alloc (.cells #[.string ⟨N.toArray⟩, .string ⟨Bx.toArray⟩, .string ⟨Hx.toArray⟩] 103)) = X0 at *
          refine (HSTR.out N X0 HN hRd0.env).mono ?_
          rintro e6 X ⟨rfl, hb6⟩
          have hRd := hRd0.next hb6
          have q1 := hRd.c1
          have q2 := hRd.c2
          clear hRd0
          go_wp2_with fail
          have hRd2 := hRd.next ((Below.refl _ X).drew)
          clear hRd
          go_region_with (first
            | (refine (HSTR.out _ _ (by assumption) (Rd.env (by assumption))).mono ?_; rintro e7 w7 ⟨rfl, hb7⟩; have hRd7 := Rd.next (by assumption) hb7; have p1 := hRd7.c1; have p2 := hRd7.c2)
            | (refine (add_new W0 A M (oneT (Tx.strL N) (Tx.strL Bx) (Tx.strL Hx)) _ 9 _ (Rd.gone (by assumption)).gat rfl rfl (by decide) HBND.out).mono ?_; rintro e8 w8 ⟨rfl, hg8⟩; have HG8 := Lib.hid (gone_trans (Rd.gone (by assumption)) hg8)))
          all_goals
            go_wp2_with fail
            go_roundw
            case rel =>
              refine ⟨k + 1, by omega, by go_num, ?_⟩
              rw [HNX.out, HONE.out]
              exact HG8
            case measure => simp [intOf]; omega
      · have he : k = T.length := by omega
        subst he
        have HF : Hid (Gone W0 A (m ++ [40] ++ T.flatMap oneAdL) w wr) := Lib.hid (by have := hG.out; rw [List.take_of_length_le (Nat.le_refl _)] at this; exact this)
        have hML : (m ++ [40] ++ T.flatMap oneAdL).length ≤ 600000000000 := by
          have := HFL.out
          rw [List.length_append, List.length_append, List.length_singleton]
          omega
        clear hG
        go_wp2_with fail
        refine (add_new W0 A (m ++ [40] ++ T.flatMap oneAdL) [⟨#[41]⟩] #[.string ⟨#[41]⟩] 1 wr HF.out.gat rfl rfl (by decide) (by show _ + 1 ≤ _; omega)).mono ?_
        rintro e w2 ⟨rfl, hg2⟩
        have HG2 : Hid (Gone W0 A (m ++ adL T) w w2) := Lib.hid (by
          have := gone_trans HF.out hg2
          rw [HAD.out, ← List.append_assoc, ← List.append_assoc]
          exact this)
        clear hg2
        go_wp2_with fail
        go_end0
        exact ⟨rfl, HG2.out⟩
end Go.Proofs.YtnnbbjdidbggmaaGreatDoor.Lk
namespace Go.Proofs.YtnnbbjdidbggmaaGreatDoor.Lk
open Go Go.RowKit Go.Joins Kit F0 Pt

def nmK : Nat → List UInt8
  | 0 => fromN
  | 1 => sendN
  | 2 => replN
  | 3 => toN
  | 4 => ccN
  | _ => bccN
def tK (fs : List F0.Fl) (k : Nat) : List Ad.Ad3 := if k = 1 ∨ k = 2 then orFrom fs (nmK k) else addrsL fs (nmK k)
def sixL (fs : List F0.Fl) : Nat → List UInt8
  | 0 => []
  | k + 1 => sixL fs k ++ [32] ++ adL (tK fs k)
theorem env_six (fs : List F0.Fl) : envF fs = ([40] ++ nstrL fs dateN ++ [32] ++ nstrL fs subjN) ++ sixL fs 6 ++ ([32] ++ nstrL fs inreN ++ [32] ++ nstrL fs msgN ++ [41]) := by
  have h0 : tK fs 0 = addrsL fs fromN := by unfold tK; rw [if_neg (by decide)]; rfl
  have h1 : tK fs 1 = orFrom fs sendN := by unfold tK; rw [if_pos (Or.inl rfl)]; rfl
  have h2 : tK fs 2 = orFrom fs replN := by unfold tK; rw [if_pos (Or.inr rfl)]; rfl
  have h3 : tK fs 3 = addrsL fs toN := by unfold tK; rw [if_neg (by decide)]; rfl
  have h4 : tK fs 4 = addrsL fs ccN := by unfold tK; rw [if_neg (by decide)]; rfl
  have h5 : tK fs 5 = addrsL fs bccN := by unfold tK; rw [if_neg (by decide)]; rfl
  unfold envF
  rw [sixL, sixL, sixL, sixL, sixL, sixL, sixL, h0, h1, h2, h3, h4, h5]
  simp only [List.append_assoc, List.nil_append]
theorem addrs_small {fs : List F0.Fl} (h : ∀ n, (fvL fs n).length ≤ 32768) (n : List UInt8) : (adL (addrsL fs n)).length ≤ 50000000000 ∧ TS 65539 (addrsL fs n) ∧ (addrsL fs n).length ≤ 65539 := by
  have := adL_len (h n)
  unfold addrsL
  exact this
theorem tK_small {fs : List F0.Fl} (h : ∀ n, (fvL fs n).length ≤ 32768) (k : Nat) : (adL (tK fs k)).length ≤ 50000000000 ∧ TS 65539 (tK fs k) ∧ (tK fs k).length ≤ 65539 := by
  unfold tK
  split
  · unfold orFrom
    split
    · exact addrs_small h _
    · exact addrs_small h _
  · exact addrs_small h _
theorem six_len {fs : List F0.Fl} (h : ∀ n, (fvL fs n).length ≤ 32768) : ∀ k, (sixL fs k).length ≤ k * 50000000001
  | 0 => Nat.le_refl _
  | k + 1 => by
    have h1 := six_len h k
    have h2 := (tK_small h k).1
    rw [sixL, List.length_append, List.length_append, List.length_singleton]
    omega
theorem nmK_lit : ∀ k : Nat, k < 6 → (#[.string ⟨#[70, 114, 111, 109]⟩, .string ⟨#[83, 101, 110, 100, 101, 114]⟩, .string ⟨#[82, 101, 112, 108, 121, 45, 84, 111]⟩, .string ⟨#[84, 111]⟩, .string ⟨#[67, 99]⟩, .string ⟨#[66, 99, 99]⟩] : Array Value)[k]? = some (.string ⟨(nmK k).toArray⟩)
  | 0, _ => rfl
  | 1, _ => rfl
  | 2, _ => rfl
  | 3, _ => rfl
  | 4, _ => rfl
  | 5, _ => rfl
  | k + 6, h => by omega
theorem nmK_kind : ∀ k : Nat, k < 6 → (k = 1 ∧ (nmK k == [83, 101, 110, 100, 101, 114]) = true) ∨ (k = 2 ∧ (nmK k == [83, 101, 110, 100, 101, 114]) = false ∧ (nmK k == [82, 101, 112, 108, 121, 45, 84, 111]) = true) ∨ ((k ≠ 1 ∧ k ≠ 2) ∧ (nmK k == [83, 101, 110, 100, 101, 114]) = false ∧ (nmK k == [82, 101, 112, 108, 121, 45, 84, 111]) = false)
  | 0, _ => Or.inr (Or.inr ⟨by decide, rfl, rfl⟩)
  | 1, _ => Or.inl ⟨rfl, rfl⟩
  | 2, _ => Or.inr (Or.inl ⟨rfl, rfl, rfl⟩)
  | 3, _ => Or.inr (Or.inr ⟨by decide, rfl, rfl⟩)
  | 4, _ => Or.inr (Or.inr ⟨by decide, rfl, rfl⟩)
  | 5, _ => Or.inr (Or.inr ⟨by decide, rfl, rfl⟩)
  | k + 6, h => by omega
theorem nmK_size (k : Nat) : (nmK k).length ≤ 8 := by
  unfold nmK
  split <;> decide
theorem tK_own {fs : List F0.Fl} {k : Nat} (h : addrsL fs (nmK k) ≠ []) : tK fs k = addrsL fs (nmK k) := by
  unfold tK orFrom
  rw [if_neg h]
  split <;> rfl
theorem tK_other {fs : List F0.Fl} {k : Nat} (h1 : k ≠ 1) (h2 : k ≠ 2) : tK fs k = addrsL fs (nmK k) := by
  unfold tK
  rw [if_neg (by omega)]
theorem tK_from {fs : List F0.Fl} {k : Nat} (hk : k = 1 ∨ k = 2) (h : addrsL fs (nmK k) = []) : tK fs k = addrsL fs fromN := by
  unfold tK orFrom
  rw [if_pos hk, if_pos h]

set_option maxHeartbeats 4000000 in
set_option maxRecDepth 100000 in
theorem envelope_any (s : ByteArray) (w0 : World) (hs : s.size ≤ 32768) (hE : Tx.Env w0) :
    Calls Tryz.prog 18 #[.string s] w0 fun e w' => e = .returned (.string ⟨(envL s.data.toList).toArray⟩) ∧ Below w0.heap.size w0 w' := by
  have HE := Lib.hid hE
  have HEN : Hid (envL s.data.toList = envF (headL s.data.toList 0 s.size).1) := Lib.hid (by unfold envL; rw [Lib.size_eq])
  have HSM := Lib.hid (head_small s hs)
  have HH := Lib.hid (head_any s w0 hs (srch_of hE))
  obtain ⟨fs, hfs⟩ : ∃ fs, (headL s.data.toList 0 s.size).1 = fs := ⟨_, rfl⟩
  obtain ⟨bd, hbd⟩ : ∃ bd, (headL s.data.toList 0 s.size).2 = bd := ⟨_, rfl⟩
  rw [hfs] at HEN HSM
  rw [hfs, hbd] at HH
  clear hfs hbd hE
  go_enter Tryz.func18, Tryz.ntmps18
  go_wp2_with fail
  refine HH.out.mono ?_
  rintro e w1 ⟨v, rfl, hF, hb1⟩
  obtain ⟨va, vc, rfl, _⟩ := hF.form
  have HF := Lib.hid hF
  have HE1 := Lib.hid (HE.out.next hb1)
  have HB1 := Lib.hid hb1
  clear hF hb1
  go_wp2_with fail
  refine (addresses_any _ fs ⟨#[70, 114, 111, 109]⟩ w1 HF.out HSM.out.1 (HSM.out.2.2 fromN) (by decide) HSM.out.2.1 (srch_of HE1.out)).mono ?_
  rintro e w ⟨uf, rfl, hr, hb⟩
  obtain ⟨fa, fc, rfl⟩ := Ad.row_form hr
  have HFW : Hid ((∀ W', Below w.heap.size w W' → FAt W' (.slice va fs.length vc) fs) ∧ (∀ W', Below w.heap.size w W' → Tx.Env W') ∧ (∀ W', Below w.heap.size w W' → Ad.RowA 0 (.slice fa (addrsL fs fromN).length fc) (addrsL fs fromN) W')) := Lib.hid
    ⟨fun W' h => (HF.out.below hb).below h, fun W' h => (HE1.out.next hb).next h, fun W' h => Ad.row_below (show Ad.RowA 0 _ _ w from ⟨hr.1, hr.2.imp id (fun ⟨g, cap, cur, a, b, c⟩ => ⟨g, cap, cur, a, Nat.zero_le _, c⟩)⟩) h⟩
  have HBW := Lib.hid (HB1.out.trans (hb.mono HB1.out.size))
  rw [show (ByteArray.mk #[70, 114, 111, 109]).data.toList = fromN from rfl]
  clear hr hb
  go_wp2_with fail
  refine (gather_any w).mono ?_
  rintro e w2 ⟨rfl, hw2⟩
  have G2 : Hid (Gat w w.heap.size [] w2) := Lib.hid (by rw [hw2]; exact gat_new w)
  clear hw2

  go_wp2_with fail

  refine (nstring_any _ fs ⟨#[68, 97, 116, 101]⟩ w2 (HFW.out.1 w2 G2.out.below) HSM.out.1 (by decide) HSM.out.2.1 (HFW.out.2.1 w2 G2.out.below)).mono ?_
  rintro e w3 ⟨rfl, hb3⟩
  rw [show (ByteArray.mk #[68, 97, 116, 101]).data.toList = dateN from rfl]
  have G3 := Lib.hid (G2.out.next hb3)
  clear hb3
  go_wp2_with fail
  refine (nstring_any _ fs ⟨#[83, 117, 98, 106, 101, 99, 116]⟩ w3 (HFW.out.1 w3 G3.out.below) HSM.out.1 (by decide) HSM.out.2.1 (HFW.out.2.1 w3 G3.out.below)).mono ?_
  rintro e w4 ⟨rfl, hb4⟩
  rw [show (ByteArray.mk #[83, 117, 98, 106, 101, 99, 116]).data.toList = subjN from rfl]
  have G4 := Lib.hid (G3.out.next hb4)
  clear hb4
  have hz1 := nstr_len fs dateN (HSM.out.2.2 dateN)
  have hz2 := nstr_len fs subjN (HSM.out.2.2 subjN)
  have HTX : Hid (flatT [⟨#[40]⟩, ⟨(nstrL fs dateN).toArray⟩, ⟨#[32]⟩, ⟨(nstrL fs subjN).toArray⟩] = [40] ++ nstrL fs dateN ++ [32] ++ nstrL fs subjN) := Lib.hid (by simp [flatT])
  have HTL : Hid ((flatT [⟨#[40]⟩, ⟨(nstrL fs dateN).toArray⟩, ⟨#[32]⟩, ⟨(nstrL fs subjN).toArray⟩]).length ≤ 200000) := Lib.hid (by rw [HTX.out]; simp only [List.length_append, List.length_singleton]; omega)
  clear hz1 hz2
  go_wp2_with fail
  refine (add_new w w.heap.size [] [⟨#[40]⟩, ⟨(nstrL fs dateN).toArray⟩, ⟨#[32]⟩, ⟨(nstrL fs subjN).toArray⟩] _ 4 w4 G4.out rfl rfl (by decide) (by have := HTL.out; rw [List.length_nil]; omega)).mono ?_
  rintro e w5 ⟨rfl, hg5⟩
  rw [List.nil_append, HTX.out] at hg5
  rw [HTX.out] at HTL
  obtain ⟨E0, hE0⟩ : ∃ E0, [40] ++ nstrL fs dateN ++ [32] ++ nstrL fs subjN = E0 := ⟨_, rfl⟩
  have HES : Hid (envF fs = E0 ++ sixL fs 6 ++ ([32] ++ nstrL fs inreN ++ [32] ++ nstrL fs msgN ++ [41])) := Lib.hid (by rw [env_six, hE0])
  rw [hE0] at hg5 HTL
  have G5 := Lib.hid hg5.gat
  clear hg5 hE0 HTX
  go_wp2_with fail
  obtain ⟨W5, hW5⟩ : ∃ W5, w5.alloc (.cells #[.string ⟨#[70, 114, 111, 109]⟩, .string ⟨#[83, 101, 110, 100, 101, 114]⟩, .string ⟨#[82, 101, 112, 108, 121, 45, 84, 111]⟩, .string ⟨#[84, 111]⟩, .string ⟨#[67, 99]⟩, .string ⟨#[66, 99, 99]⟩] 9) = W5 := ⟨_, rfl⟩
  have GW : Hid (Gone w w.heap.size (E0 ++ sixL fs 0) W5 W5) := Lib.hid (by
    rw [← hW5, show sixL fs 0 = [] from rfl, List.append_nil]
    exact gone_refl (G5.out.next ((Below.refl _ w5).alloc (Nat.le_refl _) _)))
  have HLIT : Hid (∃ cs : Array Value, W5.heap[w5.heap.size]? = some (.cells cs 9 (0, 0)) ∧ ∀ k, k < 6 → cs[k]? = some (.string ⟨(nmK k).toArray⟩)) := Lib.hid ⟨_, by rw [← hW5]; exact Kit.fresh_block w5 _ _, nmK_lit⟩
  have HNE : Hid (w5.heap.size ≠ w.heap.size) := Lib.hid (fun e => by have := G5.out.lt; omega)
  rw [hW5]
  clear hW5
  go_loopw [33] (fun i wr => ∃ k : Nat, k ≤ 6 ∧ i = .int .i64 (k : Int) ∧ Hid (Gone w w.heap.size (E0 ++ sixL fs k) W5 wr)) (fun i _ => 6 - (intOf i).toNat)
  case atStart => exact ⟨0, by omega, rfl, GW⟩
  case round =>
    clear GW
    obtain ⟨k, hk, rfl, hG⟩ := hrel
    by_cases hlt : k < 6
    · have gk : (k : Int) < 6 := by omega
      have hcell : wr.cell? ⟨w5.heap.size, k, none⟩ = some (.string ⟨(nmK k).toArray⟩) := by
        obtain ⟨cs, h1, h2⟩ := HLIT.out
        rw [Lib.cell_of_heap (gone_cell hG.out h1 (by decide) HNE.out)]
        exact h2 k hlt
      have hkind := nmK_kind k hlt
      have hns := nmK_size k
      have HST : Hid (E0 ++ sixL fs (k + 1) = E0 ++ sixL fs k ++ [32] ++ adL (tK fs k)) := Lib.hid (by rw [sixL]; simp)
      have hsl := six_len HSM.out.2.2 k
      have htl := HTL.out
      obtain ⟨M, hM⟩ : ∃ M, E0 ++ sixL fs k = M := ⟨_, rfl⟩
      have hMl : M.length ≤ 400000000000 := by rw [← hM, List.length_append]; omega
      rw [hM] at hG HST
      clear hM hsl htl
      have HTK := Lib.hid (And.intro (fun h1 h2 => @tK_other fs k h1 h2) (And.intro (fun h => @tK_own fs k h) (fun h1 h2 => @tK_from fs k h1 h2)))
      have HZ := Lib.hid (addrs_small HSM.out.2.2 (nmK k))
      have HZF := Lib.hid (addrs_small HSM.out.2.2 fromN)
      have HVZ := Lib.hid (HSM.out.2.2 (nmK k))
      obtain ⟨NM, hNM⟩ : ∃ NM, nmK k = NM := ⟨_, rfl⟩
      rw [hNM] at hcell hkind hns HTK HZ HVZ
      clear hNM
      have hAC : Hid (∀ W, Below w.heap.size w W → Calls Tryz.prog 41 #[.slice va fs.length vc, .string ⟨NM.toArray⟩] W fun e w' => ∃ u, e = .returned u ∧ Ad.RowA W.heap.size u (addrsL fs NM) w' ∧ Below W.heap.size W w') := Lib.hid (fun W h =>
        addresses_any _ fs ⟨NM.toArray⟩ W (HFW.out.1 W h) HSM.out.1 HVZ.out (by rw [Lib.size_mk]; omega) HSM.out.2.1 (srch_of (HFW.out.2.1 W h)))
      obtain ⟨T, hT⟩ : ∃ T, addrsL fs NM = T := ⟨_, rfl⟩
      rw [hT] at hAC HTK HZ
      clear hT
      by_cases hTe : T = []
      · subst hTe
        rcases hkind with ⟨hk1, g1⟩ | ⟨hk1, g1, g2⟩ | ⟨hk1, g1, g2⟩
        · have HTE : Hid (tK fs k = addrsL fs fromN) := Lib.hid (HTK.out.2.2 (by omega) rfl)
          clear HTK hk1
          go_wp2_with fail
          refine (hAC.out wr hG.out.gat.below).mono ?_
          rintro e w6 ⟨u, rfl, hr6, hb6⟩
          obtain ⟨ua, uc, rfl⟩ := Ad.row_form hr6
          have G6 := Lib.hid (gone_next hG.out hb6)
          have R6 := Lib.hid hr6
          clear hr6 hb6

          go_wp2_with fail
          refine (add_new w w.heap.size M [⟨#[32]⟩] #[.string ⟨#[32]⟩] 1 w6 G6.out.gat rfl rfl (by decide) (by show M.length + 1 ≤ _; omega)).mono ?_
          rintro e w7 ⟨rfl, hg7⟩
          have G7 := Lib.hid (gone_trans G6.out hg7)
          have R7 : Hid (Ad.RowA 0 (.slice fa (addrsL fs fromN).length fc) (addrsL fs fromN) w7) := Lib.hid (HFW.out.2.2 w7 G7.out.gat.below)
          clear hg7
          go_wp2_with fail
          refine (adds_any w w.heap.size (M ++ flatT [⟨#[32]⟩]) 0 (.slice fa (addrsL fs fromN).length fc) (addrsL fs fromN) w7 G7.out.gat R7.out HZF.out.2.1 HZF.out.2.2 (by rw [List.length_append]; show M.length + 1 ≤ _; omega) (fun w' hb => HFW.out.2.1 w' (G7.out.gat.below.trans hb))).mono ?_
          rintro e w8 ⟨rfl, hg8⟩
          have G8 : Hid (Gone w w.heap.size (E0 ++ sixL fs (k + 1)) W5 w8) := Lib.hid (by
            have h := gone_trans G7.out hg8
            rw [HST.out, HTE.out]
            exact h)
          clear hg8
          go_wp2_with fail
          go_roundw
          case rel => exact ⟨k + 1, by omega, by go_num, G8⟩
          case measure => simp [intOf]; omega

        · have HTE : Hid (tK fs k = addrsL fs fromN) := Lib.hid (HTK.out.2.2 (by omega) rfl)
          clear HTK hk1
          go_wp2_with fail
          refine (hAC.out wr hG.out.gat.below).mono ?_
          rintro e w6 ⟨u, rfl, hr6, hb6⟩
          obtain ⟨ua, uc, rfl⟩ := Ad.row_form hr6
          have G6 := Lib.hid (gone_next hG.out hb6)
          have R6 := Lib.hid hr6
          clear hr6 hb6

          go_wp2_with fail
          refine (add_new w w.heap.size M [⟨#[32]⟩] #[.string ⟨#[32]⟩] 1 w6 G6.out.gat rfl rfl (by decide) (by show M.length + 1 ≤ _; omega)).mono ?_
          rintro e w7 ⟨rfl, hg7⟩
          have G7 := Lib.hid (gone_trans G6.out hg7)
          have R7 : Hid (Ad.RowA 0 (.slice fa (addrsL fs fromN).length fc) (addrsL fs fromN) w7) := Lib.hid (HFW.out.2.2 w7 G7.out.gat.below)
          clear hg7
          go_wp2_with fail
          refine (adds_any w w.heap.size (M ++ flatT [⟨#[32]⟩]) 0 (.slice fa (addrsL fs fromN).length fc) (addrsL fs fromN) w7 G7.out.gat R7.out HZF.out.2.1 HZF.out.2.2 (by rw [List.length_append]; show M.length + 1 ≤ _; omega) (fun w' hb => HFW.out.2.1 w' (G7.out.gat.below.trans hb))).mono ?_
          rintro e w8 ⟨rfl, hg8⟩
          have G8 : Hid (Gone w w.heap.size (E0 ++ sixL fs (k + 1)) W5 w8) := Lib.hid (by
            have h := gone_trans G7.out hg8
            rw [HST.out, HTE.out]
            exact h)
          clear hg8
          go_wp2_with fail
          go_roundw
          case rel => exact ⟨k + 1, by omega, by go_num, G8⟩
          case measure => simp [intOf]; omega

        · have HTE : Hid (tK fs k = []) := Lib.hid (HTK.out.1 hk1.1 hk1.2)
          clear HTK hk1
          go_wp2_with fail
          refine (hAC.out wr hG.out.gat.below).mono ?_
          rintro e w6 ⟨u, rfl, hr6, hb6⟩
          obtain ⟨ua, uc, rfl⟩ := Ad.row_form hr6
          have G6 := Lib.hid (gone_next hG.out hb6)
          have R6 := Lib.hid hr6
          clear hr6 hb6

          go_wp2_with fail
          refine (add_new w w.heap.size M [⟨#[32]⟩] #[.string ⟨#[32]⟩] 1 w6 G6.out.gat rfl rfl (by decide) (by show M.length + 1 ≤ _; omega)).mono ?_
          rintro e w7 ⟨rfl, hg7⟩
          have G7 := Lib.hid (gone_trans G6.out hg7)
          have R7 : Hid (Ad.RowA wr.heap.size (.slice ua 0 uc) [] w7) := Lib.hid (row_gone R6.out G6.out.gat hg7)
          clear hg7
          go_wp2_with fail
          refine (adds_any w w.heap.size (M ++ flatT [⟨#[32]⟩]) wr.heap.size (.slice ua 0 uc) [] w7 G7.out.gat R7.out HZ.out.2.1 HZ.out.2.2 (by rw [List.length_append]; show M.length + 1 ≤ _; omega) (fun w' hb => HFW.out.2.1 w' (G7.out.gat.below.trans hb))).mono ?_
          rintro e w8 ⟨rfl, hg8⟩
          have G8 : Hid (Gone w w.heap.size (E0 ++ sixL fs (k + 1)) W5 w8) := Lib.hid (by
            have h := gone_trans G7.out hg8
            rw [HST.out, HTE.out]
            exact h)
          clear hg8
          go_wp2_with fail
          go_roundw
          case rel => exact ⟨k + 1, by omega, by go_num, G8⟩
          case measure => simp [intOf]; omega

      · have HTE : Hid (tK fs k = T) := Lib.hid (HTK.out.2.1 hTe)
        have hTl : 0 < T.length := List.length_pos_iff.2 hTe
        have g0 : ((T.length : Int) == 0) = false := by rw [beq_eq_false_iff_ne]; omega
        clear HTK hkind hTe hTl
        go_wp2_with fail
        refine (hAC.out wr hG.out.gat.below).mono ?_
        rintro e w6 ⟨u, rfl, hr6, hb6⟩
        obtain ⟨ua, uc, rfl⟩ := Ad.row_form hr6
        have G6 := Lib.hid (gone_next hG.out hb6)
        have R6 := Lib.hid hr6
        clear hr6 hb6

        go_wp2_with fail
        refine (add_new w w.heap.size M [⟨#[32]⟩] #[.string ⟨#[32]⟩] 1 w6 G6.out.gat rfl rfl (by decide) (by show M.length + 1 ≤ _; omega)).mono ?_
        rintro e w7 ⟨rfl, hg7⟩
        have G7 := Lib.hid (gone_trans G6.out hg7)
        have R7 : Hid (Ad.RowA wr.heap.size (.slice ua T.length uc) T w7) := Lib.hid (row_gone R6.out G6.out.gat hg7)
        clear hg7
        go_wp2_with fail
        refine (adds_any w w.heap.size (M ++ flatT [⟨#[32]⟩]) wr.heap.size (.slice ua T.length uc) T w7 G7.out.gat R7.out HZ.out.2.1 HZ.out.2.2 (by rw [List.length_append]; show M.length + 1 ≤ _; omega) (fun w' hb => HFW.out.2.1 w' (G7.out.gat.below.trans hb))).mono ?_
        rintro e w8 ⟨rfl, hg8⟩
        have G8 : Hid (Gone w w.heap.size (E0 ++ sixL fs (k + 1)) W5 w8) := Lib.hid (by
          have h := gone_trans G7.out hg8
          rw [HST.out, HTE.out]
          exact h)
        clear hg8
        go_wp2_with fail
        go_roundw
        case rel => exact ⟨k + 1, by omega, by go_num, G8⟩
        case measure => simp [intOf]; omega

    · obtain rfl : k = 6 := by omega
      have hsl := six_len HSM.out.2.2 6
      have htl := HTL.out
      have hML : (E0 ++ sixL fs 6).length ≤ 400000000000 := by rw [List.length_append]; omega
      have HG := Lib.hid hG.out.gat
      clear hG hsl htl
      go_wp2_with fail
      refine (nstring_any _ fs ⟨#[73, 110, 45, 82, 101, 112, 108, 121, 45, 84, 111]⟩ wr (HFW.out.1 wr HG.out.below) HSM.out.1 (by decide) HSM.out.2.1 (HFW.out.2.1 wr HG.out.below)).mono ?_
      rintro e w6 ⟨rfl, hb6⟩
      rw [show (ByteArray.mk #[73, 110, 45, 82, 101, 112, 108, 121, 45, 84, 111]).data.toList = inreN from rfl]
      have G6 := Lib.hid (HG.out.next hb6)
      clear hb6
      go_wp2_with fail
      refine (nstring_any _ fs ⟨#[77, 101, 115, 115, 97, 103, 101, 45, 73, 100]⟩ w6 (HFW.out.1 w6 G6.out.below) HSM.out.1 (by decide) HSM.out.2.1 (HFW.out.2.1 w6 G6.out.below)).mono ?_
      rintro e w7 ⟨rfl, hb7⟩
      rw [show (ByteArray.mk #[77, 101, 115, 115, 97, 103, 101, 45, 73, 100]).data.toList = msgN from rfl]
      have G7 := Lib.hid (G6.out.next hb7)
      clear hb7
      have hz1 := nstr_len fs inreN (HSM.out.2.2 inreN)
      have hz2 := nstr_len fs msgN (HSM.out.2.2 msgN)
      have HTY : Hid (flatT [⟨#[32]⟩, ⟨(nstrL fs inreN).toArray⟩, ⟨#[32]⟩, ⟨(nstrL fs msgN).toArray⟩, ⟨#[41]⟩] = [32] ++ nstrL fs inreN ++ [32] ++ nstrL fs msgN ++ [41]) := Lib.hid (by simp [flatT])
      have HTZ : Hid ((flatT [⟨#[32]⟩, ⟨(nstrL fs inreN).toArray⟩, ⟨#[32]⟩, ⟨(nstrL fs msgN).toArray⟩, ⟨#[41]⟩]).length ≤ 200000) := Lib.hid (by rw [HTY.out]; simp only [List.length_append, List.length_singleton]; omega)
      clear hz1 hz2
      go_wp2_with fail
      refine (add_new w w.heap.size (E0 ++ sixL fs 6) [⟨#[32]⟩, ⟨(nstrL fs inreN).toArray⟩, ⟨#[32]⟩, ⟨(nstrL fs msgN).toArray⟩, ⟨#[41]⟩] _ 5 w7 G7.out rfl rfl (by decide) (by have := HTZ.out; omega)).mono ?_
      rintro e w8 ⟨rfl, hg8⟩
      rw [HTY.out, ← HES.out] at hg8
      have G8 := Lib.hid hg8.gat
      clear hg8
      go_wp2_with fail
      refine (told_any w w.heap.size _ w8 G8.out).mono ?_
      rintro e w9 ⟨rfl, rfl⟩
      have HB := Lib.hid (HBW.out.trans (G8.out.below.mono HBW.out.size))
      go_wp2_with fail
      go_ret
      rw [HEN.out]
      exact ⟨rfl, HB.out⟩
end Go.Proofs.YtnnbbjdidbggmaaGreatDoor.Lk
namespace Go.Proofs.YtnnbbjdidbggmaaGreatDoor.Lk
open Go Pt

/-- With n parentheses open ahead of it. -/
inductive Bal : Nat → List UInt8 → Prop
  | nil : Bal 0 []
  | up {n : Nat} {r : List UInt8} : Bal (n + 1) r → Bal n (40 :: r)
  | down {n : Nat} {r : List UInt8} : Bal n r → Bal (n + 1) (41 :: r)
  | ch {n : Nat} {r : List UInt8} (c : UInt8) (h : c ≠ 40 ∧ c ≠ 41 ∧ c ≠ 34 ∧ c ≠ 123) : Bal n r → Bal n (c :: r)
  | quo {n : Nat} {r : List UInt8} (q : List UInt8) : Bal n r → Bal n (34 :: (Tx.escL q ++ 34 :: r))
  | lit {n : Nat} {r : List UInt8} (x : List UInt8) (h : x.length ≤ 4294967295) : Bal n r → Bal n (123 :: (Lib.decDigits x.length ++ 125 :: 13 :: 10 :: (x ++ r)))
def Ev (l : List UInt8) : Prop := ∀ (n : Nat) (r : List UInt8), Bal n r → Bal n (l ++ r)
theorem Ev.app {x y : List UInt8} (a : Ev x) (b : Ev y) : Ev (x ++ y) := fun n r h => by
  rw [List.append_assoc]
  exact a _ _ (b _ _ h)
theorem Ev.nil : Ev [] := fun _ _ h => h
theorem Ev.paren {l : List UInt8} (a : Ev l) : Ev (40 :: (l ++ [41])) := fun n r h => by
  show Bal n (40 :: ((l ++ [41]) ++ r))
  rw [List.append_assoc]
  exact .up (a _ _ (.down h))
theorem Ev.chars : ∀ (l : List UInt8) (_ : ∀ c ∈ l, c ≠ 40 ∧ c ≠ 41 ∧ c ≠ 34 ∧ c ≠ 123), Ev l
  | [], _ => Ev.nil
  | c :: l, h => fun n r k => .ch c (h c (by simp)) (Ev.chars l (fun x hx => h x (by simp [hx])) n r k)
theorem ev_no : Ev nilT := Ev.chars _ (by decide)
theorem ev_gap : Ev [32] := Ev.chars _ (by decide)
theorem ev_str (l : List UInt8) (h : l.length ≤ 4294967295) : Ev (Tx.strL l) := by
  intro n r k
  unfold Tx.strL
  split
  · rw [show (34 :: Tx.escL l ++ [34]) ++ r = 34 :: (Tx.escL l ++ 34 :: r) by simp]
    exact .quo l k
  · unfold Tx.litL
    rw [show (123 :: Lib.decDigits l.length ++ [125, 13, 10] ++ l) ++ r = 123 :: (Lib.decDigits l.length ++ 125 :: 13 :: 10 :: (l ++ r)) by simp]
    exact .lit l h k
theorem digit_mem : ∀ (u : Nat), ∀ c ∈ Lib.decDigits u, Tx.isDig c = true := fun u => by
  induction u using Nat.strongRecOn with
  | _ u ih =>
    intro c hc
    by_cases h : u < 10
    · rw [Lib.decDigits_one h, List.mem_singleton] at hc
      rw [hc]
      exact (Tx.isDig_ofNat h).1
    · rw [Lib.decDigits, dif_neg h, List.mem_append, List.mem_singleton] at hc
      rcases hc with hc | rfl
      · exact ih (u / 10) (by omega) c hc
      · exact (Tx.isDig_ofNat (Nat.mod_lt _ (by decide))).1
theorem digit_ne {u : Nat} {c d : UInt8} (h : c ∈ Lib.decDigits u) (hd : Tx.isDig d = false) : c ≠ d := fun e => by
  have := digit_mem u c h
  rw [e, hd] at this
  cases this
theorem ev_dig (u : Nat) : Ev (Lib.decDigits u) := Ev.chars _ (fun c hc => ⟨digit_ne hc (by decide), digit_ne hc (by decide), digit_ne hc (by decide), digit_ne hc (by decide)⟩)

/-! ### The envelope -/
theorem ev_nstr (fs : List F0.Fl) (n : List UInt8) (h : (fvL fs n).length ≤ 32768) : Ev (nstrL fs n) := by
  unfold nstrL
  unfold fvL at h
  cases e : fstL fs n with
  | none => exact ev_no
  | some f =>
    rw [e] at h
    simp only at h ⊢
    exact ev_str f.2 (by omega)
theorem ev_one {n : Nat} {a : Ad.Ad3} (hn : n ≤ 100000) (h : a.1.length ≤ 2 * n ∧ a.2.1.length ≤ n ∧ a.2.2.length ≤ n) : Ev (oneAdL a) := by
  have h1 : Ev (if a.1 = [] then nilT else Tx.strL a.1) := by
    split
    · exact ev_no
    · exact ev_str _ (by omega)
  have h2 := ((((((h1.app ev_gap).app ev_no).app ev_gap).app (ev_str a.2.1 (by omega))).app ev_gap).app (ev_str a.2.2 (by omega))).paren
  unfold oneAdL
  simpa only [List.append_assoc, List.cons_append, List.nil_append] using h2
theorem ev_flat {n : Nat} (hn : n ≤ 100000) : ∀ {T : List Ad.Ad3} (_ : TS n T), Ev (T.flatMap oneAdL)
  | [], _ => Ev.nil
  | a :: r, h => by
    rw [List.flatMap_cons]
    exact (ev_one hn (h a (by simp))).app (ev_flat hn (T := r) (fun x hx => h x (by simp [hx])))
theorem ev_ad {T : List Ad.Ad3} (h : TS 65539 T) : Ev (adL T) := by
  unfold adL
  split
  · exact ev_no
  · have := (ev_flat (by decide) h).paren
    simpa only [List.append_assoc, List.cons_append, List.nil_append] using this
theorem ev_six {fs : List F0.Fl} (h : ∀ n, (fvL fs n).length ≤ 32768) : ∀ k, Ev (sixL fs k)
  | 0 => Ev.nil
  | k + 1 => by
    rw [sixL]
    exact ((ev_six h k).app ev_gap).app (ev_ad (tK_small h k).2.1)
theorem ev_env {fs : List F0.Fl} (h : ∀ n, (fvL fs n).length ≤ 32768) : Ev (envF fs) := by
  have h1 := (((((ev_nstr fs dateN (h _)).app ev_gap).app (ev_nstr fs subjN (h _))).app (ev_six h 6)).app (((ev_gap.app (ev_nstr fs inreN (h _))).app ev_gap).app (ev_nstr fs msgN (h _)))).paren
  rw [env_six]
  simpa only [List.append_assoc, List.cons_append, List.nil_append] using h1

/-! ### The structure -/
theorem ev_par1 {f : Pt.Fl} (h : f.1.length ≤ 40000 ∧ f.2.length ≤ 40000) : Ev (oneParL f) := by
  unfold oneParL
  exact ((ev_str _ (by omega)).app ev_gap).app (ev_str _ (by omega))
theorem ev_parK {ps : List Pt.Fl} (h : ∀ x ∈ ps, x.1.length ≤ 40000 ∧ x.2.length ≤ 40000) : ∀ k, k < ps.length → ∃ m, Ev m ∧ parK ps (k + 1) = 40 :: m
  | 0, hk => ⟨oneParL ps[0], ev_par1 (h _ (List.getElem_mem _)), by rw [parK_succ ps 0 hk, parK, if_pos rfl]; rfl⟩
  | k + 1, hk => by
    obtain ⟨m, h1, h2⟩ := ev_parK h k (by omega)
    exact ⟨m ++ ([32] ++ oneParL ps[k + 1]), h1.app (ev_gap.app (ev_par1 (h _ (List.getElem_mem _)))), by rw [parK_succ ps (k + 1) hk, h2, if_neg (by omega)]; rfl⟩
theorem ev_par {ps : List Pt.Fl} (h : ∀ x ∈ ps, x.1.length ≤ 40000 ∧ x.2.length ≤ 40000) : Ev (parL ps) := by
  unfold parL
  split
  · exact ev_no
  · rename_i hne
    have hl : 0 < ps.length := List.length_pos_iff.2 hne
    obtain ⟨m, h1, h2⟩ := ev_parK h (ps.length - 1) (by omega)
    rw [show ps.length - 1 + 1 = ps.length by omega] at h2
    rw [h2]
    exact h1.paren
theorem ev_cnt (s : List UInt8) (j : P) : Ev (cntL s j) := by
  unfold cntL
  split
  · exact ev_gap.app (ev_dig _)
  · exact Ev.nil
theorem ev_leaf {s : List UInt8} {j : P} (h : fineP s.length j) : Ev ([40] ++ leafL s j) := by
  have h1 := (fine_own h).1
  have h2 := cut_len2 j.ty
  have h3 := ((((((ev_str (kindL j.ty) (by omega)).app ev_gap).app (ev_str (formL j.ty) (by omega))).app ev_gap).app (ev_par h1.2.2.2.1)).app (((((((ev_gap.app ev_no).app ev_gap).app ev_no).app ev_gap).app (ev_str j.enc (by omega))).app ev_gap).app (ev_dig (j.to - j.fm)))).app (ev_cnt s j) |>.paren
  unfold leafL
  simpa only [List.append_assoc, List.cons_append, List.nil_append] using h3
theorem ev_part {s : List UInt8} (j : P) : fineP s.length j → Ev (structP s j) :=
  P.rec (motive_1 := fun j => fineP s.length j → Ev (structP s j)) (motive_2 := fun l => fineP.fineK s.length l → Ev (structP.structK s l))
    (fun ty ps enc att h f t kids ih hf => by
      by_cases hk : kids = []
      · rw [structP_leaf s (j := .mk ty ps enc att h f t kids) hk]
        exact ev_leaf hf
      · rw [structP_kids s (j := .mk ty ps enc att h f t kids) hk]
        have h1 := (fine_own hf).1
        have h2 := cut_len2 ty
        have h1' : ty.length ≤ 40000 := h1.1
        have h3 := ((ih hf.2).app (ev_gap.app (ev_str (formL ty) (by omega)))).paren
        show Ev ([40] ++ (structP.structK s kids ++ ([32] ++ Tx.strL (formL ty) ++ [41])))
        simpa only [List.append_assoc, List.cons_append, List.nil_append] using h3)
    (fun _ => Ev.nil)
    (fun k r ih1 ih2 hf => by
      rw [structP.structK]
      exact (ih1 hf.1).app (ih2 hf.2))
    j
theorem Ev.bal {l : List UInt8} (h : Ev l) : Bal 0 l := by
  have := h 0 [] .nil
  rwa [List.append_nil] at this
theorem bal_env {s : ByteArray} (hs : s.size ≤ 32768) : Bal 0 (envL s.data.toList) ∧ (envL s.data.toList).head? = some 40 ∧ (envL s.data.toList).length ≤ 900000000000 := by
  have hz := Lib.size_eq s
  have h1 := head_small s hs
  rw [hz] at h1
  obtain ⟨fs, hfs⟩ : ∃ fs, (headL s.data.toList 0 s.data.toList.length).1 = fs := ⟨_, rfl⟩
  have he : envL s.data.toList = envF fs := by unfold envL; rw [hfs]
  rw [hfs] at h1
  have h2 := h1.2.2
  rw [he]
  refine ⟨(ev_env h2).bal, by rw [env_six]; simp only [List.append_assoc, List.cons_append, List.head?_cons], ?_⟩
  rw [env_six]
  have q1 := six_len h2 6
  have q2 := nstr_len fs dateN (h2 _)
  have q3 := nstr_len fs subjN (h2 _)
  have q4 := nstr_len fs inreN (h2 _)
  have q5 := nstr_len fs msgN (h2 _)
  simp only [List.length_append, List.length_cons, List.length_nil]
  omega
theorem bal_struct {s : List UInt8} (hs : s.length ≤ 32768) : Bal 0 (structL s) ∧ (structL s).head? = some 40 ∧ (structL s).length ≤ 900000000000 := by
  have h1 := tree_fine s hs
  have h2 := structP_len hs (treeL s) h1
  have h3 := tree_wt s
  refine ⟨(ev_part (treeL s) h1).bal, ?_, ?_⟩
  · unfold structL
    by_cases h : (treeL s).kids = []
    · rw [structP_leaf s h]
      rfl
    · rw [structP_kids s h]
      rfl
  · unfold structL
    have : wtP (treeL s) * 7000000000 ≤ 30 * 7000000000 := Nat.mul_le_mul_right _ h3
    omega
end Go.Proofs.YtnnbbjdidbggmaaGreatDoor.Lk
namespace Go.Proofs.YtnnbbjdidbggmaaGreatDoor.R1
open Go Go.RowKit Go.Joins Tx

set_option maxHeartbeats 1000000 in
theorem number_core (s : ByteArray) (w : World) (h0 : 0 < s.size) (h1 : s.size ≤ 10) (h2 : s.size ≤ 1 ∨ ¬ (s[0].toNat : Int) = 48) :
    Calls Tryz.prog 27 #[.string s] w fun e w' => e = .returned (numV (numL s.data.toList)) ∧ w = w' := by
  have hE := toList_isEmpty (s := s) (by omega)
  have hopen : Hid (numL s.data.toList = match numFrom s.data.toList 0 with | some n => if n ≤ 4294967295 then some n else none | none => none) :=
    numL_open (data_ne (by omega)) (by rw [← Lib.size_eq]; exact h1) (by
      rw [data_head h0, ← Lib.size_eq]
      rintro ⟨e, h⟩
      have e' := Option.some.inj e
      rcases h2 with h2 | h2
      · omega
      · rw [e'] at h2; exact h2 rfl)
  have g1 : (s.size : Int) ≤ 10 := by omega
  have hstart : Hid (numFrom (s.data.toList.drop 0) 0 = numFrom s.data.toList 0) := by show _ = _; rfl
  have hcase : (s.size : Int) ≤ 1 ∨ ((1 : Int) < s.size ∧ ((s[0].toNat : Int) == 48) = false) := by
    rw [beq_eq_false_iff_ne]
    omega
  rcases hcase with h3 | ⟨h3, h4⟩
  all_goals
    clear h2
    go_enter Tryz.func27, Tryz.ntmps27
    go_wp2_with fail
    go_loop [4, 5] (fun n i => ∃ k m : Nat, k ≤ s.size ∧ m < 10 ^ k ∧ Hid (numFrom (s.data.toList.drop k) m = numFrom s.data.toList 0) ∧ i = .int .i64 k ∧ n = .int .i64 m) (fun _ i => s.size - (intOf i).toNat)
    case atStart => exact ⟨0, 0, by omega, by decide, hstart, rfl, rfl⟩
    case round =>
      obtain ⟨k, m, hk, hm, hn, rfl, rfl⟩ := hrel
      have hp := pow_le k (by omega)
      have hm' : m ≤ 10000000000 := by omega
      clear hp
      have HM : Hid (m < 10 ^ k) := hm
      clear hm
      by_cases hlt : k < s.size
      · have hl : k < s.data.toList.length := by rw [← Lib.size_eq]; exact hlt
        have hst := numFrom_step s.data.toList k m hl
        rw [byte_get s k hlt] at hst
        have HST := Lib.hid hst
        clear hst
        by_cases hd : 48 ≤ s[k].toNat ∧ s[k].toNat ≤ 57
        · obtain ⟨d1, d2⟩ := hd
          have g2 : (48 : Int) ≤ s[k].toNat := by omega
          have g3 : (s[k].toNat : Int) ≤ 57 := by omega
          go_wp2
          go_round
          case rel =>
            refine ⟨k + 1, m * 10 + (s[k].toNat - 48), by omega, pow_next HM.out (by omega), ?_, by go_num, ?_⟩
            · show _ = _
              rw [← hn.out, HST.out, if_pos ((isDig_iff _).2 ⟨d1, d2⟩)]
            · congr 1; omega
          case measure => simp [intOf]; omega
        · have hnone : Hid (numL s.data.toList = none) := by
            show _ = _
            rw [hopen.out, ← hn.out, HST.out, if_neg (fun h => hd ((isDig_iff _).1 h))]
          have hd' : ¬ ((48 : Int) ≤ s[k].toNat ∧ (s[k].toNat : Int) ≤ 57) := by omega
          clear hd
          go_wp2
          all_goals
            go_ret2
            exact ⟨ret_num_none hnone.out, rfl⟩
      · have he : k = s.size := by omega
        have hend : Hid (numL s.data.toList = if m ≤ 4294967295 then some m else none) := by
          show _ = _
          rw [hopen.out, ← hn.out, List.drop_of_length_le (by rw [← Lib.size_eq]; omega)]
          rfl
        clear he
        by_cases hg : 4294967295 < m
        · have g4 : (4294967295 : Int) < m := by omega
          go_wp2
          go_ret2
          exact ⟨ret_num_none (by rw [hend.out, if_neg (by omega)]), rfl⟩
        · have g4 : (m : Int) ≤ 4294967295 := by omega
          go_wp2
          go_ret2
          exact ⟨ret_num_some (by rw [hend.out, if_pos (by omega)]), rfl⟩

set_option maxHeartbeats 400000 in
theorem number_any (s : ByteArray) (w : World) :
    Calls Tryz.prog 27 #[.string s] w fun e w' => e = .returned (numV (numL s.data.toList)) ∧ w = w' := by
  by_cases h0 : s.size = 0
  · have e := toList_nil h0
    have hn : Hid (numL s.data.toList = none) := by
      rw [Lib.toList_data] at e
      rw [e]; rfl
    go_enter Tryz.func27, Tryz.ntmps27
    go_wp2
    go_ret2
    exact ⟨ret_num_none hn.out, rfl⟩
  have hE := toList_isEmpty h0
  by_cases h1 : 10 < s.size
  · have hn : Hid (numL s.data.toList = none) := by
      show _ = _
      unfold numL
      rw [if_pos (Or.inr (Or.inl (by rw [← Lib.size_eq]; exact h1)))]
    have g : (10 : Int) < s.size := by omega
    go_enter Tryz.func27, Tryz.ntmps27
    go_wp2
    go_ret2
    exact ⟨ret_num_none hn.out, rfl⟩
  by_cases h2 : ((s[0]'(by omega)).toNat : Int) = 48 ∧ 1 < s.size
  · have hn : Hid (numL s.data.toList = none) := by
      show _ = _
      unfold numL
      refine if_pos (Or.inr (Or.inr ⟨?_, by rw [← Lib.size_eq]; exact h2.2⟩))
      rw [data_head (by omega)]
      congr 1
      refine UInt8.toNat_inj.1 ?_
      have := h2.1
      simp only [UInt8.reduceToNat]
      omega
    have g : (s.size : Int) ≤ 10 := by omega
    obtain ⟨g1, g2⟩ := h2
    have g3 : (1 : Int) < s.size := by omega
    go_enter Tryz.func27, Tryz.ntmps27
    go_wp2
    go_ret2
    exact ⟨ret_num_none hn.out, rfl⟩
  · exact number_core s w (by omega) (by omega) (by omega)

end Go.Proofs.YtnnbbjdidbggmaaGreatDoor.R1
namespace Go.Proofs.YtnnbbjdidbggmaaGreatDoor.Lk
open Go Go.RowKit Go.Joins Kit F0 Pt

theorem Bal.at {n : Nat} {l : List UInt8} (h : Bal n l) (hl : l ≠ []) :
    (∃ r, l = 40 :: r ∧ Bal (n + 1) r) ∨ (∃ m r, n = m + 1 ∧ l = 41 :: r ∧ Bal m r) ∨ (∃ c r, l = c :: r ∧ (c ≠ 40 ∧ c ≠ 41 ∧ c ≠ 34 ∧ c ≠ 123) ∧ Bal n r) ∨
    (∃ q r, l = 34 :: (Tx.escL q ++ 34 :: r) ∧ Bal n r) ∨ (∃ x r : List UInt8, x.length ≤ 4294967295 ∧ l = 123 :: (Lib.decDigits x.length ++ 125 :: 13 :: 10 :: (x ++ r)) ∧ Bal n r) := by
  cases h with
  | nil => exact absurd rfl hl
  | up h => exact Or.inl ⟨_, rfl, h⟩
  | down h => exact Or.inr (Or.inl ⟨_, _, rfl, rfl, h⟩)
  | ch c hc h => exact Or.inr (Or.inr (Or.inl ⟨c, _, rfl, hc, h⟩))
  | quo q h => exact Or.inr (Or.inr (Or.inr (Or.inl ⟨q, _, rfl, h⟩)))
  | lit x hx h => exact Or.inr (Or.inr (Or.inr (Or.inr ⟨x, _, hx, rfl, h⟩)))
theorem bal_done {n : Nat} (h : Bal n []) : n = 0 := by
  cases h
  rfl
theorem drop_at {s : ByteArray} {i : Nat} {c : UInt8} {r : List UInt8} (h : s.data.toList.drop i = c :: r) : ∃ hi : i < s.size, s[i] = c ∧ s.data.toList.drop (i + 1) = r := by
  have hi : i < s.data.toList.length := by
    rcases Nat.lt_or_ge i s.data.toList.length with k | k
    · exact k
    · rw [List.drop_of_length_le k] at h; cases h
  have hi' : i < s.size := by rw [Lib.size_eq]; exact hi
  rw [List.drop_eq_getElem_cons hi, byte_get s i hi'] at h
  exact ⟨hi', (List.cons.inj h).1, (List.cons.inj h).2⟩
theorem idx_lit {L D R : List UInt8} {i : Nat} (h : L.drop i = 123 :: (D ++ 125 :: R)) (hD : ∀ c ∈ D, c ≠ 125) : i + 1 + D.length < L.length ∧ Rx.idxFrom L [125] (L.length + 1) i = ((i + 1 + D.length : Nat) : Int) := by
  have hl := congrArg List.length h
  simp only [List.length_drop, List.length_cons, List.length_append] at hl
  have hat : ∀ m, L[i + m]? = (123 :: (D ++ 125 :: R))[m]? := fun m => by rw [← h, List.getElem?_drop]
  have hn : i + 1 + D.length < L.length := by omega
  refine ⟨hn, Rx.one_some L 125 (i + 1 + D.length) hn ?_ _ i (by omega) ?_ (by omega)⟩
  · have h1 := hat (1 + D.length)
    rw [show i + (1 + D.length) = i + 1 + D.length by omega, List.getElem?_eq_getElem hn, Nat.add_comm 1, List.getElem?_cons_succ, List.getElem?_append_right (Nat.le_refl _), Nat.sub_self, List.getElem?_cons_zero] at h1
    exact Option.some.inj h1
  · intro k hk h1 h2 e
    have h3 := hat (k - i)
    rw [show i + (k - i) = k by omega, List.getElem?_eq_getElem hk, e] at h3
    rcases Nat.eq_zero_or_pos (k - i) with h0 | h0
    · rw [h0, List.getElem?_cons_zero] at h3
      exact absurd (Option.some.inj h3) (by decide)
    · obtain ⟨m, hm⟩ : ∃ m, k - i = m + 1 := ⟨k - i - 1, by omega⟩
      rw [hm, List.getElem?_cons_succ, List.getElem?_append_left (by omega), List.getElem?_eq_getElem (by omega)] at h3
      exact hD _ (List.getElem_mem _) (Option.some.inj h3).symm

set_option maxHeartbeats 4000000 in
set_option maxRecDepth 100000 in
theorem balanced_any (t : ByteArray) (w : World) (hs : t.size ≤ 1000000000000) (hb : Bal 0 t.data.toList) (hh : t.data.toList.head? = some 40) :
    Calls Tryz.prog 17 #[.string t] w fun e w' => e = .returned (.bool true) ∧ w = w' := by
  obtain ⟨hz0, z40⟩ : ∃ h0 : 0 < t.size, t[0] = 40 := by
    cases e : t.data.toList with
    | nil => rw [e] at hh; cases hh
    | cons c r =>
      rw [e] at hh
      obtain ⟨h1, h2, -⟩ := drop_at (s := t) (i := 0) (c := c) (r := r) (by rw [List.drop_zero]; exact e)
      exact ⟨h1, by rw [h2]; exact Option.some.inj hh⟩
  have HZ : Hid (((t[0].toNat : Int) == 40) = true ∧ (t[0].toNat : Int) = 40 ∧ (t.toList == []) = false ∧ t.toList.isEmpty = false) := Lib.hid (by
    have hne : t.toList ≠ [] := by
      rw [Lib.toList_data]
      intro e
      rw [e] at hh
      cases hh
    refine ⟨by rw [z40]; rfl, by rw [z40]; rfl, by rw [beq_eq_false_iff_ne]; exact hne, ?_⟩
    cases e : t.toList with
    | nil => exact absurd e hne
    | cons c r => rfl)
  have HB := Lib.hid hb
  clear hh hb z40
  go_enter Tryz.func17, Tryz.ntmps17
  go_wp2_with fail
  go_loop [3, 4] (fun o p => ∃ n i : Nat, o = .int .i64 (n : Int) ∧ p = .int .i64 (i : Int) ∧ i ≤ t.size ∧ n ≤ i ∧ Hid (Bal n (t.data.toList.drop i))) (fun _ p => t.size - (intOf p).toNat)
  case atStart => exact ⟨0, 0, rfl, rfl, Nat.zero_le _, Nat.le_refl _, Lib.hid (by rw [List.drop_zero]; exact HB.out)⟩
  case round =>
    clear HB
    obtain ⟨n, i, rfl, rfl, hi, hni, hbal⟩ := hrel
    by_cases hlt : i < t.size
    · have g1 : (i : Int) < (t.size : Int) := by omega
      have hcase := hbal.out.at (by
        intro e
        have := congrArg List.length e
        rw [List.length_drop, ← Lib.size_eq] at this
        simp at this
        omega)
      clear hbal HZ
      rcases hcase with ⟨r, e, hr⟩ | ⟨m, r, rfl, e, hr⟩ | ⟨c, r, e, hc, hr⟩ | ⟨q, r, e, hr⟩ | ⟨x, r, hx, e, hr⟩
      · obtain ⟨_, h1, h2⟩ := drop_at e
        have HR : Hid (Bal (n + 1) (t.data.toList.drop (i + 1))) := Lib.hid (by rw [h2]; exact hr)
        have q1 : ((t[i].toNat : Int) == 40) = true := by rw [h1]; rfl
        have q2 : (t[i].toNat : Int) = 40 := by rw [h1]; rfl
        clear e h1 h2 hr
        go_wp2_with fail
        go_round
        case rel => exact ⟨n + 1, i + 1, by go_num, by go_num, by omega, by omega, HR⟩
        case measure => simp [intOf]; omega
      · obtain ⟨_, h1, h2⟩ := drop_at e
        have HR : Hid (Bal m (t.data.toList.drop (i + 1))) := Lib.hid (by rw [h2]; exact hr)
        have q1 : ((t[i].toNat : Int) == 40) = false := by rw [h1]; rfl
        have q2 : (t[i].toNat : Int) = 41 := by rw [h1]; rfl
        have q3 : ((t[i].toNat : Int) == 41) = true := by rw [h1]; rfl
        have q4 : ¬ ((m + 1 : Nat) : Int) - 1 < 0 := by omega
        clear e h1 h2 hr
        go_wp2_with fail
        go_round
        case rel => exact ⟨m, i + 1, by go_num, by go_num, by omega, by omega, HR⟩
        case measure => simp [intOf]; omega
      · obtain ⟨_, h1, h2⟩ := drop_at e
        have HR : Hid (Bal n (t.data.toList.drop (i + 1))) := Lib.hid (by rw [h2]; exact hr)
        obtain ⟨c1, c2, c3, c4⟩ := hc
        have n1 : t[i].toNat ≠ 40 := fun e => c1 (by rw [← h1]; exact UInt8.toNat_inj.1 e)
        have n2 : t[i].toNat ≠ 41 := fun e => c2 (by rw [← h1]; exact UInt8.toNat_inj.1 e)
        have n3 : t[i].toNat ≠ 34 := fun e => c3 (by rw [← h1]; exact UInt8.toNat_inj.1 e)
        have n4 : t[i].toNat ≠ 123 := fun e => c4 (by rw [← h1]; exact UInt8.toNat_inj.1 e)
        have q1 : ((t[i].toNat : Int) == 40) = false := by rw [beq_eq_false_iff_ne]; omega
        have q2 : ((t[i].toNat : Int) == 41) = false := by rw [beq_eq_false_iff_ne]; omega
        have q3 : ((t[i].toNat : Int) == 34) = false := by rw [beq_eq_false_iff_ne]; omega
        have q4 : ((t[i].toNat : Int) == 123) = false := by rw [beq_eq_false_iff_ne]; omega
        have p1 : ¬ (t[i].toNat : Int) = 40 := by omega
        have p2 : ¬ (t[i].toNat : Int) = 41 := by omega
        have p3 : ¬ (t[i].toNat : Int) = 34 := by omega
        have p4 : ¬ (t[i].toNat : Int) = 123 := by omega
        clear e h1 h2 hr n1 n2 n3 n4 c1 c2 c3 c4
        go_wp2_with fail
        go_round
        case rel => exact ⟨n, i + 1, by go_num, by go_num, by omega, by omega, HR⟩
        case measure => simp [intOf]; omega
      · obtain ⟨_, h1, h2⟩ := drop_at e
        have HQ := Lib.hid h2
        have HR := Lib.hid hr
        have q1 : ((t[i].toNat : Int) == 40) = false := by rw [h1]; rfl
        have q2 : ((t[i].toNat : Int) == 41) = false := by rw [h1]; rfl
        have q3 : ((t[i].toNat : Int) == 34) = true := by rw [h1]; rfl
        have q4 : (t[i].toNat : Int) = 34 := by rw [h1]; rfl
        clear e h1 h2 hr
        go_wp2_with fail
        go_loop [4] (fun p => ∃ (j : Nat) (q' : List UInt8), p = .int .i64 (j : Int) ∧ i + 1 ≤ j ∧ j ≤ t.size ∧ Hid (t.data.toList.drop j = Tx.escL q' ++ 34 :: r)) (fun p => t.size - (intOf p).toNat)
        case atStart => exact ⟨i + 1, q, by go_num, Nat.le_refl _, hlt, HQ⟩
        case round =>
          clear HQ q1 q2 q3 q4
          obtain ⟨j, q', rfl, hj1, hj2, hj⟩ := hrel
          cases q' with
          | nil =>
            obtain ⟨hjl, h1, h2⟩ := drop_at (s := t) (i := j) (c := 34) (r := r) hj.out
            have HR' : Hid (Bal n (t.data.toList.drop (j + 1))) := Lib.hid (by rw [h2]; exact HR.out)
            have g3 : (j : Int) < (t.size : Int) := by omega
            have q5 : ((t[j].toNat : Int) != 34) = false := by rw [h1]; rfl
            have q6 : (t[j].toNat : Int) = 34 := by rw [h1]; rfl
            clear h1 h2 hj HR
            go_wp2_with fail
            go_round
            case rel => exact ⟨n, j + 1, by go_num, by go_num, by omega, by omega, HR'⟩
            case measure => simp [intOf]; omega
          | cons c q'' =>
            by_cases hsg : Tx.signB c = true
            · have hj' : t.data.toList.drop j = 92 :: c :: (Tx.escL q'' ++ 34 :: r) := by
                rw [hj.out, Tx.escL, List.flatMap_cons, Tx.escB, if_pos hsg]
                rfl
              obtain ⟨hjl, h1, h2⟩ := drop_at hj'
              obtain ⟨hjl2, h3, h4⟩ := drop_at h2
              have HN := Lib.hid h4
              have g3 : (j : Int) < (t.size : Int) := by omega
              have q5 : ((t[j].toNat : Int) != 34) = true := by rw [h1]; rfl
              have q6 : ((t[j].toNat : Int) == 92) = true := by rw [h1]; rfl
              have q7 : (t[j].toNat : Int) = 92 := by rw [h1]; rfl
              clear h1 h2 h3 h4 hj hj' hsg
              go_wp2_with fail
              go_round
              case rel => exact ⟨j + 2, q'', by go_num, by omega, by omega, HN⟩
              case measure => simp [intOf]; omega
            · have hj' : t.data.toList.drop j = c :: (Tx.escL q'' ++ 34 :: r) := by
                rw [hj.out, Tx.escL, List.flatMap_cons, Tx.escB, if_neg hsg]
                rfl
              obtain ⟨hjl, h1, h2⟩ := drop_at hj'
              have HN := Lib.hid h2
              have g3 : (j : Int) < (t.size : Int) := by omega
              have hsn : ¬ (c.toNat = 34 ∨ c.toNat = 92) := fun h => hsg (by unfold Tx.signB; simpa using h)
              rw [← h1] at hsn
              have q5 : ((t[j].toNat : Int) != 34) = true := by simp only [bne_iff_ne, ne_eq]; omega
              have q6 : ((t[j].toNat : Int) == 92) = false := by rw [beq_eq_false_iff_ne]; omega
              have q7 : ¬ (t[j].toNat : Int) = 34 := by omega
              have q8 : ¬ (t[j].toNat : Int) = 92 := by omega
              clear h1 h2 hj hj' hsg hsn
              go_wp2_with fail
              go_round
              case rel => exact ⟨j + 1, q'', by go_num, by omega, by omega, HN⟩
              case measure => simp [intOf]; omega
      · obtain ⟨_, h1, h2⟩ := drop_at e
        have hix := idx_lit (R := 13 :: 10 :: (x ++ r)) e (fun c hc => digit_ne hc (by decide))
        obtain ⟨D, hD⟩ : ∃ D, Lib.decDigits x.length = D := ⟨_, rfl⟩
        have hnum := Tx.num_digits hx
        rw [hD] at hix e h2 hnum
        obtain ⟨k, hk⟩ : ∃ k, i + 1 + D.length = k := ⟨_, rfl⟩
        rw [hk] at hix
        obtain ⟨X, hX⟩ : ∃ X, t.extract (i + 1) k = X := ⟨_, rfl⟩
        have hXl : X.data.toList = D := by
          rw [← hX, ext_list, List.drop_take, h2, show k - (i + 1) = D.length by omega, List.take_left]
        have hend : t.data.toList.drop (k + 3 + x.length) = r := by
          rw [show k + 3 + x.length = (i + 1) + (D.length + (3 + x.length)) by omega, ← List.drop_drop, h2, ← List.drop_drop, List.drop_left, ← List.drop_drop]
          show List.drop x.length (x ++ r) = r
          exact List.drop_left
        have hlen : k + 3 + x.length ≤ t.size := by
          have := congrArg List.length h2
          simp only [List.length_drop, List.length_cons, List.length_append] at this
          rw [Lib.size_eq]
          omega
        have HI : Hid (∀ W, Calls Tryz.prog 40 #[.string t, .string ⟨#[125]⟩, .int .i64 (i : Int)] W fun e w' => e = .returned (.int .i64 (k : Int)) ∧ W = w') := Lib.hid (fun W => by
          have h := Rx.index_any t ⟨#[125]⟩ i W (by omega) (by decide) (by omega)
          rw [Lib.size_eq t, show (ByteArray.mk #[125]).data.toList = [125] from rfl, hix.2] at h
          exact h)
        have HN : Hid (∀ W, Calls Tryz.prog 27 #[.string X] W fun e w' => e = .returned (.tuple #[.int .i64 (x.length : Int), .bool true]) ∧ W = w') := Lib.hid (fun W => by
          have h := R1.number_any X W
          rw [hXl, hnum] at h
          exact h)
        have HR : Hid (Bal n (t.data.toList.drop (k + 3 + x.length))) := Lib.hid (by rw [hend]; exact hr)
        obtain ⟨xl, hxl⟩ : ∃ xl, x.length = xl := ⟨_, rfl⟩
        rw [hxl] at HN HR hlen hx
        have q1 : ((t[i].toNat : Int) == 40) = false := by rw [h1]; rfl
        have q2 : ((t[i].toNat : Int) == 41) = false := by rw [h1]; rfl
        have q3 : ((t[i].toNat : Int) == 34) = false := by rw [h1]; rfl
        have q4 : (t[i].toNat : Int) = 123 := by rw [h1]; rfl
        have hk1 : (i : Int) + 1 ≤ (k : Int) := by omega
        have hk2 : (k : Int) ≤ (t.size : Int) := by omega
        have hk3 : ¬ (k : Int) < 0 := by omega
        have hk4 : i < k := by omega
        clear e h1 h2 hr hix hnum hXl hend hD hk hxl
        go_wp2_with fail
        refine (HI.out _).mono ?_
        rintro e w1 ⟨rfl, rfl⟩
        go_wp2_with fail
        refine (HN.out _).mono ?_
        rintro e w1 ⟨rfl, rfl⟩
        go_wp2_with fail
        go_round
        case rel => exact ⟨n, k + 3 + xl, by go_num, by go_num, by omega, by omega, HR⟩
        case measure => simp [intOf]; omega
    · have g1 : ¬ (i : Int) < (t.size : Int) := by omega
      have hn0 : n = 0 := bal_done (by
        have h := hbal.out
        rw [List.drop_of_length_le (by rw [← Lib.size_eq]; omega)] at h
        exact h)
      subst hn0
      obtain ⟨z1, z2, z3, z4⟩ := HZ.out
      clear hbal HZ
      go_wp2_with fail
      go_ret
      exact ⟨rfl, rfl⟩
end Go.Proofs.YtnnbbjdidbggmaaGreatDoor.Lk
namespace Go.Proofs.YtnnbbjdidbggmaaGreatDoor.Lk
open Go Go.RowKit Go.Joins Kit F0 Pt

/-- The blocks between the box and the texts that are gathered. -/
def Btw (A N : Nat) (g : Nat) : Prop := A < g ∧ g < N
theorem kept_gone {W0 w w' : World} {N A : Nat} {l : List UInt8} (h : GoneB W0 N A l w w') : Kept (Btw A N) (Btw A N) w w' :=
  kept_block fun g _ _ _ hg _ => ⟨hg, h.low g hg.2 (by have := hg.1; omega)⟩
/-- What the round that tells a parameter goes by. -/
structure Rf (W0 : World) (N A : Nat) (M : List UInt8) (w : World) (q : Nat) (Nm Vl : List UInt8) (X : World) : Prop where
  gone : GoneB W0 N A M w X
  c0 : X.cell? ⟨q, 0, none⟩ = some (.string ⟨Nm.toArray⟩)
  c1 : X.cell? ⟨q, 1, none⟩ = some (.string ⟨Vl.toArray⟩)
  env : Tx.Env X
theorem Rf.next {W0 : World} {N A : Nat} {M : List UInt8} {w : World} {q : Nat} {Nm Vl : List UInt8} {X Y : World} (h : Rf W0 N A M w q Nm Vl X) (hb : Below X.heap.size X Y) : Rf W0 N A M w q Nm Vl Y :=
  ⟨gone_next h.gone hb, (hb.cell (p := ⟨q, 0, none⟩) (cell_lt h.c0)).trans h.c0, (hb.cell (p := ⟨q, 1, none⟩) (cell_lt h.c1)).trans h.c1, h.env.next hb⟩
def ahd (k : Nat) : List UInt8 := if k = 0 then [40] else [32]
def parT (a n v : List UInt8) : List ByteArray := [⟨a.toArray⟩, ⟨n.toArray⟩, ⟨#[32]⟩, ⟨v.toArray⟩]
theorem parT_flat (a n v : List UInt8) : flatT (parT a n v) = a ++ (n ++ [32] ++ v) := by simp [parT, flatT]

set_option maxHeartbeats 4000000 in
set_option maxRecDepth 100000 in
theorem pars_any (W0 : World) (N A : Nat) (m : List UInt8) (pv : Value) (ps : List Pt.Fl) (w : World) (h : GatB W0 N A m w) (hc : CellsAt (Btw A N) w ps.length pv (fC ps)) (hp : ∀ x ∈ ps, x.1.length ≤ 40000 ∧ x.2.length ≤ 40000) (hp2 : ps.length ≤ 40000) (hm : m.length ≤ 900000000000) (hE0 : ∀ w', Below W0.heap.size w w' → Tx.Env w') :
    Calls Tryz.prog 77 #[.func (.func 53) #[] #[.pointer (some ⟨A, 0, none⟩)], pv] w fun e w' => e = .returned (.tuple #[]) ∧ GoneB W0 N A (m ++ parL ps) w w' := by
  obtain ⟨ua, uc, rfl⟩ := cells_form hc
  by_cases h0 : ps = []
  · subst h0
    have HG := Lib.hid h
    have HA : Hid (flatT [⟨#[78, 73, 76]⟩] = parL []) := Lib.hid rfl
    clear h hc
    go_enter Tryz.func77, Tryz.ntmps77
    go_wp2_with fail
    refine (add_new W0 A m [⟨#[78, 73, 76]⟩] #[.string ⟨#[78, 73, 76]⟩] 1 w HG.out rfl rfl (by decide) (by show m.length + 3 ≤ _; omega)).mono ?_
    rintro e w1 ⟨rfl, hg1⟩
    rw [HA.out] at hg1
    have HG1 := Lib.hid hg1
    clear hg1
    go_wp2_with fail
    refine bodyPost_ret (results_none rfl _ _ _) rfl ?_
    exact ⟨rfl, HG1.out⟩
  · have hlen : 0 < ps.length := List.length_pos_iff.2 h0
    have HAD : Hid (parL ps = parK ps ps.length ++ [41]) := Lib.hid (by unfold parL; rw [if_neg h0])
    have HPL := Lib.hid (fun k => parK_len hp k)
    have HP := Lib.hid hp
    have HG := Lib.hid h
    have HC := Lib.hid hc
    have HE0 := Lib.hid hE0
    have H1 : Hid (GoneB W0 N A (m ++ parK ps 0) w w) := Lib.hid (by rw [parK, List.append_nil]; exact gone_refl h)
    have g0 : ((ps.length : Int) == 0) = false := by rw [beq_eq_false_iff_ne]; omega
    clear h hc hE0 hp h0 hlen
    go_enter Tryz.func77, Tryz.ntmps77
    go_wp2_with fail
    go_loopw [4, 15] (fun av i wr => ∃ k : Nat, k ≤ ps.length ∧ av = .string ⟨(ahd k).toArray⟩ ∧ i = .int .i64 (k : Int) ∧ Hid (GoneB W0 N A (m ++ parK ps k) w wr)) (fun _ i _ => ps.length - (intOf i).toNat)
    case atStart => exact ⟨0, Nat.zero_le _, rfl, rfl, H1⟩
    case round =>
      clear H1
      obtain ⟨k, hk, rfl, rfl, hG⟩ := hrel
      by_cases hlt : k < ps.length
      · have gk : (k : Int) < (ps.length : Int) := by omega
        have hFA := cells_fields (HC.out.keep (kept_gone hG.out))
        obtain ⟨a2, cap2, he2, hcell⟩ := hFA.form
        injection he2 with e1 _ e3
        subst e1 e3
        obtain ⟨g, o, rfl, c0, c1⟩ := hcell k hlt
        have hts := HP.out ps[k] (List.getElem_mem hlt)
        have HST : Hid (parK ps (k + 1) = parK ps k ++ (ahd k ++ oneParL ps[k])) := Lib.hid (parK_succ ps k hlt)
        have hkl := HPL.out k
        obtain ⟨a, ha⟩ : ∃ a, ps[k] = a := ⟨_, rfl⟩
        rw [ha] at c0 c1 hts HST
        obtain ⟨Nm, Vl⟩ := a
        obtain ⟨M, hM⟩ : ∃ M, m ++ parK ps k = M := ⟨_, rfl⟩
        have hMl : M.length ≤ 910000000000 := by
          rw [← hM, List.length_append]
          omega
        have HNX : Hid (m ++ parK ps (k + 1) = M ++ (ahd k ++ oneParL (Nm, Vl))) := Lib.hid (by rw [HST.out, ← hM, List.append_assoc])
        rw [hM] at hG
        simp only at c0 c1 hts
        obtain ⟨t1, t2⟩ := hts
        have HAK : Hid (ahd (k + 1) = [32]) := Lib.hid (by unfold ahd; rw [if_neg (by omega)])
        have hal : (ahd k).length = 1 := by unfold ahd; split <;> rfl
        obtain ⟨AH, hAH⟩ : ∃ AH, ahd k = AH := ⟨_, rfl⟩
        rw [hAH] at hal HNX ⊢
        unfold sV at c0 c1
        clear hcell hFA ha hM HST hAH hkl
        have HSTR : Hid (∀ (l : List UInt8) (W : World), Hid (l.length ≤ 40000) → Tx.Env W → Calls Tryz.prog 75 #[.string ⟨l.toArray⟩] W fun e w' => e = .returned (.string ⟨(Tx.strL l).toArray⟩) ∧ Below W.heap.size W w') := Lib.hid (fun l W h1 h2 => Tx.string_any ⟨l.toArray⟩ W (by rw [Lib.size_mk]; have := h1.out; omega) h2)
        have HB : Hid (Nm.length ≤ 40000) := Lib.hid t1
        have HH : Hid (Vl.length ≤ 40000) := Lib.hid t2
        have HX0 : Hid (Rf W0 N A M w wr.heap.size Nm Vl (wr.alloc (.cells #[.string ⟨Nm.toArray⟩, .string ⟨Vl.toArray⟩] 74))) := Lib.hid
          ⟨gone_next hG.out ((Below.refl _ wr).alloc (Nat.le_refl _) _), Lib.cell_of_heap (Kit.fresh_block wr _ _) 0, Lib.cell_of_heap (Kit.fresh_block wr _ _) 1, HE0.out _ (hG.out.below.trans (((Below.refl _ wr).alloc (Nat.le_refl _) _).mono hG.out.gat.size))⟩
        have HONE : Hid (AH ++ oneParL (Nm, Vl) = flatT (parT AH (Tx.strL Nm) (Tx.strL Vl))) := Lib.hid (by rw [parT_flat]; rfl)
        have HBND : Hid (M.length + (flatT (parT AH (Tx.strL Nm) (Tx.strL Vl))).length ≤ 1099511627776) := Lib.hid (by
          rw [← HONE.out, List.length_append, hal]
          have := onePar_len (f := (Nm, Vl)) ⟨t1, t2⟩
          omega)
        clear t1 t2
        go_wp2_with fail
        have hRd := HX0.out
        have q0 := hRd.c0
        have q1 := hRd.c1
        generalize (wr.alloc (.cells #[.string ⟨Nm.toArray⟩, .string ⟨Vl.toArray⟩] 74)) = X at *
        have hRd2 := hRd.next ((Below.refl _ X).drew)
        clear hRd
        go_region_with (first
          | (refine (HSTR.out _ _ (by assumption) (Rf.env (by assumption))).mono ?_; rintro e7 w7 ⟨rfl, hb7⟩; have hRd7 := Rf.next (by assumption) hb7; have p0 := hRd7.c0; have p1 := hRd7.c1)
          | (refine (add_new W0 A M (parT AH (Tx.strL Nm) (Tx.strL Vl)) _ 4 _ (Rf.gone (by assumption)).gat rfl rfl (by decide) HBND.out).mono ?_; rintro e8 w8 ⟨rfl, hg8⟩; have HG8 := Lib.hid (gone_trans (Rf.gone (by assumption)) hg8)))
        all_goals
          go_wp2_with fail
          go_roundw
          case rel =>
            refine ⟨k + 1, by omega, by rw [HAK.out], by go_num, ?_⟩
            rw [HNX.out, HONE.out]
            exact HG8
          case measure => simp [intOf]; omega
      · have he : k = ps.length := by omega
        subst he
        have HF := Lib.hid hG.out
        have hML : (m ++ parK ps ps.length).length ≤ 910000000000 := by
          have := HPL.out ps.length
          rw [List.length_append]
          omega
        clear hG
        go_wp2_with fail
        refine (add_new W0 A (m ++ parK ps ps.length) [⟨#[41]⟩] #[.string ⟨#[41]⟩] 1 wr HF.out.gat rfl rfl (by decide) (by show _ + 1 ≤ _; omega)).mono ?_
        rintro e w2 ⟨rfl, hg2⟩
        have HG2 : Hid (GoneB W0 N A (m ++ parL ps) w w2) := Lib.hid (by
          have := gone_trans HF.out hg2
          rw [HAD.out, ← List.append_assoc]
          exact this)
        clear hg2
        go_wp2_with fail
        go_end0
        exact ⟨rfl, HG2.out⟩
end Go.Proofs.YtnnbbjdidbggmaaGreatDoor.Lk
namespace Go.Proofs.YtnnbbjdidbggmaaGreatDoor.Lk
open Go Go.RowKit Go.Joins Kit F0 Pt

/-- What a part's walk goes by: what is gathered; the part's own variable at block G. -/
structure Rq (W0 : World) (N A : Nat) (M : List UInt8) (w : World) (G : Nat) (c0 c1 c2 c3 c4 c5 c6 c7 : Value) (X : World) : Prop where
  gone : GoneB W0 N A M w X
  blk : X.heap[G]? = some (.cells #[c0, c1, c2, c3, c4, c5, c6, c7] 42 (0, 0))
  ne : G ≠ A
section
variable {W0 : World} {N A : Nat} {M M' : List UInt8} {w : World} {G : Nat} {c0 c1 c2 c3 c4 c5 c6 c7 : Value} {X Y : World}
theorem Rq.next (h : Rq W0 N A M w G c0 c1 c2 c3 c4 c5 c6 c7 X) (hb : Below X.heap.size X Y) : Rq W0 N A M w G c0 c1 c2 c3 c4 c5 c6 c7 Y :=
  ⟨gone_next h.gone hb, (hb.block G (Array.getElem?_eq_some_iff.1 h.blk).1).trans h.blk, h.ne⟩
theorem Rq.add (h : Rq W0 N A M w G c0 c1 c2 c3 c4 c5 c6 c7 X) (hg : GoneB W0 N A M' X Y) : Rq W0 N A M' w G c0 c1 c2 c3 c4 c5 c6 c7 Y :=
  ⟨gone_trans h.gone hg, gone_cell hg h.blk (by decide) h.ne, h.ne⟩
theorem Rq.cell (h : Rq W0 N A M w G c0 c1 c2 c3 c4 c5 c6 c7 X) : X.cell? ⟨G, 0, none⟩ = some c0 ∧ X.cell? ⟨G, 1, none⟩ = some c1 ∧ X.cell? ⟨G, 2, none⟩ = some c2 ∧ X.cell? ⟨G, 5, none⟩ = some c5 ∧ X.cell? ⟨G, 6, none⟩ = some c6 ∧ X.cell? ⟨G, 7, none⟩ = some c7 :=
  ⟨Lib.cell_of_heap h.blk 0, Lib.cell_of_heap h.blk 1, Lib.cell_of_heap h.blk 2, Lib.cell_of_heap h.blk 5, Lib.cell_of_heap h.blk 6, Lib.cell_of_heap h.blk 7⟩
end
def AddOk (s : ByteArray) (W0 : World) (N A : Nat) (j : P) : Prop := ∀ (m : List UInt8) (w : World) (c0 c1 c2 c3 c4 c5 c6 c7 : Value), fineP s.size j → PartAt (Btw A N) w j (.agg #[c0, c1, c2, c3, c4, c5, c6, c7]) → GatB W0 N A m w → m.length + wtP j * 7000000000 ≤ 800000000000 → (∀ w', Below W0.heap.size w w' → Tx.Env w') →
  Calls Tryz.prog 44 #[.func (.func 53) #[] #[.pointer (some ⟨A, 0, none⟩)], .string s, .agg #[c0, c1, c2, c3, c4, c5, c6, c7]] w fun e w' => e = .returned (.tuple #[]) ∧ GoneB W0 N A (m ++ structP s.data.toList j) w w'
/-- strings.Cut of a type at its slash. -/
theorem cutT_any (ty : List UInt8) (w : World) (h : ty.length ≤ 40000) (hE : Tx.Env w) :
    Calls Tryz.prog 76 #[.string ⟨ty.toArray⟩, .string ⟨#[47]⟩] w fun e w' => e = .returned (.tuple #[.string ⟨(kindL ty).toArray⟩, .string ⟨(formL ty).toArray⟩, .bool (Lib.cut ty [47]).2.2]) ∧ Below w.heap.size w w' := by
  obtain ⟨m, hm⟩ := hE.max w (Below.refl _ _)
  refine (Tryz.strings_Cut ⟨ty.toArray⟩ ⟨#[47]⟩ m w (by rw [Lib.size_mk]; omega) hm).mono ?_
  rintro e w' ⟨rfl, n, rfl⟩
  exact ⟨rfl, below_drewN (Below.refl _ _) n⟩

set_option maxHeartbeats 4000000 in
set_option maxRecDepth 100000 in
theorem part_leaf (s : ByteArray) (hs : s.size ≤ 32768) (W0 : World) (N A : Nat) (j : P) (hk0 : j.kids = []) : AddOk s W0 N A j := by
  intro m w c0 c1 c2 c3 c4 c5 c6 c7 hfine hc hG hm hE0
  obtain ⟨ap, mp, ak, mk, e, hps, cs, hk1, hk2⟩ := part_cells hc
  injection e with e
  injection e with e
  injection e with e0 e
  injection e with e1 e
  injection e with e2 e
  injection e with e3 e
  injection e with e4 e
  injection e with e5 e
  injection e with e6 e
  injection e with e7 e
  subst e0 e1 e2 e3 e4 e5 e6 e7
  obtain ⟨⟨f1, f2, f3, f4, f5, f6⟩, _⟩ := fine_own hfine
  have HST : Hid (structP s.data.toList j = [40] ++ leafL s.data.toList j) := Lib.hid (structP_leaf _ hk0)
  have HLF : Hid (leafL s.data.toList j = (Tx.strL (kindL j.ty) ++ [32] ++ Tx.strL (formL j.ty) ++ [32]) ++ parL j.ps ++ ([32] ++ nilT ++ [32] ++ nilT ++ [32] ++ Tx.strL j.enc ++ [32] ++ Lib.decDigits (j.to - j.fm)) ++ cntL s.data.toList j ++ [41]) := Lib.hid rfl
  have HCN : Hid (cntL s.data.toList j = if kindL j.ty = textT then [32] ++ Lib.decDigits (Lib.countByte (segL s.data.toList j.fm j.to) 10) else []) := Lib.hid rfl
  have hlen0 : j.kids.length = 0 := by rw [hk0]; rfl
  have hw1 : m.length ≤ 800000000000 := by omega
  have HPS := Lib.hid hps
  have HG0 := Lib.hid hG
  have HE0 := Lib.hid hE0
  have HFP := Lib.hid f4
  have hq := cut_len2 j.ty
  rw [hlen0]
  obtain ⟨hh, hhh⟩ : ∃ x, j.hd = x := ⟨_, rfl⟩
  obtain ⟨ff, hff⟩ : ∃ x, j.fm = x := ⟨_, rfl⟩
  obtain ⟨tt, htt⟩ : ∃ x, j.to = x := ⟨_, rfl⟩
  obtain ⟨ty, hty⟩ : ∃ x, j.ty = x := ⟨_, rfl⟩
  obtain ⟨enc, henc⟩ : ∃ x, j.enc = x := ⟨_, rfl⟩
  obtain ⟨ps, hps2⟩ : ∃ x, j.ps = x := ⟨_, rfl⟩
  rw [hty, henc, hps2, hff, htt] at HLF
  rw [hty, hff, htt] at HCN
  rw [hps2] at HPS HFP f3
  rw [hty] at f1 hq
  rw [henc] at f2
  rw [hff, htt] at f5
  rw [htt] at f6
  rw [hty, hps2, henc, hhh, hff, htt]
  have HCUT := Lib.hid (cutT_any ty (w.alloc (.cells #[.string ⟨ty.toArray⟩, .slice ap ps.length mp, .string ⟨enc.toArray⟩, .bool j.att, .int .i64 (hh : Int), .int .i64 (ff : Int), .int .i64 (tt : Int), .slice ak 0 mk] 42)) f1 (HE0.out _ ((Below.refl _ w).alloc HG0.out.size _)))
  obtain ⟨CB, hCB⟩ : ∃ CB, (Lib.cut ty [47]).2.2 = CB := ⟨_, rfl⟩
  rw [hCB] at HCUT
  have HQ0 : Hid (Rq W0 N A m w w.heap.size (.string ⟨ty.toArray⟩) (.slice ap ps.length mp) (.string ⟨enc.toArray⟩) (.bool j.att) (.int .i64 (hh : Int)) (.int .i64 (ff : Int)) (.int .i64 (tt : Int)) (.slice ak 0 mk) (w.alloc (.cells #[.string ⟨ty.toArray⟩, .slice ap ps.length mp, .string ⟨enc.toArray⟩, .bool j.att, .int .i64 (hh : Int), .int .i64 (ff : Int), .int .i64 (tt : Int), .slice ak 0 mk] 42))) := Lib.hid
    ⟨gone_next (gone_refl hG) ((Below.refl _ w).alloc (Nat.le_refl _) _), Kit.fresh_block w _ _, fun e => by have := hG.lt; omega⟩
  obtain ⟨KD, hKD⟩ : ∃ x, kindL ty = x := ⟨_, rfl⟩
  obtain ⟨FM, hFM⟩ : ∃ x, formL ty = x := ⟨_, rfl⟩
  rw [hKD, hFM] at HLF HCUT hq
  rw [hKD] at HCN
  have HSTR : Hid (∀ (l : List UInt8) (W : World), Hid (l.length ≤ 40000) → Tx.Env W → Calls Tryz.prog 75 #[.string ⟨l.toArray⟩] W fun e w' => e = .returned (.string ⟨(Tx.strL l).toArray⟩) ∧ Below W.heap.size W w') := Lib.hid (fun l W h1 h2 => Tx.string_any ⟨l.toArray⟩ W (by rw [Lib.size_mk]; have := h1.out; omega) h2)
  have HLK : Hid (KD.length ≤ 40000) := Lib.hid (by omega)
  have HLM : Hid (FM.length ≤ 40000) := Lib.hid (by omega)
  have HLE : Hid (enc.length ≤ 40000) := Lib.hid f2
  have HSL : Hid (∀ l : List UInt8, l.length ≤ 40000 → (Tx.strL l).length ≤ 80020) := Lib.hid (fun l h => by have := str_len l (by omega); omega)
  clear hfine hc hG hE0 hps hk1 hk2 hk0 hm hhh hff htt hty henc hps2 hKD hFM hCB f1 f2 f4 hq
  unfold sV
  go_enter Tryz.func44, Tryz.ntmps44
  go_wp2_with fail
  refine HCUT.out.mono ?_
  rintro e w1 ⟨rfl, hb1⟩
  have HQ1 := Lib.hid (HQ0.out.next hb1)
  clear hb1
  go_wp2_with fail
  refine (add_new W0 A m [⟨#[40]⟩] #[.string ⟨#[40]⟩] 1 w1 HQ1.out.gone.gat rfl rfl (by decide) (by show m.length + 1 ≤ _; omega)).mono ?_
  rintro e w2 ⟨rfl, hg2⟩
  have HQ2 := Lib.hid (HQ1.out.add hg2)
  clear hg2
  have hcell := HQ2.out.cell
  obtain ⟨d0, d1, d2, d5, d6, d7⟩ := hcell
  clear d0 d1 d2 d5 d6
  go_wp2_with fail
  refine (HSTR.out KD w2 HLK (HE0.out _ HQ2.out.gone.below)).mono ?_
  rintro e w3 ⟨rfl, hb3⟩
  have HQ3 := Lib.hid (HQ2.out.next hb3)
  clear hb3 d7
  go_wp2_with fail
  refine (HSTR.out FM w3 HLM (HE0.out _ HQ3.out.gone.below)).mono ?_
  rintro e w4 ⟨rfl, hb4⟩
  have HQ4 := Lib.hid (HQ3.out.next hb4)
  clear hb4
  go_wp2_with fail
  have hs1 := HSL.out KD HLK.out
  have hs2 := HSL.out FM HLM.out
  have hs3 := HSL.out enc HLE.out
  have HT4 : Hid (flatT [⟨(Tx.strL KD).toArray⟩, ⟨#[32]⟩, ⟨(Tx.strL FM).toArray⟩, ⟨#[32]⟩] = Tx.strL KD ++ [32] ++ Tx.strL FM ++ [32]) := Lib.hid (by simp [flatT])
  have hz4 : (flatT [⟨(Tx.strL KD).toArray⟩, ⟨#[32]⟩, ⟨(Tx.strL FM).toArray⟩, ⟨#[32]⟩]).length ≤ 200000 := by rw [HT4.out]; simp only [List.length_append, List.length_singleton]; omega
  refine (add_new W0 A (m ++ flatT [⟨#[40]⟩]) [⟨(Tx.strL KD).toArray⟩, ⟨#[32]⟩, ⟨(Tx.strL FM).toArray⟩, ⟨#[32]⟩] _ 4 w4 HQ4.out.gone.gat rfl rfl (by decide) (by rw [List.length_append]; show m.length + 1 + _ ≤ _; omega)).mono ?_
  rintro e w5 ⟨rfl, hg5⟩
  have HQ5 := Lib.hid (HQ4.out.add hg5)
  have HC5 := Lib.hid HQ5.out.cell
  obtain ⟨M5, hM5⟩ : ∃ M5, m ++ flatT [⟨#[40]⟩] ++ flatT [⟨(Tx.strL KD).toArray⟩, ⟨#[32]⟩, ⟨(Tx.strL FM).toArray⟩, ⟨#[32]⟩] = M5 := ⟨_, rfl⟩
  have hl5 : M5.length ≤ 800000300000 := by rw [← hM5, List.length_append, List.length_append]; show m.length + 1 + _ ≤ _; omega
  rw [hM5] at HQ5
  have HM5 : Hid (M5 = m ++ ([40] ++ (Tx.strL KD ++ [32] ++ Tx.strL FM ++ [32]))) := Lib.hid (by rw [← hM5, HT4.out, List.append_assoc]; rfl)
  have d1 := HC5.out.2.1
  clear hg5 hM5 hz4 hs1 hs2
  go_wp2_with fail
  refine (pars_any W0 N A M5 _ ps w5 HQ5.out.gone.gat (HPS.out.keep (kept_gone HQ5.out.gone)) HFP.out f3 (by omega) (fun w' h => HE0.out w' (HQ5.out.gone.below.trans h))).mono ?_
  rintro e w6 ⟨rfl, hg6⟩
  have hQ6 := HQ5.out.add hg6
  have hpl := parL_len HFP.out f3
  obtain ⟨M6, hM6⟩ : ∃ M6, M5 ++ parL ps = M6 := ⟨_, rfl⟩
  have hl6 : M6.length ≤ 810000000000 := by rw [← hM6, List.length_append]; omega
  rw [hM6] at hQ6
  have HM6 := Lib.hid hM6
  clear hg6 hM6 hpl d1 HC5
  obtain ⟨q0, q1, q2, q5, q6, q7⟩ := hQ6.cell
  have hblk := hQ6.blk
  have HQ6 := Lib.hid hQ6
  clear hQ6 q0 q1 q7
  obtain ⟨d, hd⟩ : ∃ d : Nat, tt - ff = d := ⟨_, rfl⟩
  have hsub : (tt : Int) - (ff : Int) = (d : Int) := by omega
  have hwr : IntKind.i64.wrap (d : Int) = (d : Int) := IntWalk.i64_in _ (by omega)
  have HDG : Hid (∀ (n : Nat) (W : World), Hid (n ≤ 40000) → Tx.Env W → Calls Tryz.prog 78 #[.int .i64 (n : Int)] W fun e w' => e = .returned (.string ⟨(Lib.decDigits n).toArray⟩) ∧ Below W.heap.size W w') := Lib.hid (fun n W h1 h2 => Tx.digits_any (n : Int) (by omega) (by have := h1.out; omega) W h2)
  have HN1 : Hid (d ≤ 40000) := Lib.hid (by omega)
  have hd1 := dig_len (n := d) (by omega)
  have HT8 : Hid (flatT [⟨#[32]⟩, ⟨#[78, 73, 76]⟩, ⟨#[32]⟩, ⟨#[78, 73, 76]⟩, ⟨#[32]⟩, ⟨(Tx.strL enc).toArray⟩, ⟨#[32]⟩, ⟨(Lib.decDigits d).toArray⟩] = [32] ++ nilT ++ [32] ++ nilT ++ [32] ++ Tx.strL enc ++ [32] ++ Lib.decDigits d) := Lib.hid (by simp [flatT, nilT])
  have HL8 : Hid ((flatT [⟨#[32]⟩, ⟨#[78, 73, 76]⟩, ⟨#[32]⟩, ⟨#[78, 73, 76]⟩, ⟨#[32]⟩, ⟨(Tx.strL enc).toArray⟩, ⟨#[32]⟩, ⟨(Lib.decDigits d).toArray⟩]).length ≤ 200000) := Lib.hid (by
    have q7 : nilT.length = 3 := rfl
    rw [HT8.out]; simp only [List.length_append, List.length_singleton]; omega)
  have HZ8 : Hid (M6.length + (flatT [⟨#[32]⟩, ⟨#[78, 73, 76]⟩, ⟨#[32]⟩, ⟨#[78, 73, 76]⟩, ⟨#[32]⟩, ⟨(Tx.strL enc).toArray⟩, ⟨#[32]⟩, ⟨(Lib.decDigits d).toArray⟩]).length ≤ 1099511627776) := Lib.hid (by
    have := HL8.out
    omega)
  have HLF2 : Hid (leafL s.data.toList j = (Tx.strL KD ++ [32] ++ Tx.strL FM ++ [32]) ++ parL ps ++ flatT [⟨#[32]⟩, ⟨#[78, 73, 76]⟩, ⟨#[32]⟩, ⟨#[78, 73, 76]⟩, ⟨#[32]⟩, ⟨(Tx.strL enc).toArray⟩, ⟨#[32]⟩, ⟨(Lib.decDigits d).toArray⟩] ++ cntL s.data.toList j ++ [41]) := Lib.hid (by rw [HLF.out, HT8.out, hd])
  have HK1 : Hid (∀ X Y : World, (X.heap[w.heap.size]? = some (.cells #[.string ⟨ty.toArray⟩, .slice ap ps.length mp, .string ⟨enc.toArray⟩, .bool j.att, .int .i64 (hh : Int), .int .i64 (ff : Int), .int .i64 (tt : Int), .slice ak 0 mk] 42 (0, 0)) ∧ X.cell? ⟨w.heap.size, 2, none⟩ = some (.string ⟨enc.toArray⟩) ∧ X.cell? ⟨w.heap.size, 5, none⟩ = some (.int .i64 (ff : Int)) ∧ X.cell? ⟨w.heap.size, 6, none⟩ = some (.int .i64 (tt : Int))) → Below X.heap.size X Y → (Y.heap[w.heap.size]? = some (.cells #[.string ⟨ty.toArray⟩, .slice ap ps.length mp, .string ⟨enc.toArray⟩, .bool j.att, .int .i64 (hh : Int), .int .i64 (ff : Int), .int .i64 (tt : Int), .slice ak 0 mk] 42 (0, 0)) ∧ Y.cell? ⟨w.heap.size, 2, none⟩ = some (.string ⟨enc.toArray⟩) ∧ Y.cell? ⟨w.heap.size, 5, none⟩ = some (.int .i64 (ff : Int)) ∧ Y.cell? ⟨w.heap.size, 6, none⟩ = some (.int .i64 (tt : Int)))) := Lib.hid (fun X Y h hb => by
    have hb1 := (hb.block w.heap.size (Array.getElem?_eq_some_iff.1 h.1).1).trans h.1
    exact ⟨hb1, Lib.cell_of_heap hb1 2, Lib.cell_of_heap hb1 5, Lib.cell_of_heap hb1 6⟩)
  have HK3 : Hid (∀ (X Y : World) (L L2 : List UInt8), GoneB W0 N A L X Y → Rq W0 N A L2 w w.heap.size (.string ⟨ty.toArray⟩) (.slice ap ps.length mp) (.string ⟨enc.toArray⟩) (.bool j.att) (.int .i64 (hh : Int)) (.int .i64 (ff : Int)) (.int .i64 (tt : Int)) (.slice ak 0 mk) X → (Y.heap[w.heap.size]? = some (.cells #[.string ⟨ty.toArray⟩, .slice ap ps.length mp, .string ⟨enc.toArray⟩, .bool j.att, .int .i64 (hh : Int), .int .i64 (ff : Int), .int .i64 (tt : Int), .slice ak 0 mk] 42 (0, 0)) ∧ Y.cell? ⟨w.heap.size, 2, none⟩ = some (.string ⟨enc.toArray⟩) ∧ Y.cell? ⟨w.heap.size, 5, none⟩ = some (.int .i64 (ff : Int)) ∧ Y.cell? ⟨w.heap.size, 6, none⟩ = some (.int .i64 (tt : Int)))) := Lib.hid (fun X Y L L2 hb h => by
    have hb1 := gone_cell hb h.blk (by decide) HQ6.out.ne
    exact ⟨hb1, Lib.cell_of_heap hb1 2, Lib.cell_of_heap hb1 5, Lib.cell_of_heap hb1 6⟩)
  have HKA : Hid (∀ (X : World) (o : Obj), (X.heap[w.heap.size]? = some (.cells #[.string ⟨ty.toArray⟩, .slice ap ps.length mp, .string ⟨enc.toArray⟩, .bool j.att, .int .i64 (hh : Int), .int .i64 (ff : Int), .int .i64 (tt : Int), .slice ak 0 mk] 42 (0, 0)) ∧ X.cell? ⟨w.heap.size, 2, none⟩ = some (.string ⟨enc.toArray⟩) ∧ X.cell? ⟨w.heap.size, 5, none⟩ = some (.int .i64 (ff : Int)) ∧ X.cell? ⟨w.heap.size, 6, none⟩ = some (.int .i64 (tt : Int))) → ((X.alloc o).heap[w.heap.size]? = some (.cells #[.string ⟨ty.toArray⟩, .slice ap ps.length mp, .string ⟨enc.toArray⟩, .bool j.att, .int .i64 (hh : Int), .int .i64 (ff : Int), .int .i64 (tt : Int), .slice ak 0 mk] 42 (0, 0)) ∧ (X.alloc o).cell? ⟨w.heap.size, 2, none⟩ = some (.string ⟨enc.toArray⟩) ∧ (X.alloc o).cell? ⟨w.heap.size, 5, none⟩ = some (.int .i64 (ff : Int)) ∧ (X.alloc o).cell? ⟨w.heap.size, 6, none⟩ = some (.int .i64 (tt : Int)))) := Lib.hid (fun X o h => HK1.out X _ h ((Below.refl _ X).alloc (Nat.le_refl _) o))
  have hS6 : (w6.heap[w.heap.size]? = some (.cells #[.string ⟨ty.toArray⟩, .slice ap ps.length mp, .string ⟨enc.toArray⟩, .bool j.att, .int .i64 (hh : Int), .int .i64 (ff : Int), .int .i64 (tt : Int), .slice ak 0 mk] 42 (0, 0)) ∧ w6.cell? ⟨w.heap.size, 2, none⟩ = some (.string ⟨enc.toArray⟩) ∧ w6.cell? ⟨w.heap.size, 5, none⟩ = some (.int .i64 (ff : Int)) ∧ w6.cell? ⟨w.heap.size, 6, none⟩ = some (.int .i64 (tt : Int))) := ⟨hblk, q2, q5, q6⟩
  have hQd := HQ6.out.next ((Below.refl _ w6).drew)
  clear hs3 hd1 hd hblk
  go_wp2_with fail
  go_region_held3 (fun X : World => (X.heap[w.heap.size]? = some (.cells #[.string ⟨ty.toArray⟩, .slice ap ps.length mp, .string ⟨enc.toArray⟩, .bool j.att, .int .i64 (hh : Int), .int .i64 (ff : Int), .int .i64 (tt : Int), .slice ak 0 mk] 42 (0, 0)) ∧ X.cell? ⟨w.heap.size, 2, none⟩ = some (.string ⟨enc.toArray⟩) ∧ X.cell? ⟨w.heap.size, 5, none⟩ = some (.int .i64 (ff : Int)) ∧ X.cell? ⟨w.heap.size, 6, none⟩ = some (.int .i64 (tt : Int))))
    (first | exact HK1.out _ _ hS6 ((Below.refl _ w6).drew) | exact HK1.out _ _ (by assumption) (by assumption) | exact HKA.out _ _ (by assumption) | exact HK3.out _ _ _ _ (by assumption) (by assumption))
    ((first
      | (go_at_call 75; refine (HSTR.out _ _ (by assumption) (HE0.out _ (Rq.gone (by assumption)).below)).mono ?_; rintro e7 w7 ⟨rfl, hb7⟩; have hQ7 := Rq.next (by assumption) hb7)
      | (go_at_call 78; refine (HDG.out d _ HN1 (HE0.out _ (Rq.gone (by assumption)).below)).mono ?_; rintro e7 w7 ⟨rfl, hb7⟩; have hQ7 := Rq.next (by assumption) hb7)
      | (go_at_call 53; refine (add_new W0 A M6 [⟨#[32]⟩, ⟨#[78, 73, 76]⟩, ⟨#[32]⟩, ⟨#[78, 73, 76]⟩, ⟨#[32]⟩, ⟨(Tx.strL enc).toArray⟩, ⟨#[32]⟩, ⟨(Lib.decDigits d).toArray⟩] _ 8 _ (Rq.gone (by assumption)).gat rfl rfl (by decide) HZ8.out).mono ?_; rintro e8 w8 ⟨rfl, hg8⟩)))
  all_goals
    have HQ8 := Lib.hid (Rq.add hQ7 hg8)
    have HC8 := Lib.hid HQ8.out.cell
    obtain ⟨F8, hF8⟩ : ∃ F8, flatT [⟨#[32]⟩, ⟨#[78, 73, 76]⟩, ⟨#[32]⟩, ⟨#[78, 73, 76]⟩, ⟨#[32]⟩, ⟨(Tx.strL enc).toArray⟩, ⟨#[32]⟩, ⟨(Lib.decDigits d).toArray⟩] = F8 := ⟨_, rfl⟩
    rw [hF8] at HQ8 HL8 HLF2
    obtain ⟨M8, hM8⟩ : ∃ M8, M6 ++ F8 = M8 := ⟨_, rfl⟩
    have hl8 : M8.length ≤ 820000000000 := by have := HL8.out; rw [← hM8, List.length_append]; omega
    have HM8 : Hid (M8 = m ++ ([40] ++ ((Tx.strL KD ++ [32] ++ Tx.strL FM ++ [32]) ++ parL ps ++ F8))) := Lib.hid (by rw [← hM8, ← HM6.out, HM5.out]; simp only [List.append_assoc])
    rw [hM8] at HQ8
    clear hF8 hM8 q2 q5 q6 hS6 hQd
    by_cases hkd : KD = textT
    · have HCN2 := Lib.hid (HCN.out.trans (if_pos hkd))
      subst hkd
      unfold textT at *
      have e5 := HC8.out.2.2.2.1
      have e6 := HC8.out.2.2.2.2.1
      have gf : (ff : Int) ≤ (tt : Int) := by omega
      have gt : (tt : Int) ≤ (s.size : Int) := by omega
      have hext := ext_list s ff tt
      obtain ⟨X, hX⟩ : ∃ X, s.extract ff tt = X := ⟨_, rfl⟩
      rw [hX] at hext
      have HXL : Hid (X.data.toList = segL s.data.toList ff tt) := Lib.hid hext
      obtain ⟨cn, hcn⟩ : ∃ cn, Lib.countByte X.data.toList 10 = cn := ⟨_, rfl⟩
      have HCT : Hid (Calls Tryz.prog 79 #[.string X, .string ⟨#[10]⟩] w8 fun e w' => e = .returned (.int .i64 (cn : Int)) ∧ w' = w8) := Lib.hid (by rw [← hcn]; exact Tryz.strings_Count_one X 10 w8)
      have hcl : cn ≤ 40000 := by
        have h1 : cn ≤ X.data.toList.length := by rw [← hcn]; exact List.count_le_length
        have h2 : X.data.toList.length ≤ 32768 := by rw [hext, List.length_drop, List.length_take, ← Lib.size_eq]; omega
        omega
      have HCL : Hid (cn ≤ 40000) := Lib.hid hcl
      have hdl := dig_len (n := cn) (by omega)
      have HT2 : Hid (flatT [⟨#[32]⟩, ⟨(Lib.decDigits cn).toArray⟩] = cntL s.data.toList j) := Lib.hid (by rw [HCN2.out, ← HXL.out, hcn]; simp [flatT])
      have HZ2 : Hid ((flatT [⟨#[32]⟩, ⟨(Lib.decDigits cn).toArray⟩]).length ≤ 100) := Lib.hid (by simp [flatT]; omega)
      clear hext hcn hcl hdl
      go_wp2_with fail
      refine HCT.out.mono ?_
      rintro e w9 ⟨rfl, rfl⟩
      go_wp2_with fail
      refine (HDG.out cn _ HCL (HE0.out _ HQ8.out.gone.below)).mono ?_
      rintro e w10 ⟨rfl, hb10⟩
      have HQ10 := Lib.hid (HQ8.out.next hb10)
      clear hb10 e5 e6 hX
      go_wp2_with fail
      refine (add_new W0 A M8 [⟨#[32]⟩, ⟨(Lib.decDigits cn).toArray⟩] _ 2 w10 HQ10.out.gone.gat rfl rfl (by decide) (by have := HZ2.out; omega)).mono ?_
      rintro e w11 ⟨rfl, hg11⟩
      have HQ11 := Lib.hid (HQ10.out.add hg11)
      clear hg11
      go_wp2_with fail
      refine (add_new W0 A (M8 ++ flatT [⟨#[32]⟩, ⟨(Lib.decDigits cn).toArray⟩]) [⟨#[41]⟩] _ 1 w11 HQ11.out.gone.gat rfl rfl (by decide) (by have := HZ2.out; rw [List.length_append]; show _ + 1 ≤ _; omega)).mono ?_
      rintro e w12 ⟨rfl, hg12⟩
      have HF : Hid (GoneB W0 N A (m ++ structP s.data.toList j) w w12) := Lib.hid (by
        have h := (HQ11.out.add hg12).gone
        rw [HT2.out, HM8.out] at h
        rw [HST.out, HLF2.out]
        have e : m ++ ([40] ++ (Tx.strL [116, 101, 120, 116] ++ [32] ++ Tx.strL FM ++ [32] ++ parL ps ++ F8 ++ cntL s.data.toList j ++ [41])) = m ++ ([40] ++ (Tx.strL [116, 101, 120, 116] ++ [32] ++ Tx.strL FM ++ [32] ++ parL ps ++ F8)) ++ cntL s.data.toList j ++ flatT [⟨#[41]⟩] := by
          rw [show flatT [⟨#[41]⟩] = [41] from rfl]
          simp only [List.append_assoc]
        rw [e]
        exact h)
      clear hg12
      go_wp2_with fail
      go_end0
      exact ⟨rfl, HF.out⟩
    · have gK : (KD == [116, 101, 120, 116]) = false := by simpa [textT] using hkd
      have HCN2 := Lib.hid (HCN.out.trans (if_neg hkd))
      clear hkd
      go_wp2_with fail
      refine (add_new W0 A M8 [⟨#[41]⟩] _ 1 w8 HQ8.out.gone.gat rfl rfl (by decide) (by show _ + 1 ≤ _; omega)).mono ?_
      rintro e w12 ⟨rfl, hg12⟩
      have HF : Hid (GoneB W0 N A (m ++ structP s.data.toList j) w w12) := Lib.hid (by
        have h := (HQ8.out.add hg12).gone
        rw [HM8.out] at h
        rw [HST.out, HLF2.out, HCN2.out]
        have e : m ++ ([40] ++ (Tx.strL KD ++ [32] ++ Tx.strL FM ++ [32] ++ parL ps ++ F8 ++ [] ++ [41])) = m ++ ([40] ++ (Tx.strL KD ++ [32] ++ Tx.strL FM ++ [32] ++ parL ps ++ F8)) ++ flatT [⟨#[41]⟩] := by
          rw [show flatT [⟨#[41]⟩] = [41] from rfl]
          simp only [List.append_assoc, List.nil_append]
        rw [e]
        exact h)
      clear hg12
      go_wp2_with fail
      go_end0
      exact ⟨rfl, HF.out⟩
end Go.Proofs.YtnnbbjdidbggmaaGreatDoor.Lk
namespace Go.Proofs.YtnnbbjdidbggmaaGreatDoor.Lk
open Go Go.RowKit Go.Joins Kit F0 Pt

theorem structK_len {s : List UInt8} (hs : s.length ≤ 32768) : ∀ l : List P, (∀ k ∈ l, fineP s.length k) → (structP.structK s l).length ≤ wtP.wtK l * 7000000000
  | [], _ => by rw [structP.structK]; simp
  | k :: r, h => by
    rw [structP.structK, List.length_append, wtP.wtK]
    have a1 := structP_len hs k (h k (by simp))
    have a2 := structK_len hs r (fun x hx => h x (by simp [hx]))
    omega

theorem wt_pos (j : P) : 1 ≤ wtP j := by rw [wt_own]; omega
theorem len_wt : ∀ l : List P, l.length ≤ wtP.wtK l
  | [] => Nat.zero_le _
  | k :: r => by
    have := wt_pos k
    have := len_wt r
    rw [List.length_cons, wtP.wtK]
    omega

set_option maxHeartbeats 4000000 in
set_option maxRecDepth 100000 in
theorem part_kids (s : ByteArray) (hs : s.size ≤ 32768) (W0 : World) (N A : Nat) (j : P) (hk0 : j.kids ≠ []) (ih : ∀ k ∈ j.kids, AddOk s W0 N A k) : AddOk s W0 N A j := by
  intro m w c0 c1 c2 c3 c4 c5 c6 c7 hfine hc hG hm hE0
  obtain ⟨ap, mp, ak, mk, e, hps, cs, hk1, hk2⟩ := part_cells hc
  injection e with e
  injection e with e
  injection e with e0 e
  injection e with e1 e
  injection e with e2 e
  injection e with e3 e
  injection e with e4 e
  injection e with e5 e
  injection e with e6 e
  injection e with e7 e
  subst e0 e1 e2 e3 e4 e5 e6 e7
  obtain ⟨⟨f1, f2, f3, f4, f5, f6⟩, f7⟩ := fine_own hfine
  have HST : Hid (structP s.data.toList j = [40] ++ (structP.structK s.data.toList j.kids ++ ([32] ++ Tx.strL (formL j.ty) ++ [41]))) := Lib.hid (structP_kids _ hk0)
  have hlen0 : 0 < j.kids.length := List.length_pos_iff.2 hk0
  rw [wt_own] at hm
  have HKC := Lib.hid (fun (w' : World) (hb : GoneB W0 N A (m ++ []) w w' ∨ Kept (Btw A N) (Btw A N) w w') (i : Nat) (hi : i < j.kids.length) => kid_cells (hk1.keep (hb.elim kept_gone id)) (KidsAt.keep (hb.elim kept_gone id) hk2) i hi)
  have HG0 := Lib.hid hG
  have HE0 := Lib.hid hE0
  have HIH := Lib.hid ih
  have HF7 := Lib.hid f7
  have HSK := Lib.hid (fun k (hk : k < j.kids.length) => structK_take s.data.toList j.kids k hk)
  have HWT := Lib.hid (fun k (hk : k < j.kids.length) => wt_take j.kids k hk)
  have HKL := Lib.hid (fun k => structK_len (s := s.data.toList) (by rw [← Lib.size_eq]; exact hs) (j.kids.take k) (fun x hx => by rw [← Lib.size_eq]; exact f7 x (List.mem_of_mem_take hx)))
  have HTA : Hid ((j.kids.take j.kids.length) = j.kids) := Lib.hid (List.take_of_length_le (Nat.le_refl _))
  have hq := cut_len2 j.ty
  obtain ⟨hh, hhh⟩ : ∃ x, j.hd = x := ⟨_, rfl⟩
  obtain ⟨ff, hff⟩ : ∃ x, j.fm = x := ⟨_, rfl⟩
  obtain ⟨tt, htt⟩ : ∃ x, j.to = x := ⟨_, rfl⟩
  obtain ⟨ty, hty⟩ : ∃ x, j.ty = x := ⟨_, rfl⟩
  obtain ⟨enc, henc⟩ : ∃ x, j.enc = x := ⟨_, rfl⟩
  obtain ⟨ps, hps2⟩ : ∃ x, j.ps = x := ⟨_, rfl⟩
  obtain ⟨ks, hks⟩ : ∃ x, j.kids = x := ⟨_, rfl⟩
  rw [hks, hty] at HST
  rw [hks] at HKC HIH HF7 HSK HWT HKL HTA hlen0 hm
  rw [hty] at f1 hq
  rw [hty, hps2, henc, hhh, hff, htt, hks]
  have HCUT := Lib.hid (cutT_any ty (w.alloc (.cells #[.string ⟨ty.toArray⟩, .slice ap ps.length mp, .string ⟨enc.toArray⟩, .bool j.att, .int .i64 (hh : Int), .int .i64 (ff : Int), .int .i64 (tt : Int), .slice ak ks.length mk] 42)) f1 (HE0.out _ ((Below.refl _ w).alloc HG0.out.size _)))
  obtain ⟨CB, hCB⟩ : ∃ CB, (Lib.cut ty [47]).2.2 = CB := ⟨_, rfl⟩
  rw [hCB] at HCUT
  have HQ0 : Hid (Rq W0 N A m w w.heap.size (.string ⟨ty.toArray⟩) (.slice ap ps.length mp) (.string ⟨enc.toArray⟩) (.bool j.att) (.int .i64 (hh : Int)) (.int .i64 (ff : Int)) (.int .i64 (tt : Int)) (.slice ak ks.length mk) (w.alloc (.cells #[.string ⟨ty.toArray⟩, .slice ap ps.length mp, .string ⟨enc.toArray⟩, .bool j.att, .int .i64 (hh : Int), .int .i64 (ff : Int), .int .i64 (tt : Int), .slice ak ks.length mk] 42))) := Lib.hid
    ⟨gone_next (gone_refl hG) ((Below.refl _ w).alloc (Nat.le_refl _) _), Kit.fresh_block w _ _, fun e => by have := hG.lt; omega⟩
  obtain ⟨KD, hKD⟩ : ∃ x, kindL ty = x := ⟨_, rfl⟩
  obtain ⟨FM, hFM⟩ : ∃ x, formL ty = x := ⟨_, rfl⟩
  rw [hKD, hFM] at HCUT hq
  rw [hFM] at HST
  have HLM : Hid (FM.length ≤ 40000) := Lib.hid (by omega)
  have hsf := str_len FM (by omega)
  have g0 : 0 < (ks.length : Int) := by omega
  have g9 : ks.length ≤ 1000 := by have := len_wt ks; omega
  clear hfine hc hG hE0 hps hk1 hk2 hk0 hhh hff htt hty henc hps2 hks hKD hFM hCB f1 f2 f3 f4 f5 f6 f7 hq ih
  unfold sV
  go_enter Tryz.func44, Tryz.ntmps44
  go_wp2_with fail
  refine HCUT.out.mono ?_
  rintro e w1 ⟨rfl, hb1⟩
  have HQ1 := Lib.hid (HQ0.out.next hb1)
  clear hb1
  go_wp2_with fail
  refine (add_new W0 A m [⟨#[40]⟩] #[.string ⟨#[40]⟩] 1 w1 HQ1.out.gone.gat rfl rfl (by decide) (by show m.length + 1 ≤ _; omega)).mono ?_
  rintro e w2 ⟨rfl, hg2⟩
  have hQ2 := HQ1.out.add hg2
  rw [show flatT [⟨#[40]⟩] = [40] from rfl] at hQ2
  have HQ2 : Hid (Rq W0 N A (m ++ [40] ++ structP.structK s.data.toList (ks.take 0)) w w.heap.size (.string ⟨ty.toArray⟩) (.slice ap ps.length mp) (.string ⟨enc.toArray⟩) (.bool j.att) (.int .i64 (hh : Int)) (.int .i64 (ff : Int)) (.int .i64 (tt : Int)) (.slice ak ks.length mk) w2) := Lib.hid (by rw [List.take_zero, structP.structK, List.append_nil]; exact hQ2)
  obtain ⟨d0, d1, d2, d5, d6, d7⟩ := hQ2.cell
  clear hg2 hQ2 d0 d1 d2 d5 d6
  go_wp2_with fail
  go_loopw [28] (fun i wr => ∃ k : Nat, k ≤ ks.length ∧ i = .int .i64 (k : Int) ∧ Hid (Rq W0 N A (m ++ [40] ++ structP.structK s.data.toList (ks.take k)) w w.heap.size (.string ⟨ty.toArray⟩) (.slice ap ps.length mp) (.string ⟨enc.toArray⟩) (.bool j.att) (.int .i64 (hh : Int)) (.int .i64 (ff : Int)) (.int .i64 (tt : Int)) (.slice ak ks.length mk) wr)) (fun i _ => ks.length - (intOf i).toNat)
  case atStart => exact ⟨0, Nat.zero_le _, rfl, HQ2⟩
  case round =>
    clear HQ2 d7
    obtain ⟨k, hk, rfl, hQ⟩ := hrel
    by_cases hlt : k < ks.length
    · have gk : (k : Int) < (ks.length : Int) := by omega
      obtain ⟨g, o, b0, b1, b2, b3, b4, b5, b6, b7, rfl, hgl, u0, u1, u2, u3, u4, u5, u6, u7, hpk⟩ := HKC.out wr (Or.inr (kept_gone hQ.out.gone)) k hlt
      obtain ⟨x0, a1, l1, m1, x2, x3, x4, x5, x6, a7, l7, m7, rfl, rfl, rfl, rfl, rfl, rfl, rfl, rfl⟩ := part_forms hpk
      have HSTEP : Hid (m ++ [40] ++ structP.structK s.data.toList (ks.take (k + 1)) = m ++ [40] ++ structP.structK s.data.toList (ks.take k) ++ structP s.data.toList ks[k]) := Lib.hid (by rw [HSK.out k hlt]; simp only [List.append_assoc])
      have hkl := HKL.out k
      have hwt := HWT.out k hlt
      have hal : Below wr.heap.size wr (wr.alloc (.cells #[.string x0, .slice a1 l1 m1, .string x2, .bool x3, .int .i64 x4, .int .i64 x5, .int .i64 x6, .slice a7 l7 m7] 42)) := (Below.refl _ wr).alloc (Nat.le_refl _) _
      have hQX := hQ.out.next hal
      have HCALL := Lib.hid (HIH.out ks[k] (List.getElem_mem hlt) (m ++ [40] ++ structP.structK s.data.toList (ks.take k)) (wr.alloc (.cells #[.string x0, .slice a1 l1 m1, .string x2, .bool x3, .int .i64 x4, .int .i64 x5, .int .i64 x6, .slice a7 l7 m7] 42)) _ _ _ _ _ _ _ _ (HF7.out ks[k] (List.getElem_mem hlt)) (hpk.keep (kept_below hal)) hQX.gone.gat (by rw [List.length_append, List.length_append, List.length_singleton]; omega) (fun w' h => HE0.out w' (hQX.gone.below.trans h)))
      have HQX := Lib.hid hQX
      clear hpk hkl hwt hal hQX
      go_wp2_with fail
      refine HCALL.out.mono ?_
      rintro e w5 ⟨rfl, hg5⟩
      have HQ5 := Lib.hid (HQX.out.add hg5)
      rw [← HSTEP.out] at HQ5
      clear hg5
      go_wp2_with fail
      go_roundw
      case rel => exact ⟨k + 1, by omega, by go_num, HQ5⟩
      case measure => simp [intOf]; omega
    · obtain rfl : k = ks.length := by omega
      have gk : ¬ (ks.length : Int) < (ks.length : Int) := by omega
      have hkl := HKL.out ks.length
      rw [HTA.out] at hQ hkl
      have hml : (m ++ [40] ++ structP.structK s.data.toList ks).length ≤ 800000000000 := by rw [List.length_append, List.length_append, List.length_singleton]; omega
      obtain ⟨M, hM⟩ : ∃ M, m ++ [40] ++ structP.structK s.data.toList ks = M := ⟨_, rfl⟩
      rw [hM] at hQ hml
      have HM := Lib.hid hM
      have HQ := Lib.hid hQ.out
      clear hM hQ hkl
      go_wp2_with fail
      refine (Tx.string_any ⟨FM.toArray⟩ wr (by rw [Lib.size_mk]; have := HLM.out; omega) (HE0.out _ HQ.out.gone.below)).mono ?_
      rintro e w6 ⟨rfl, hb6⟩
      rw [show (ByteArray.mk FM.toArray).data.toList = FM from rfl]
      have HQ6 := Lib.hid (HQ.out.next hb6)
      have HT3 : Hid (flatT [⟨#[32]⟩, ⟨(Tx.strL FM).toArray⟩, ⟨#[41]⟩] = [32] ++ Tx.strL FM ++ [41]) := Lib.hid (by simp [flatT])
      have HZ3 : Hid ((flatT [⟨#[32]⟩, ⟨(Tx.strL FM).toArray⟩, ⟨#[41]⟩]).length ≤ 100000) := Lib.hid (by have := HLM.out; rw [HT3.out]; simp only [List.length_append, List.length_singleton]; omega)
      clear hb6
      go_wp2_with fail
      refine (add_new W0 A M [⟨#[32]⟩, ⟨(Tx.strL FM).toArray⟩, ⟨#[41]⟩] _ 3 w6 HQ6.out.gone.gat rfl rfl (by decide) (by have := HZ3.out; omega)).mono ?_
      rintro e w7 ⟨rfl, hg7⟩
      have HF : Hid (GoneB W0 N A (m ++ structP s.data.toList j) w w7) := Lib.hid (by
        have h := (HQ6.out.add hg7).gone
        rw [HT3.out, ← HM.out] at h
        rw [HST.out]
        simpa only [List.append_assoc] using h)
      clear hg7
      go_wp2_with fail
      refine bodyPost_ret (results_none rfl _ _ _) rfl ?_
      exact ⟨rfl, HF.out⟩
theorem part_all (s : ByteArray) (hs : s.size ≤ 32768) (W0 : World) (N A : Nat) (j : P) : AddOk s W0 N A j :=
  P.ind (M := AddOk s W0 N A) (fun j ih => by
    by_cases h : j.kids = []
    · exact part_leaf s hs W0 N A j h
    · exact part_kids s hs W0 N A j h ih) j

set_option maxHeartbeats 4000000 in
set_option maxRecDepth 100000 in
theorem structure_any (s : ByteArray) (w : World) (hs : s.size ≤ 32768) (hE : Tx.Env w) :
    Calls Tryz.prog 19 #[.string s] w fun e w' => e = .returned (.string ⟨(structL s.data.toList).toArray⟩) ∧ Below w.heap.size w w' := by
  have HE := Lib.hid hE
  have HF := Lib.hid (tree_fine s.data.toList (by rw [← Lib.size_eq]; exact hs))
  have HW := Lib.hid (tree_wt s.data.toList)
  have HSL : Hid (structL s.data.toList = structP s.data.toList (treeL s.data.toList)) := Lib.hid rfl
  rw [← Lib.size_eq] at HF
  clear hE
  go_enter Tryz.func19, Tryz.ntmps19
  go_wp2_with fail
  refine (gather_any w).mono ?_
  rintro e w1 ⟨rfl, hw1⟩
  have HB1 : Hid (Below w.heap.size w w1) := Lib.hid (by rw [hw1]; exact (Below.refl _ w).alloc (Nat.le_refl _) _)
  have HBX : Hid (Boxed w1 w.heap.size 32 (.slice none 0 0)) := Lib.hid (by rw [hw1]; exact Boxed.new w _ _)
  have hsz1 : w1.heap.size = w.heap.size + 1 := by rw [hw1]; simp
  clear hw1
  go_wp2_with fail
  refine (tree_any s w1 hs (srch_of (HE.out.next HB1.out))).mono ?_
  rintro e w2 ⟨c0, c1, c2, c3, c4, c5, c6, c7, rfl, hp, hb2⟩
  have hGB : GatB w w2.heap.size w.heap.size [] w2 := ⟨⟨_, HBX.out.kept (grown_below hb2) (by simp), by exact World.ownsRow_nil _ _ _ _⟩, HB1.out.trans (hb2.mono HB1.out.size), Nat.le_refl _, by have := hb2.size; omega, Nat.le_refl _⟩
  have hpk : PartAt (Btw w.heap.size w2.heap.size) w2 (treeL s.data.toList) (.agg #[c0, c1, c2, c3, c4, c5, c6, c7]) := hp.keep (kept_block fun g _ _ _ hg hb => ⟨⟨by omega, (Array.getElem?_eq_some_iff.1 hb).1⟩, rfl⟩)
  have HCALL := Lib.hid (part_all s hs w w2.heap.size w.heap.size (treeL s.data.toList) [] w2 c0 c1 c2 c3 c4 c5 c6 c7 HF.out hpk hGB (by have := HW.out; rw [List.length_nil]; omega) (fun w' h => HE.out.next ((hGB.below).trans h)))
  obtain ⟨x0, a1, l1, m1, x2, x3, x4, x5, x6, a7, l7, m7, rfl, rfl, rfl, rfl, rfl, rfl, rfl, rfl⟩ := part_forms hp
  clear hp hb2 hGB hpk
  go_wp2_with fail
  refine HCALL.out.mono ?_
  rintro e w3 ⟨rfl, hg3⟩
  rw [List.nil_append, ← HSL.out] at hg3
  have HG3 := Lib.hid hg3.gat
  clear hg3
  go_wp2_with fail
  refine (told_any w w.heap.size _ w3 HG3.out).mono ?_
  rintro e w4 ⟨rfl, rfl⟩
  go_wp2_with fail
  go_ret
  exact ⟨rfl, HG3.out.below⟩
end Go.Proofs.YtnnbbjdidbggmaaGreatDoor.Lk
namespace Go.Proofs.YtnnbbjdidbggmaaGreatDoor.Lk
open Go Go.RowKit Go.Joins Kit

theorem envelope_to {X : ByteArray} (Y : ByteArray) (w : World) (hs : X.size ≤ 32768) (h : envL X.data.toList = Y.data.toList) (hE : Tx.Env w) :
    Calls Tryz.prog 18 #[.string X] w fun e w' => e = .returned (.string Y) ∧ Below w.heap.size w w' := by
  have := envelope_any X w hs hE
  rw [h] at this
  exact this
theorem subject_to {X : ByteArray} (Y : ByteArray) (w : World) (hs : X.size ≤ 32768) (h : subjL X.data.toList = Y.data.toList) (hE : Tx.Env w) :
    Calls Tryz.prog 16 #[.string X] w fun e w' => e = .returned (.string Y) ∧ Below w.heap.size w w' := by
  have := subject_any X w hs (srch_of hE)
  rw [h] at this
  exact this

theorem beq_list (s : ByteArray) (l : List UInt8) : (s.toList == l) = decide (s.data.toList = l) := by rw [Lib.toList_data]; by_cases h : s.data.toList = l <;> simp [h]
theorem told_to (l : List UInt8) : ∃ Y : ByteArray, Y.data.toList = l ∧ (Y.toList == l) = true := ⟨⟨l.toArray⟩, rfl, by rw [beq_list]; exact decide_eq_true rfl⟩

set_option maxHeartbeats 1000000 in
set_option maxRecDepth 100000 in
theorem awake_any (w : World) (hE : Tx.Env w) :
    Calls Tryz.prog 10 #[] w fun e w' => e = .returned (.bool true) ∧ Below w.heap.size w w' := by
  obtain ⟨Y, hY, gY⟩ := told_to wakeE
  obtain ⟨Z, hZ, gZ⟩ := told_to [97]
  have HC : Hid (∀ W, Tx.Env W → Calls Tryz.prog 18 #[.string ⟨#[]⟩] W fun e w' => e = .returned (.string Y) ∧ Below W.heap.size W w') := Lib.hid (fun W h => envelope_to Y W (by decide) (by rw [hY]; exact wake_env) h)
  have HD : Hid (∀ W, Tx.Env W → Calls Tryz.prog 16 #[.string ⟨#[83, 117, 98, 106, 101, 99, 116, 58, 32, 61, 63, 117, 116, 102, 45, 56, 63, 81, 63, 97, 63, 61, 10, 10]⟩] W fun e w' => e = .returned (.string Z) ∧ Below W.heap.size W w') := Lib.hid (fun W h => subject_to Z W (by decide) (by rw [hZ]; exact wake_subj) h)
  unfold wakeE at gY
  have HE := Lib.hid hE
  clear hE hY hZ
  go_enter Tryz.func10, Tryz.ntmps10
  go_wp2_with fail
  refine (HC.out w HE.out).mono ?_
  rintro e w1 ⟨rfl, hb1⟩
  go_wp2_with fail
  refine (HD.out w1 (HE.out.next hb1)).mono ?_
  rintro e w2 ⟨rfl, hb2⟩
  go_wp2_with fail
  go_ret
  exact ⟨rfl, hb1.trans (hb2.mono hb1.size)⟩
end Go.Proofs.YtnnbbjdidbggmaaGreatDoor.Lk
namespace Go.Proofs.YtnnbbjdidbggmaaGreatDoor.Lk
open Go Go.RowKit Go.Joins Kit F0 Pt

set_option maxHeartbeats 2000000 in
set_option maxRecDepth 100000 in
theorem lookBalanced_walk (s : ByteArray) (w : World) (hE : Tx.Env w) :
    Calls Tryz.prog 6 #[.string s] w fun e w' => e = .returned (.bool true) ∧ Below w.heap.size w w' := by
  have HE := Lib.hid hE
  clear hE
  by_cases hg : 3000 < s.size
  · have g : (3000 : Int) < s.size := by omega
    go_enter Tryz.func6, Tryz.ntmps6
    go_wp2_with fail
    refine (awake_any w HE.out).mono ?_
    rintro e w1 ⟨rfl, hb1⟩
    go_wp2_with fail
    go_ret
    exact ⟨rfl, hb1⟩
  have g1 : (s.size : Int) ≤ 3000 := by omega
  have b1 := bal_env (s := s) (by omega)
  have b2 := bal_struct (s := s.data.toList) (by rw [← Lib.size_eq]; omega)
  obtain ⟨X, hX⟩ : ∃ X : ByteArray, (⟨(envL s.data.toList).toArray⟩ : ByteArray) = X := ⟨_, rfl⟩
  obtain ⟨Y, hY⟩ : ∃ Y : ByteArray, (⟨(structL s.data.toList).toArray⟩ : ByteArray) = Y := ⟨_, rfl⟩
  have HX : Hid (∀ W, Tx.Env W → Calls Tryz.prog 18 #[.string s] W fun e w' => e = .returned (.string X) ∧ Below W.heap.size W w') := Lib.hid (fun W h => by
    have := envelope_any s W (by omega) h
    rw [hX] at this
    exact this)
  have HY : Hid (∀ W, Tx.Env W → Calls Tryz.prog 19 #[.string s] W fun e w' => e = .returned (.string Y) ∧ Below W.heap.size W w') := Lib.hid (fun W h => by
    have := structure_any s W (by omega) h
    rw [hY] at this
    exact this)
  have HBX : Hid (∀ W, Calls Tryz.prog 17 #[.string X] W fun e w' => e = .returned (.bool true) ∧ W = w') := Lib.hid (fun W => by
    refine balanced_any X W ?_ ?_ ?_ <;> rw [← hX]
    · rw [Lib.size_eq]; exact Nat.le_trans b1.2.2 (by decide)
    · exact b1.1
    · exact b1.2.1)
  have HBY : Hid (∀ W, Calls Tryz.prog 17 #[.string Y] W fun e w' => e = .returned (.bool true) ∧ W = w') := Lib.hid (fun W => by
    refine balanced_any Y W ?_ ?_ ?_ <;> rw [← hY]
    · rw [Lib.size_eq]; exact Nat.le_trans b2.2.2 (by decide)
    · exact b2.1
    · exact b2.2.1)
  clear b1 b2 hX hY hg
  go_enter Tryz.func6, Tryz.ntmps6
  go_wp2_with fail
  refine (HX.out w HE.out).mono ?_
  rintro e w1 ⟨rfl, hb1⟩
  have HB1 := Lib.hid hb1
  clear hb1
  go_wp2_with fail
  refine (HBX.out w1).mono ?_
  rintro e w1' ⟨rfl, rfl⟩
  go_wp2_with fail
  refine (HY.out w1 (HE.out.next HB1.out)).mono ?_
  rintro e w2 ⟨rfl, hb2⟩
  have HB2 := Lib.hid (HB1.out.trans (hb2.mono HB1.out.size))
  clear hb2
  go_wp2_with fail
  refine (HBY.out w2).mono ?_
  rintro e w2' ⟨rfl, rfl⟩
  go_wp2_with fail
  refine (awake_any w2 (HE.out.next HB2.out)).mono ?_
  rintro e w3 ⟨rfl, hb3⟩
  have HB3 := Lib.hid (HB2.out.trans (hb3.mono HB2.out.size))
  clear hb3
  go_wp2_with fail
  go_ret
  exact ⟨rfl, HB3.out⟩
end Go.Proofs.YtnnbbjdidbggmaaGreatDoor.Lk
namespace Go.Proofs.YtnnbbjdidbggmaaGreatDoor.fnLookBalanced
open Go Go.ChangeShapes Go.WideShapes Go.ChangeAt Go.RowKit
open Go.ChangeMaps (open_string shut_string)

theorem env {W : World} (h : laidMetH Tryz.prog Rows.lookBalancedRow.laid W) (hsh : W.ShapedOpen Tryz.prog) : Tx.Env W := by
  rw [MakeChecks.laidMetH_plain _ _ _ (by kernel_rfl)] at h
  exact Tx.env_of h hsh (by kernel_rfl)

set_option maxRecDepth 100000 in
theorem contract (H : Type) (enc : TypeId × Value → H) (W : World) (base : Nat) (args : Array Value) (ds gs : List (DataW H)) (before : List MemPlace)
    (hval : ∀ (j : Nat) t v, Tryz.f6.params[j]? = some t → args[j]? = some v → Value.okWide Tryz.prog W .any base t v)
    (hW : DataW.Whole enc Tryz.prog Tryz.f6.params.toList Rows.lookBalancedSpec.vars false W args.toList ds gs before) (hE : Tx.Env W) :
    Calls Tryz.prog 6 args W fun e W' => ∃ v, e = .returned v ∧ Rows.lookBalancedSpec.post enc Tryz.prog Tryz.f6 false true false false W args v W' := by
  have hW' := hW
  obtain ⟨p, q, hA0, hV, rfl, hfz, hnd⟩ := hW
  have hA : DataW.TrodAll enc Tryz.prog W 0 (fun _ => true) true Tryz.f6.params.toList args.toList ds p := hA0
  rw [Tryz.params6] at hA hval
  obtain ⟨v0, vs0, d0, ds0, p0, q0, hargs, rfl, rfl, h0, r0⟩ := trodAll_cons hA
  obtain ⟨rfl, rfl, rfl⟩ := trodAll_nil r0
  obtain rfl : args = #[v0] := by cases args; simp_all
  obtain ⟨rfl, rfl⟩ := trodVars_none hV
  obtain ⟨x0, rfl, rfl, rfl, w0⟩ := open_string Tryz.underlying9 (hval 0 9 v0 rfl rfl) h0
  clear hA0
  simp only [List.append_nil] at hW'
  refine (Lk.lookBalanced_walk x0 W hE).mono fun e W' ⟨he, hb⟩ => ?_
  subst he
  exact ⟨_, rfl, _, _, _, [], [], [], hW', trodAll_cons_mk (shut_bool Tryz.underlying4 _) trodAll_mk0, (trodAll_cons_mk (shut_string Tryz.underlying9 w0) trodAll_mk0), rfl, hb.frame _, fun h => by cases h⟩

theorem laid_met (os : Os) : laidMet Tryz.prog Rows.lookBalancedRow.laid ((World.laidAll Tryz.prog os Rows.lookBalancedRow.laid).forCall (fun _ _ => 0) ⟨#[], #[.string ⟨#[]⟩], []⟩).memory :=
  laidMet_laidAll #[.string ⟨#[]⟩] (by kernel_rfl) (by kernel_rfl)
theorem reads (os : Os) {H : Type} (enc : TypeId × Value → H) : ∃ places, DataW.whole enc Tryz.prog ((World.laidAll Tryz.prog os Rows.lookBalancedRow.laid).forCall (fun _ _ => 0) ⟨#[], #[.string ⟨#[]⟩], []⟩).memory Tryz.f6.params.toList Rows.lookBalancedSpec.vars false (#[.string ⟨#[]⟩] : Array Value).toList 8 = some ([.lit (.string [])], [], places) :=
  ⟨[], by kernel_rfl⟩

set_option maxRecDepth 100000 in
theorem lifted (os : Os) (started : os.Started) (H : Type) (enc : TypeId × Value → H) (F : Stop.Interp) :
    ReturnsInHanded {} Tryz.checked os 6 .any ((OpenSpec.ofChange Rows.lookBalancedSpec).preRow enc Tryz.prog Tryz.f6 Rows.lookBalancedRow.domain false Rows.lookBalancedRow.laid) (((OpenSpec.ofChange Rows.lookBalancedSpec).at F).post enc Tryz.prog Tryz.f6 false true false false) := by
  obtain ⟨places, hx⟩ := reads os enc
  refine returnsInHanded_of_row (C := Tryz.checked) (s := OpenSpec.ofChange Rows.lookBalancedSpec) Kit.own started (by kernel_rfl) Tryz.func6
    (witness_row_at (enc := enc) (C := Tryz.checked) false (World.laidAll Tryz.prog os Rows.lookBalancedRow.laid) #[.string ⟨#[]⟩] (World.laidAll_os _ _ _) (by kernel_rfl) (by kernel_rfl) (by kernel_rfl)
      (OpenSpec.preRow_of_cond 8 hx (by kernel_rfl) (fun k hk => by cases hk) (by kernel_rfl) (laid_met os))) ?_
  intro W base args ds gs before hval hW _ _ _ hL hsh _
  exact contract H enc W base args ds gs before hval hW (env hL hsh)

theorem said : Rows.LookBalancedSaid :=
  OpenClaim.holds_of_cond 6 Tryz.f6 rfl rfl rfl rfl rfl rfl rfl ⟨rfl, rfl, rfl, rfl, rfl⟩ rfl rfl rfl rfl rfl (by kernel_rfl) Tryz.func6 (by kernel_rfl)
    (of_decide_eq_true (by kernel_rfl)) (by unfold Func.isWrapper; rw [if_neg (by decide +kernel)]; exact ⟨rfl, rfl⟩)
    (fun os started H enc _ F => by rw [OpenClaim.pre_eq_preRow]; exact lifted os started H enc F)

theorem plain (f : FuncId) (fn : Func) (hf : Tryz.pinned.checked.prog.funcNamed "pillarbox/pillarboxlaw14.LookBalanced" = some f) (hfn : Tryz.pinned.checked.prog.funcs[f]? = some fn) :
    false = Tryz.pinned.checked.prog.looks [] ∧ ∀ (j : Nat) t, fn.params[j]? = some t → Tryz.pinned.checked.prog.wantsStandIn t = false := by
  obtain rfl : f = 6 := Option.some.inj ((show Tryz.prog.funcNamed "pillarbox/pillarboxlaw14.LookBalanced" = some 6 by kernel_rfl).symm.trans hf) |>.symm
  obtain rfl : fn = Tryz.f6 := (Option.some.inj (Tryz.func6.symm.trans hfn)).symm
  refine ⟨by kernel_rfl, fun j t ht => ?_⟩
  rw [Tryz.params6] at ht
  have hm : t = 9 := by simpa using Array.mem_of_getElem? ht
  rcases hm with rfl
  · exact (show Tryz.prog.wantsStandIn 9 = false by kernel_rfl)

theorem card : Rows.LookBalancedCardSaid :=
  Claim7.holds_tied_plain_at .later [] _ _ _ _ said (fun _ h => by cases h) (by kernel_rfl) (fun _ h => by cases h) lookBalanced_row_tie rfl ⟨rfl, rfl⟩ (by kernel_rfl) rfl plain (by kernel_rfl)
end Go.Proofs.YtnnbbjdidbggmaaGreatDoor.fnLookBalanced
