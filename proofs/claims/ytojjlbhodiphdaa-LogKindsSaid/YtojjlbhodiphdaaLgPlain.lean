/-
  Plain facts on a log: what is kept, how entries are taken by their clocks, what befell each id. No program in this text. Conditions: none.
-/
import Derived.WalkKit
namespace Go.Proofs.Ytojjlbhodiphdaa.Lg

/-- An entry. -/
structure En where
  mod : Int
  kind : Int
  id : Int
  how : Int
deriving DecidableEq, Inhabited
/-- What befell an id. -/
structure Ft where
  id : Int
  first : Int
  last : Int
deriving DecidableEq, Inhabited

/-! ### What is kept -/
/-- Is an entry's clock below the last one's? -/
def falls (k : List En) (x : En) : Bool := match k.getLast? with
  | some l => decide (x.mod < l.mod)
  | none => false
/-- One entry more: the front goes, where there are too many. -/
def putL (most : Int) (s : Int × List En) (x : En) : Int × List En :=
  if most < ((s.2 ++ [x]).length : Int) then (((s.2 ++ [x]).head?.map (·.mod)).getD 0, (s.2 ++ [x]).tail) else (s.1, s.2 ++ [x])
def addL (most : Int) : Int × List En → List En → Int × List En
  | s, [] => s
  | s, x :: r => if falls s.2 x then s else addL most (putL most s x) r
theorem addL_nil (most : Int) (s : Int × List En) : addL most s [] = s := rfl
theorem addL_cons (most : Int) (s : Int × List En) (x : En) (r : List En) : addL most s (x :: r) = if falls s.2 x then s else addL most (putL most s x) r := rfl

/-- Clocks do not fall. -/
abbrev Rise (k : List En) : Prop := k.Pairwise (fun a b => a.mod ≤ b.mod)
theorem rise_snoc {k : List En} {x : En} (h : Rise k) (hf : falls k x = false) : Rise (k ++ [x]) := by
  unfold Rise at h ⊢
  rw [List.pairwise_append]
  refine ⟨h, List.pairwise_singleton _ _, fun a ha b hb => ?_⟩
  rw [List.mem_singleton] at hb
  subst hb
  unfold falls at hf
  rcases List.eq_nil_or_concat k with rfl | ⟨k', l, rfl⟩
  · cases ha
  · rw [List.concat_eq_append] at ha h hf
    rw [List.getLast?_append, List.getLast?_singleton] at hf
    simp only [Option.some_or, decide_eq_false_iff_not] at hf
    rcases List.mem_append.1 ha with h1 | h1
    · have := (List.pairwise_append.1 h).2.2 a h1 l (List.mem_singleton.2 rfl)
      omega
    · rw [List.mem_singleton] at h1
      subst h1
      omega
theorem putL_rise {most : Int} {s : Int × List En} {x : En} (h : Rise s.2) (hf : falls s.2 x = false) : Rise (putL most s x).2 := by
  unfold putL
  have := rise_snoc h hf
  split
  · exact List.Pairwise.sublist (List.tail_sublist _) this
  · exact this
theorem putL_len {most : Int} {s : Int × List En} {x : En} (h : (s.2.length : Int) ≤ most) : ((putL most s x).2.length : Int) ≤ most := by
  unfold putL
  split
  · rw [List.length_tail, List.length_append, List.length_singleton]
    omega
  · rename_i hn
    exact Int.not_lt.1 hn
theorem putL_ne {most : Int} {s : Int × List En} {x : En} (h1 : 1 ≤ most) : (putL most s x).2 ≠ [] := by
  unfold putL
  split
  · rename_i h
    intro e
    have := congrArg List.length e
    rw [List.length_tail, List.length_append, List.length_singleton] at this
    rw [List.length_append, List.length_singleton] at h
    simp only [List.length_nil] at this
    omega
  · simp
theorem addL_rise {most : Int} : ∀ (e : List En) {s : Int × List En}, Rise s.2 → Rise (addL most s e).2
  | [], _, h => h
  | x :: r, s, h => by
    rw [addL_cons]
    split
    · exact h
    · rename_i hf
      exact addL_rise r (putL_rise h (by simpa using hf))
theorem addL_len {most : Int} : ∀ (e : List En) {s : Int × List En}, (s.2.length : Int) ≤ most → ((addL most s e).2.length : Int) ≤ most
  | [], _, h => h
  | x :: r, s, h => by
    rw [addL_cons]
    split
    · exact h
    · exact addL_len r (putL_len h)
theorem putL_mem {most : Int} {s : Int × List En} {x y : En} (h : y ∈ (putL most s x).2) : y ∈ s.2 ∨ y = x := by
  have h1 : y ∈ s.2 ++ [x] := by
    unfold putL at h
    split at h
    · exact List.mem_of_mem_tail h
    · exact h
  simpa using h1
theorem addL_mem {most : Int} : ∀ (e : List En) {s : Int × List En} {y : En}, y ∈ (addL most s e).2 → y ∈ s.2 ∨ y ∈ e
  | [], _, _, h => Or.inl h
  | x :: r, s, y, h => by
    rw [addL_cons] at h
    split at h
    · exact Or.inl h
    · rcases addL_mem r h with h1 | h1
      · rcases putL_mem h1 with h2 | h2
        · exact Or.inl h2
        · exact Or.inr (by simp [h2])
      · exact Or.inr (by simp [h1])

/-! ### Which are taken -/
/-- How many have a clock that is not above a number. -/
def behindL (k : List En) (m : Int) : Nat := k.countP (fun e => !decide (m < e.mod))
def cutL (k : List En) (a b : Int) : List En := (k.take (behindL k b)).drop (behindL k a)
theorem behindL_le (k : List En) (m : Int) : behindL k m ≤ k.length := List.countP_le_length
theorem behindL_mono (k : List En) {a b : Int} (h : a ≤ b) : behindL k a ≤ behindL k b := by
  unfold behindL
  refine List.countP_mono_left (fun e _ he => ?_)
  simp only [Bool.not_eq_true', decide_eq_false_iff_not] at he ⊢
  omega
theorem behindL_nil (m : Int) : behindL [] m = 0 := rfl
theorem behindL_cons (e : En) (k : List En) (m : Int) : behindL (e :: k) m = behindL k m + if m < e.mod then 0 else 1 := by
  unfold behindL
  rw [List.countP_cons]
  congr 1
  by_cases h : m < e.mod <;> simp [h]
theorem behindL_above {k : List En} {m : Int} (h : ∀ e ∈ k, m < e.mod) : behindL k m = 0 := by
  unfold behindL
  rw [List.countP_eq_zero]
  intro e he
  simp [h e he]
/-- Of rising clocks, those above a number up to another lie together. -/
theorem cutL_filter : ∀ (k : List En) (a b : Int), Rise k → a ≤ b → cutL k a b = k.filter (fun e => decide (a < e.mod) && decide (e.mod ≤ b))
  | [], a, b, _, _ => rfl
  | e :: k, a, b, hr, hab => by
    unfold Rise at hr
    rw [List.pairwise_cons] at hr
    have ih := cutL_filter k a b hr.2 hab
    unfold cutL at ih ⊢
    rw [behindL_cons, behindL_cons, List.filter_cons]
    by_cases h1 : b < e.mod
    · have h3 : ∀ x ∈ k, b < x.mod := fun x hx => by have := hr.1 x hx; omega
      have h4 : ∀ x ∈ k, a < x.mod := fun x hx => by have := hr.1 x hx; omega
      rw [behindL_above h3, behindL_above h4] at ih ⊢
      rw [if_pos h1, if_pos (show a < e.mod by omega)]
      rw [if_neg (by simp; omega), ← ih]
      simp
    · rw [if_neg h1]
      by_cases h2 : a < e.mod
      · have h4 : ∀ x ∈ k, a < x.mod := fun x hx => by have := hr.1 x hx; omega
        rw [behindL_above h4] at ih ⊢
        rw [if_pos h2, if_pos (by simp; omega), ← ih]
        simp
      · rw [if_neg h2, if_neg (by simp; omega), ← ih]
        simp
/-- Those that are asked for. -/
def selL (k : List En) (kind a b : Int) : List En := k.filter (fun e => decide (e.kind = kind) && (decide (a < e.mod) && decide (e.mod ≤ b)))
theorem sel_cut {k : List En} {kind a b : Int} (hr : Rise k) (hab : a ≤ b) : (cutL k a b).filter (fun e => decide (e.kind = kind)) = selL k kind a b := by
  rw [cutL_filter k a b hr hab, List.filter_filter]
  rfl

/-! ### All of one clock together -/
def grpG : List En → List En → List (List En)
  | cur, [] => if cur.isEmpty then [] else [cur]
  | cur, e :: r => match cur with
    | [] => grpG [e] r
    | c :: t => if c.mod = e.mod then grpG (c :: t ++ [e]) r else (c :: t) :: grpG [e] r
def grpL (l : List En) : List (List En) := grpG [] l
theorem grpG_nil (cur : List En) : grpG cur [] = if cur.isEmpty then [] else [cur] := by rw [grpG]
theorem grpG_first (e : En) (r : List En) : grpG [] (e :: r) = grpG [e] r := by rw [grpG]
theorem grpG_same {c e : En} (t r : List En) (h : c.mod = e.mod) : grpG (c :: t) (e :: r) = grpG (c :: t ++ [e]) r := by rw [grpG, if_pos h]
theorem grpG_next {c e : En} (t r : List En) (h : c.mod ≠ e.mod) : grpG (c :: t) (e :: r) = (c :: t) :: grpG [e] r := by rw [grpG, if_neg h]
theorem grpG_flat : ∀ (l cur : List En), (grpG cur l).flatten = cur ++ l
  | [], cur => by
    rw [grpG_nil]
    cases cur <;> simp
  | e :: r, [] => by rw [grpG_first, grpG_flat r [e]]; rfl
  | e :: r, c :: t => by
    by_cases h : c.mod = e.mod
    · rw [grpG_same _ _ h, grpG_flat r]; simp
    · rw [grpG_next _ _ h, List.flatten_cons, grpG_flat r]; simp
theorem grpL_flat (l : List En) : (grpL l).flatten = l := grpG_flat l []
theorem grpG_ne : ∀ (l cur : List En), ∀ g ∈ grpG cur l, g ≠ []
  | [], cur, g, h => by
    rw [grpG_nil] at h
    cases cur with
    | nil => simp at h
    | cons c t => simp at h; rw [h]; simp
  | e :: r, [], g, h => by rw [grpG_first] at h; exact grpG_ne r [e] g h
  | e :: r, c :: t, g, h => by
    by_cases hm : c.mod = e.mod
    · rw [grpG_same _ _ hm] at h; exact grpG_ne r _ g h
    · rw [grpG_next _ _ hm] at h
      rcases List.mem_cons.1 h with rfl | h
      · simp
      · exact grpG_ne r _ g h
theorem grpL_ne (l : List En) : ∀ g ∈ grpL l, g ≠ [] := grpG_ne l []
theorem grpL_len (l : List En) : (grpL l).length ≤ l.length := by
  have h : ∀ (gs : List (List En)), (∀ g ∈ gs, g ≠ []) → gs.length ≤ gs.flatten.length := by
    intro gs
    induction gs with
    | nil => intro _; simp
    | cons g gs ih =>
      intro hg
      have h1 := hg g (by simp)
      have h2 := ih (fun x hx => hg x (by simp [hx]))
      have h3 := List.length_pos_iff.2 h1
      simp only [List.length_cons, List.flatten_cons, List.length_append]
      omega
  have := h (grpL l) (grpL_ne l)
  rwa [grpL_flat] at this

/-! ### What befell each id -/
def passed (f : Ft) : Bool := decide (f.first = 1) && decide (f.last = 3)
/-- The place of an id. -/
def placeF (fs : List Ft) (i : Int) : Option Nat := fs.findIdx? (fun f => decide (f.id = i))
def addF (fs : List Ft) (e : En) : List Ft := match placeF fs e.id with
  | some p => fs.modify p (fun f => { f with last := e.how })
  | none => fs ++ [⟨e.id, e.how, e.how⟩]
def fatesL (l : List En) : List Ft := l.foldl addF []
theorem fatesL_snoc (l : List En) (e : En) : fatesL (l ++ [e]) = addF (fatesL l) e := by unfold fatesL; rw [List.foldl_append]; rfl
theorem fatesL_nil : fatesL [] = [] := rfl
def toldL (fs : List Ft) : Int := (fs.length : Int) - (fs.countP passed : Int)
theorem addF_len (fs : List Ft) (e : En) : (addF fs e).length ≤ fs.length + 1 := by
  unfold addF
  cases placeF fs e.id with
  | none => simp
  | some p => simp [List.length_modify]
theorem fatesL_len (l : List En) : (fatesL l).length ≤ l.length := by
  have h : ∀ (l : List En) (fs : List Ft), (l.foldl addF fs).length ≤ fs.length + l.length := by
    intro l
    induction l with
    | nil => intro fs; simp
    | cons e r ih =>
      intro fs
      have h1 := ih (addF fs e)
      have h2 := addF_len fs e
      simp only [List.foldl_cons, List.length_cons]
      omega
  have := h l []
  rw [List.length_nil, Nat.zero_add] at this
  exact this

/-! ### Since -/
/-- How far clocks are taken: last: the last one that is; pre: what is taken. -/
def reachG (most clock : Int) : Int → List En → List (List En) → Int
  | _, _, [] => clock
  | last, pre, g :: r => if most < toldL (fatesL (pre ++ g)) then last else reachG most clock ((g.head?.map (·.mod)).getD 0) (pre ++ g) r
def reachL (k : List En) (kind a clock most : Int) : Int := if most < 1 then clock else reachG most clock a [] (grpL (selL k kind a clock))
def madeL (fs : List Ft) : List Int := (fs.filter (fun f => !passed f && decide (f.first = 1))).map (·.id)
def goneL (fs : List Ft) : List Int := (fs.filter (fun f => !passed f && !decide (f.first = 1) && decide (f.last = 3))).map (·.id)
def turnedL (fs : List Ft) : List Int := (fs.filter (fun f => !passed f && !decide (f.first = 1) && !decide (f.last = 3))).map (·.id)
/-- What Since tells: the error's number, the lists, the state, and whether there is more. -/
structure Ch where
  made : List Int
  turned : List Int
  gone : List Int
  state : Int
  more : Bool
deriving DecidableEq
def noCh : Ch := ⟨[], [], [], 0, false⟩
def chOf (fs : List Ft) (state : Int) (more : Bool) : Ch := ⟨madeL fs, turnedL fs, goneL fs, state, more⟩
def sinceL (fl : Int) (k : List En) (kind a clock most : Int) : Ch × Int :=
  if a < fl ∨ clock < a then (noCh, 12) else
  let st := reachL k kind a clock most
  if st < clock ∧ st = a then (noCh, 12) else (chOf (fatesL (selL k kind a st)) st (decide (st < clock)), 0)
/-- How far it goes lies between. -/
theorem reachG_mem (most clock : Int) : ∀ (gs : List (List En)) (last : Int) (pre : List En), (∀ g ∈ gs, g ≠ []) →
    reachG most clock last pre gs = clock ∨ reachG most clock last pre gs = last ∨ ∃ e ∈ gs.flatten, reachG most clock last pre gs = e.mod
  | [], _, _, _ => Or.inl rfl
  | g :: r, last, pre, h => by
    rw [reachG]
    split
    · exact Or.inr (Or.inl rfl)
    · obtain ⟨c, t, rfl⟩ := List.exists_cons_of_ne_nil (h g (by simp))
      rcases reachG_mem most clock r c.mod (pre ++ c :: t) (fun x hx => h x (by simp [hx])) with h1 | h1 | ⟨e, he, h1⟩
      · exact Or.inl h1
      · exact Or.inr (Or.inr ⟨c, by simp, h1⟩)
      · exact Or.inr (Or.inr ⟨e, by rw [List.flatten_cons]; exact List.mem_append.2 (Or.inr he), h1⟩)
theorem reachL_between {k : List En} {kind a clock most : Int} (h : a ≤ clock) : a ≤ reachL k kind a clock most ∧ reachL k kind a clock most ≤ clock := by
  unfold reachL
  split
  · exact ⟨h, Int.le_refl _⟩
  · rcases reachG_mem most clock (grpL (selL k kind a clock)) a [] (grpL_ne _) with h1 | h1 | ⟨e, he, h1⟩
    · rw [h1]; exact ⟨h, Int.le_refl _⟩
    · rw [h1]; exact ⟨Int.le_refl _, h⟩
    · rw [h1]
      rw [grpL_flat] at he
      unfold selL at he
      rw [List.mem_filter] at he
      simp only [Bool.and_eq_true, decide_eq_true_eq] at he
      omega
end Go.Proofs.Ytojjlbhodiphdaa.Lg
