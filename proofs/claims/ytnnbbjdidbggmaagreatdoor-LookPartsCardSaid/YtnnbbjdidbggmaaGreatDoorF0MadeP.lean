/-
  Plain facts: headers that are put together, folded or not, with either end of line, tell their fields. No program in this text. Conditions: none.
-/
import Derived.Test.YtnnbbjdidbggmaaGreatDoorF0Plain
import Derived.Test.YtnnbbjdidbggmaaGreatDoorF0RTrim
namespace Go.Proofs.YtnnbbjdidbggmaaGreatDoor.F0
open Go

def moreL : List UInt8 := [9, 109, 111, 114, 101]
def colL : List UInt8 := [58, 32, 9]
def okB (c : UInt8) : Bool := inName c && c != 58
/-- A name, or a value: not empty, of bytes from 33 to 126 but a colon. -/
def Good (l : List UInt8) : Prop := l ≠ [] ∧ ∀ c ∈ l, okB c = true
def plainL (l : List UInt8) : List UInt8 := if l.isEmpty || !l.all okB then [45] else l
theorem plain_good (l : List UInt8) : Good (plainL l) := by
  unfold plainL
  split
  · exact ⟨by simp, by decide⟩
  · rename_i h
    rw [Bool.or_eq_true, not_or] at h
    refine ⟨fun e => h.1 (by rw [e]; rfl), fun c hc => ?_⟩
    have := h.2
    rw [Bool.not_eq_true', Bool.not_eq_false] at this
    exact List.all_eq_true.1 this c hc
theorem plain_len (l : List UInt8) (n : Nat) (h : l.length ≤ n) (hn : 1 ≤ n) : (plainL l).length ≤ n := by
  unfold plainL
  split
  · exact hn
  · exact h
/-- An end of line. -/
def IsEnd (e : List UInt8) : Prop := e = [10] ∨ e = [13, 10]
abbrev Hx := List UInt8 × List UInt8 × Bool
def headL (x : Hx) : List UInt8 := x.1 ++ colL ++ x.2.1
def oneH (e : List UInt8) (x : Hx) : List UInt8 := headL x ++ (if x.2.2 then e ++ moreL else []) ++ e
def allH (e : List UInt8) (xs : List Hx) : List UInt8 := xs.flatMap (oneH e)
def wantH (x : Hx) : List UInt8 × List UInt8 := (x.1, if x.2.2 then x.2.1 ++ moreL else x.2.1)
theorem allH_snoc (e : List UInt8) (xs : List Hx) (x : Hx) : allH e (xs ++ [x]) = allH e xs ++ oneH e x := by simp [allH]

theorem okB_all : ∀ n : Nat, n < 256 → okB (UInt8.ofNat n) = true → UInt8.ofNat n ≠ 10 ∧ UInt8.ofNat n ≠ 13 ∧ UInt8.ofNat n ≠ 58 ∧ blk (UInt8.ofNat n) = false ∧ inName (UInt8.ofNat n) = true := by decide +kernel
theorem okB_facts {c : UInt8} (h : okB c = true) : c ≠ 10 ∧ c ≠ 13 ∧ c ≠ 58 ∧ blk c = false ∧ inName c = true := by
  have := okB_all c.toNat c.toNat_lt
  rw [show UInt8.ofNat c.toNat = c by simp] at this
  exact this h
theorem line_end {e : List UInt8} (he : IsEnd e) (t r : List UInt8) (p : Nat) (h10 : ∀ c ∈ t, c ≠ 10) (h13 : t.getLast? ≠ some 13) : linesL p (t ++ e ++ r) = (t, p + t.length + e.length) :: linesL (p + t.length + e.length) r := by
  rcases he with rfl | rfl
  · rw [List.append_assoc, List.singleton_append, linesL_cut t r p h10, chopL_other h13]
    rfl
  · have : t ++ [13, 10] ++ r = (t ++ [13]) ++ 10 :: r := by simp
    rw [this, linesL_cut (t ++ [13]) r p (fun c hc => by
      rcases List.mem_append.1 hc with h | h
      · exact h10 c h
      · simp only [List.mem_singleton] at h
        rw [h]; decide), chopL_cr]
    simp [Nat.add_assoc]
theorem head_no10 {x : Hx} (h1 : Good x.1) (h2 : Good x.2.1) : (∀ c ∈ headL x, c ≠ 10) ∧ (headL x).getLast? ≠ some 13 ∧ headL x ≠ [] ∧ goesL (headL x) = false := by
  obtain ⟨k, v, b⟩ := x
  obtain ⟨hk, hk2⟩ := h1
  obtain ⟨hv, hv2⟩ := h2
  refine ⟨fun c hc => ?_, ?_, ?_, ?_⟩
  · unfold headL at hc
    simp only [List.mem_append] at hc
    rcases hc with (h | h) | h
    · exact (okB_facts (hk2 c h)).1
    · have : ∀ c ∈ colL, c ≠ 10 := by decide
      exact this c h
    · exact (okB_facts (hv2 c h)).1
  · intro e
    unfold headL at e
    rw [List.getLast?_append] at e
    cases hl : v.getLast? with
    | none => exact hv (List.getLast?_eq_none_iff.1 hl)
    | some y =>
      simp only [hl] at e
      have h13 := (okB_facts (hv2 y (List.mem_of_getLast? hl))).2.1
      simp at e
      exact h13 e
  · unfold headL
    simp [colL]
  · cases k with
    | nil => exact absurd rfl hk
    | cons c r =>
      have := (okB_facts (hk2 c (by simp))).2.2.2.1
      rw [blk_eq] at this
      exact this
theorem head_field {x : Hx} (h1 : Good x.1) (h2 : Good x.2.1) : oneL (headL x) = [(x.1, x.2.1)] ∧ oneL (headL x ++ moreL) = [(x.1, x.2.1 ++ moreL)] := by
  obtain ⟨k, v, b⟩ := x
  obtain ⟨hk, hk2⟩ := h1
  obtain ⟨hv, hv2⟩ := h2
  have hn : nameL k = true := by
    unfold nameL
    rw [Bool.and_eq_true]
    refine ⟨by cases k with | nil => exact absurd rfl hk | cons c r => rfl, ?_⟩
    rw [List.all_eq_true]
    exact fun c hc => (okB_facts (hk2 c hc)).2.2.2.2
  have h58 : ∀ c ∈ k, c ≠ 58 := fun c hc => (okB_facts (hk2 c hc)).2.2.1
  have tr : ∀ u : List UInt8, (∃ y, u.getLast? = some y ∧ blk y = false) → (∃ c r, u = c :: r ∧ blk c = false) → trimL (32 :: 9 :: u) = u := by
    rintro u ⟨y, hy, hyb⟩ ⟨c, r, rfl, hcb⟩
    rw [← trim_eq, ltr_yes (by decide), ltr_yes (by decide), ltr_no hcb]
    obtain ⟨q, hq⟩ : ∃ q, c :: r = q ++ [y] := by
      rcases snoc_cases (c :: r) with h | ⟨q, z, h⟩
      · cases h
      · rw [h] at hy
        simp at hy
        exact ⟨q, by rw [h, hy]⟩
    rw [hq, rtr_no hyb]
  have hv0 : ∃ c r, v = c :: r ∧ blk c = false := by
    cases v with
    | nil => exact absurd rfl hv
    | cons c r => exact ⟨c, r, rfl, (okB_facts (hv2 c (by simp))).2.2.2.1⟩
  have hvl : ∃ y, v.getLast? = some y ∧ blk y = false := by
    cases hl : v.getLast? with
    | none => exact absurd (List.getLast?_eq_none_iff.1 hl) hv
    | some y => exact ⟨y, rfl, (okB_facts (hv2 y (List.mem_of_getLast? hl))).2.2.2.1⟩
  have hm : ∃ c r, v ++ moreL = c :: r ∧ blk c = false := by
    obtain ⟨c, r, hc, hb⟩ := hv0
    exact ⟨c, r ++ moreL, by rw [hc]; rfl, hb⟩
  have hml : ∃ y, (v ++ moreL).getLast? = some y ∧ blk y = false := ⟨101, by rw [List.getLast?_append]; rfl, by decide⟩
  unfold oneL headL
  refine ⟨?_, ?_⟩
  · rw [show k ++ colL ++ v = k ++ 58 :: (32 :: 9 :: v) by simp [colL], fieldL_yes _ h58 hn, tr v hvl hv0]
    rfl
  · rw [show k ++ colL ++ v ++ moreL = k ++ 58 :: (32 :: 9 :: (v ++ moreL)) by simp [colL], fieldL_yes _ h58 hn, tr _ hml hm]
    rfl

/-! ### All of them -/
def lnsH (e : List UInt8) : Nat → List Hx → List (List UInt8 × Nat)
  | _, [] => []
  | p, x :: r => (headL x, p + (headL x).length + e.length) :: ((if x.2.2 then [(moreL, p + (headL x).length + e.length + moreL.length + e.length)] else []) ++ lnsH e (p + (oneH e x).length) r)
def GoodH (xs : List Hx) : Prop := ∀ x ∈ xs, Good x.1 ∧ Good x.2.1
theorem lines_all {e : List UInt8} (he : IsEnd e) : ∀ (xs : List Hx) (_ : GoodH xs) (p : Nat) (r : List UInt8), linesL p (allH e xs ++ r) = lnsH e p xs ++ linesL (p + (allH e xs).length) r
  | [], _, p, r => by simp [allH, lnsH]
  | x :: xs, h, p, r => by
    obtain ⟨h1, h2⟩ := h x (by simp)
    obtain ⟨q1, q2, _, _⟩ := head_no10 h1 h2
    have ih := lines_all he xs (fun y hy => h y (by simp [hy]))
    rw [show allH e (x :: xs) = oneH e x ++ allH e xs from rfl, List.append_assoc, lnsH]
    cases hb : x.2.2
    · have h3 : oneH e x ++ (allH e xs ++ r) = headL x ++ e ++ (allH e xs ++ r) := by unfold oneH; rw [hb]; simp
      have h4 : (oneH e x).length = (headL x).length + e.length := by unfold oneH; rw [hb]; simp
      rw [h3, line_end he _ _ _ q1 q2, ih, List.length_append, h4]
      simp [Nat.add_assoc]
    · have h3 : oneH e x ++ (allH e xs ++ r) = headL x ++ e ++ (moreL ++ e ++ (allH e xs ++ r)) := by unfold oneH; rw [hb]; simp
      have h4 : (oneH e x).length = (headL x).length + e.length + moreL.length + e.length := by unfold oneH; rw [hb]; simp; omega
      rw [h3, line_end he _ _ _ q1 q2, line_end he moreL _ _ (by decide) (by decide), ih, List.length_append, h4]
      simp [Nat.add_assoc]
def txsH (xs : List Hx) : List (List UInt8) := xs.flatMap fun x => headL x :: if x.2.2 then [moreL] else []
theorem lns_txs (e : List UInt8) : ∀ (xs : List Hx) (p : Nat), (lnsH e p xs).map (·.1) = txsH xs
  | [], _ => rfl
  | x :: xs, p => by
    rw [lnsH, List.map_cons, List.map_append, lns_txs e xs]
    unfold txsH
    rw [List.flatMap_cons]
    cases x.2.2 <;> rfl
theorem lns_ne (e : List UInt8) : ∀ (xs : List Hx) (_ : GoodH xs) (p : Nat), ∀ y ∈ lnsH e p xs, y.1 ≠ []
  | [], _, _ => by simp [lnsH]
  | x :: xs, h, p => by
    obtain ⟨h1, h2⟩ := h x (by simp)
    obtain ⟨_, _, q3, _⟩ := head_no10 h1 h2
    intro y hy
    rw [lnsH] at hy
    rcases List.mem_cons.1 hy with rfl | hy
    · exact q3
    · rcases List.mem_append.1 hy with hy | hy
      · cases hb : x.2.2
        · rw [hb] at hy; simp at hy
        · rw [hb] at hy
          simp at hy
          rw [hy]
          show moreL ≠ []
          decide
      · exact lns_ne e xs (fun z hz => h z (by simp [hz])) _ y hy
theorem st_all : ∀ (xs : List Hx) (_ : GoodH xs) (st : List (List UInt8 × List UInt8) × List UInt8), endL ((txsH xs).foldl stepL st) = endL st ++ xs.map wantH
  | [], _, st => by simp [txsH]
  | x :: xs, h, st => by
    obtain ⟨h1, h2⟩ := h x (by simp)
    obtain ⟨_, _, _, q4⟩ := head_no10 h1 h2
    obtain ⟨f1, f2⟩ := head_field h1 h2
    have ih := st_all xs (fun z hz => h z (by simp [hz]))
    have hs : stepL st (headL x) = (endL st, headL x) := by unfold stepL endL; rw [q4]; rfl
    have ht : txsH (x :: xs) = headL x :: ((if x.2.2 then [moreL] else []) ++ txsH xs) := by unfold txsH; rw [List.flatMap_cons]; rfl
    rw [ht, List.foldl_cons, hs, List.map_cons]
    cases hb : x.2.2
    · simp only [Bool.false_eq_true, if_false, List.nil_append]
      rw [ih, show endL (endL st, headL x) = endL st ++ oneL (headL x) from rfl, f1]
      simp [wantH, hb]
    · have hm : stepL (endL st, headL x) moreL = (endL st, headL x ++ moreL) := rfl
      simp only [if_true, List.singleton_append, List.foldl_cons]
      rw [hm, ih, show endL (endL st, headL x ++ moreL) = endL st ++ oneL (headL x ++ moreL) from rfl, f2]
      simp [wantH, hb]
theorem made_stop {e : List UInt8} (he : IsEnd e) (xs : List Hx) (h : GoodH xs) (body : List UInt8) (to : Nat) : splitL 0 to (allH e xs ++ (e ++ body)) = (xs.map wantH, (allH e xs).length + e.length) := by
  have h1 := lines_all he xs h 0 (e ++ body)
  have h2 : linesL (0 + (allH e xs).length) (e ++ body) = ([], (allH e xs).length + e.length) :: linesL ((allH e xs).length + e.length) body := by
    have := line_end he [] body (0 + (allH e xs).length) (by simp) (by simp)
    simpa using this
  unfold splitL
  rw [h1, h2, fields_stop (lns_ne e xs h 0), lns_txs]
  have h3 := st_all xs h ([], [])
  unfold stL
  rw [h3]
  rfl
theorem made_all {e : List UInt8} (he : IsEnd e) (xs : List Hx) (h : GoodH xs) (p to : Nat) : splitL p to (allH e xs) = (xs.map wantH, to) := by
  have h1 := lines_all he xs h p []
  rw [linesL_nil, List.append_nil, List.append_nil] at h1
  unfold splitL
  rw [h1, fields_all (lns_ne e xs h p), lns_txs]
  have h3 := st_all xs h ([], [])
  unfold stL
  rw [h3]
  rfl
theorem oneH_len {e : List UInt8} (he : IsEnd e) {x : Hx} (h1 : x.1.length ≤ 100) (h2 : x.2.1.length ≤ 100) : (oneH e x).length ≤ 212 := by
  have : e.length ≤ 2 := by rcases he with rfl | rfl <;> decide
  unfold oneH headL colL moreL
  cases x.2.2 <;> simp <;> omega
end Go.Proofs.YtnnbbjdidbggmaaGreatDoor.F0
