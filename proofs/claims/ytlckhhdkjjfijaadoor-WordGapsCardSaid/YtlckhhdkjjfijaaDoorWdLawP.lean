/-
  Plain facts on words that are put together: what they say, alone, behind one another, with blanks between. No program in this text. Conditions: none.
-/
import Derived.Test.YtlckhhdkjjfijaaDoorWdOneP
import Derived.Test.YtlckhhdkjjfijaaDoorWdQuote
namespace Go.Proofs.YtlckhhdkjjfijaaDoor.Wd
open Go

/-- A word of three parts. -/
def wordL (a k t : List UInt8) : List UInt8 := 61 :: 63 :: (a ++ 63 :: (k ++ 63 :: (t ++ [63, 61])))
/-- Parts that a word may have. -/
def okP (l : List UInt8) : Prop := ∀ c ∈ l, visB c = true ∧ c ≠ 63
theorem okP.no {l : List UInt8} (h : okP l) : ∀ c ∈ l, c ≠ 63 := fun c hc => (h c hc).2
theorem okP.vis {l : List UInt8} (h : okP l) : visL l = true := by unfold visL; rw [List.all_eq_true]; exact fun c hc => (h c hc).1
theorem one_word {a k t x : List UInt8} (ha : okP a) (hk : okP k) (ht : okP t) (hs : saysL a k t = some x) (r : List UInt8) : oneL (wordL a k t ++ r) = some (x, (wordL a k t).length) := by
  have := tail_full r ha.no hk.no ht.no ha.vis hk.vis ht.vis
  rw [hs] at this
  show oneL (61 :: 63 :: ((a ++ 63 :: (k ++ 63 :: (t ++ [63, 61]))) ++ r)) = _
  rw [one_yes, show (a ++ 63 :: (k ++ 63 :: (t ++ [63, 61]))) ++ r = a ++ 63 :: (k ++ 63 :: (t ++ 63 :: 61 :: r)) by simp, this]
  simp [wordL]
  omega
theorem find_gap : ∀ (g : List UInt8) (_ : ∀ c ∈ g, c ≠ 61) (r : List UInt8), findL (g ++ r) = (findL r).map (fun p => (g ++ p.1, p.2.1, p.2.2))
  | [], _, r => by cases h : findL r <;> simp [h]
  | c :: g, h, r => by
    rw [List.cons_append, find_next (one_ne (h c (by simp)) _), find_gap g (fun x hx => h x (by simp [hx])) r]
    cases findL r <;> simp
/-- Something without the sign, then a word. -/
theorem dec_put {g a k t x : List UInt8} (b : Bool) (hg : ∀ c ∈ g, c ≠ 61) (ha : okP a) (hk : okP k) (ht : okP t) (hs : saysL a k t = some x) (r : List UInt8) :
    decW b (g ++ (wordL a k t ++ r)) = (if b || !blankL g then g else []) ++ (x ++ decW false r) := by
  have h1 : findL (wordL a k t ++ r) = some ([], x, r) := by
    rw [find_here (one_word ha hk ht hs r)]
    simp
  rw [decW_some b (by rw [find_gap g hg, h1]; simp only [Option.map_some, List.append_nil]; rfl)]
theorem dec_self (b : Bool) {l : List UInt8} (h : ∀ c ∈ l, c ≠ 61) : decW b l = l := decW_none b (find_plain l h)
/-- A word at the beginning that is none, and nothing else with the sign but its own end. -/
theorem dec_none (b : Bool) {l : List UInt8} (h : findL l = none) : decW b l = l := decW_none b h

/-! ### Blanks -/
theorem blanks_take (l : List UInt8) (n : Nat) (h : blankL l = true) : blankL (l.take n) = true := by
  unfold blankL at h ⊢
  rw [List.all_eq_true] at h ⊢
  exact fun c hc => h c (List.mem_of_mem_take hc)
theorem blank_no {l : List UInt8} (h : blankL l = true) : ∀ c ∈ l, c ≠ 61 := by
  intro c hc
  have := List.all_eq_true.1 h c hc
  rintro rfl
  exact absurd this (by decide)

/-! ### Words of the laws -/
theorem okP_of {l : List UInt8} (h : l.all (fun c => visB c && c != 63) = true) : okP l := by
  intro c hc
  have := List.all_eq_true.1 h c hc
  simp only [Bool.and_eq_true, bne_iff_ne] at this
  exact this
theorem okP_app {a b : List UInt8} (ha : okP a) (hb : okP b) : okP (a ++ b) := by
  intro c hc
  rcases List.mem_append.1 hc with h | h
  · exact ha c h
  · exact hb c h
theorem okP_quo (l : List UInt8) : okP (quoL l) := fun c hc => ⟨(quo_vis l c hc).1, (quo_vis l c hc).2.1⟩
theorem class_vis : ∀ n, n < 256 → B6.classB n = true → visB (UInt8.ofNat n) = true ∧ UInt8.ofNat n ≠ 63 := by decide +kernel
theorem okP_enc (l : List UInt8) : okP (B6.encL l) := by
  unfold B6.encL
  refine okP_app ?_ ?_
  · intro c hc
    unfold B6.letL at hc
    obtain ⟨k, hk, rfl⟩ := List.mem_map.1 hc
    have := class_vis (B6.sg k).toNat (B6.sg k).toNat_lt (B6.sg_class k (B6.six_lt l k hk))
    simpa using this
  · intro c hc
    rw [List.eq_of_mem_replicate hc]
    decide
theorem blank_quo (l : List UInt8) : blankU (quoL l) = quoL l := by
  unfold blankU
  have : ∀ m : List UInt8, (∀ c ∈ m, c ≠ 95) → m.map (fun c => if c = 95 then (32 : UInt8) else c) = m := by
    intro m
    induction m with
    | nil => intro _; rfl
    | cons c m ih =>
      intro h
      rw [List.map_cons, if_neg (h c (by simp)), ih (fun x hx => h x (by simp [hx]))]
  exact this _ (fun c hc => (quo_vis l c hc).2.2)
theorem oct_b (k l : List UInt8) (h : wayB k = true) : octL k (B6.encL l) = some l := by unfold octL; rw [if_pos h, B6.loose_enc]
theorem oct_q (k l : List UInt8) (h : wayB k = false) (h2 : wayQ k = true) : octL k (quoL l) = some l := by unfold octL; rw [h, if_neg (by decide), if_pos h2, blank_quo, plain_quo]
theorem says_utf {a k t l : List UInt8} (ha : Tx.foldL a = utfN) (h : octL k t = some l) (hv : U8.validL l = true) : saysL a k t = some l := by
  unfold saysL
  rw [h]
  show setL a l = some l
  unfold setL
  rw [if_pos (Or.inl ha), if_pos hv]
theorem says_lat {a k t l : List UInt8} (ha : Tx.foldL a = latN) (h : octL k t = some l) : saysL a k t = some (latinL l) := by
  unfold saysL
  rw [h]
  show setL a l = some (latinL l)
  unfold setL
  rw [if_neg (by rw [ha]; decide), if_pos ha]
end Go.Proofs.YtlckhhdkjjfijaaDoor.Wd
