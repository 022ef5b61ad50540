/-
  Plain facts: how the document's Split joins lines comes to the program's way. No program in this text. Conditions: none.
-/
import Derived.Test.YtkmopneeafbeaaaDoorF0Plain
namespace Go.Proofs.YtkmopneeafbeaaaDoor.F0
open Go

/-- A line put to the texts so far. -/
def putT (ts : List (List UInt8)) (t : List UInt8) : List (List UInt8) := if goesL t && !ts.isEmpty then ts.dropLast ++ [(ts.getLast?.getD []) ++ t] else ts ++ [t]
def texL (ls : List (List UInt8)) : List (List UInt8) := ls.foldl putT []
theorem texL_snoc (ls : List (List UInt8)) (t : List UInt8) : texL (ls ++ [t]) = putT (texL ls) t := by simp [texL]
theorem putT_new {ts : List (List UInt8)} {t : List UInt8} (h : goesL t = false ∨ ts = []) : putT ts t = ts ++ [t] := by
  unfold putT
  rw [if_neg]
  rcases h with h | h
  · rw [h]; simp
  · rw [h]; simp
theorem putT_on (ps : List (List UInt8)) (j t : List UInt8) (h : goesL t = true) : putT (ps ++ [j]) t = ps ++ [j ++ t] := by
  unfold putT
  rw [if_pos (by rw [h]; simp)]
  simp
theorem putT_ne (ts : List (List UInt8)) (t : List UInt8) : putT ts t ≠ [] := by
  unfold putT
  split <;> simp
theorem snocT (ts : List (List UInt8)) (h : ts ≠ []) : ∃ ps j, ts = ps ++ [j] := by
  rcases List.eq_nil_or_concat ts with h' | ⟨r, c, h'⟩
  · exact absurd h' h
  · exact ⟨r, c, by simpa using h'⟩
theorem texL_ne {ls : List (List UInt8)} (h : ls ≠ []) : texL ls ≠ [] := by
  obtain ⟨r, c, rfl⟩ := snocT ls h
  rw [texL_snoc]
  exact putT_ne _ _
def TInv (ts : List (List UInt8)) (st : List (List UInt8 × List UInt8) × List UInt8) : Prop := (ts = [] ∧ st = ([], [])) ∨ ∃ ps j, ts = ps ++ [j] ∧ st = (ps.flatMap oneL, j)
theorem tinv_step {ts : List (List UInt8)} {st : List (List UInt8 × List UInt8) × List UInt8} (h : TInv ts st) (t : List UInt8) : TInv (putT ts t) (stepL st t) := by
  rcases h with ⟨rfl, rfl⟩ | ⟨ps, j, rfl, rfl⟩
  · rw [putT_new (Or.inr rfl)]
    refine Or.inr ⟨[], t, rfl, ?_⟩
    unfold stepL
    split
    · rfl
    · rw [show oneL [] = [] from rfl]; rfl
  · cases hg : goesL t
    · rw [putT_new (Or.inl hg)]
      refine Or.inr ⟨ps ++ [j], t, rfl, ?_⟩
      unfold stepL
      rw [hg]
      simp
    · rw [putT_on ps j t hg]
      refine Or.inr ⟨ps, j ++ t, rfl, ?_⟩
      unfold stepL
      rw [hg]
      rfl
theorem tinv_all : ∀ (ls : List (List UInt8)) (ts : List (List UInt8)) (st : List (List UInt8 × List UInt8) × List UInt8) (_ : TInv ts st), TInv (ls.foldl putT ts) (ls.foldl stepL st)
  | [], _, _, h => h
  | t :: r, _, _, h => tinv_all r _ _ (tinv_step h t)
theorem tex_end (ls : List (List UInt8)) : (texL ls).flatMap oneL = endL (stL ls) := by
  have h := tinv_all ls [] ([], []) (Or.inl ⟨rfl, rfl⟩)
  unfold texL stL endL
  rcases h with ⟨h1, h2⟩ | ⟨ps, j, h1, h2⟩
  · rw [h1, h2]; rfl
  · rw [h1, h2]; simp
theorem put_le {M n : Nat} {ts : List (List UInt8)} {t : List UInt8} (h : ∀ x ∈ ts, x.length ≤ n * M) (ht : t.length ≤ M) : ∀ x ∈ putT ts t, x.length ≤ (n + 1) * M := by
  intro x hx
  have hM : (n + 1) * M = n * M + M := Nat.succ_mul n M
  unfold putT at hx
  split at hx
  · rcases List.mem_append.1 hx with h' | h'
    · have := h x (List.dropLast_subset _ h'); omega
    · simp only [List.mem_singleton] at h'
      rw [h', List.length_append]
      cases hl : ts.getLast? with
      | none => simp; omega
      | some y =>
        have := h y (List.mem_of_getLast? hl)
        simp
        omega
  · rcases List.mem_append.1 hx with h' | h'
    · have := h x h'; omega
    · simp only [List.mem_singleton] at h'
      rw [h']
      omega
theorem tex_fold_le (M : Nat) : ∀ (ls : List (List UInt8)) (_ : ∀ t ∈ ls, t.length ≤ M) (n : Nat) (ts : List (List UInt8)) (_ : ∀ x ∈ ts, x.length ≤ n * M), ∀ x ∈ ls.foldl putT ts, x.length ≤ (n + ls.length) * M
  | [], _, n, ts, h => by simpa using h
  | t :: r, hl, n, ts, h => by
    have := tex_fold_le M r (fun x hx => hl x (by simp [hx])) (n + 1) (putT ts t) (put_le h (hl t (by simp)))
    rw [List.length_cons, show n + (r.length + 1) = n + 1 + r.length by omega]
    exact this
theorem tex_le {M : Nat} {ls : List (List UInt8)} (h : ∀ t ∈ ls, t.length ≤ M) : ∀ x ∈ texL ls, x.length ≤ ls.length * M := by
  have := tex_fold_le M ls h 0 [] (by simp)
  simpa [texL] using this
theorem put_count (ts : List (List UInt8)) (t : List UInt8) : (putT ts t).length ≤ ts.length + 1 := by
  unfold putT
  split
  · rw [List.length_append, List.length_dropLast]; simp
  · simp
theorem tex_count : ∀ (ls ts : List (List UInt8)), (ls.foldl putT ts).length ≤ ts.length + ls.length
  | [], _ => by simp
  | t :: r, ts => by
    have h1 := tex_count r (putT ts t)
    have h2 := put_count ts t
    rw [List.foldl_cons, List.length_cons]
    omega
/-- A text that tells a field begins with a byte of its name. -/
theorem field_head {t : List UInt8} {f : List UInt8 × List UInt8} (h : fieldL t = some f) : ∃ c r, t = c :: r ∧ 33 ≤ c.toNat ∧ c.toNat ≤ 126 := by
  unfold fieldL at h
  cases hc : cutL 58 t with
  | none => rw [hc] at h; cases h
  | some x =>
    rw [hc] at h
    obtain ⟨n, v⟩ := x
    simp only at h
    cases hn : nameL n with
    | false => rw [hn] at h; cases h
    | true =>
      unfold nameL at hn
      rw [Bool.and_eq_true] at hn
      cases t with
      | nil => cases hc
      | cons c r =>
        rw [cutL] at hc
        split at hc
        · injection hc with hc
          injection hc with hc _
          rw [← hc] at hn
          simp at hn
        · cases hr : cutL 58 r with
          | none => rw [hr] at hc; cases hc
          | some y =>
            rw [hr] at hc
            simp only [Option.map_some, Option.some.injEq, Prod.mk.injEq] at hc
            rw [← hc.1] at hn
            have := hn.2
            simp only [List.all_cons, Bool.and_eq_true] at this
            have h1 := this.1
            unfold inName at h1
            simp only [Bool.and_eq_true, decide_eq_true_eq] at h1
            exact ⟨c, r, rfl, h1.1, h1.2⟩
end Go.Proofs.YtkmopneeafbeaaaDoor.F0
