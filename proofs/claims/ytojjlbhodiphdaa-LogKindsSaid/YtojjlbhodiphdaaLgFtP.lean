/-
  Plain facts on what befell ids: the place of an id, one entry more in two steps, how many have passed. No program in this text. Conditions: none.
-/
import Derived.Test.YtojjlbhodiphdaaLgPlain
namespace Go.Proofs.Ytojjlbhodiphdaa.Lg

theorem placeF_some {fs : List Ft} {i : Int} {p : Nat} (h : placeF fs i = some p) : ∃ hp : p < fs.length, fs[p].id = i := by
  unfold placeF at h
  rw [List.findIdx?_eq_some_iff_getElem] at h
  obtain ⟨h1, h2, _⟩ := h
  exact ⟨h1, by simpa using h2⟩
theorem placeF_none {fs : List Ft} {i : Int} (h : placeF fs i = none) : ∀ f ∈ fs, f.id ≠ i := by
  unfold placeF at h
  rw [List.findIdx?_eq_none_iff] at h
  intro f hf
  simpa using h f hf
theorem placeF_snoc (fs : List Ft) (x : Ft) (i : Int) : placeF (fs ++ [x]) i = match placeF fs i with
    | some p => some p
    | none => if x.id = i then some fs.length else none := by
  unfold placeF
  rw [List.findIdx?_append]
  cases h : List.findIdx? (fun f => decide (f.id = i)) fs with
  | some p => simp
  | none =>
    by_cases hx : x.id = i
    · simp [List.findIdx?_cons, hx]
    · simp [List.findIdx?_cons, hx]
theorem placeF_set {fs : List Ft} {p : Nat} {f : Ft} (hp : p < fs.length) (hf : f.id = fs[p].id) (i : Int) : placeF (fs.set p f) i = placeF fs i := by
  have e : ∀ (l : List Ft), placeF l i = (l.map (·.id)).findIdx? (fun x => decide (x = i)) := fun l => by
    unfold placeF
    rw [List.findIdx?_map]
    rfl
  rw [e, e, List.map_set, hf]
  congr 1
  apply List.ext_getElem
  · simp
  · intro j h1 h2
    rw [List.getElem_set]
    split
    · rename_i hj
      subst hj
      simp
    · rfl
/-- One entry more, ahead of its own fate. -/
def preF (fs : List Ft) (e : En) : List Ft := match placeF fs e.id with
  | some _ => fs
  | none => fs ++ [⟨e.id, e.how, 0⟩]
def atF (fs : List Ft) (e : En) : Nat := match placeF fs e.id with
  | some p => p
  | none => fs.length
theorem preF_some {fs : List Ft} {e : En} {p : Nat} (h : placeF fs e.id = some p) : preF fs e = fs ∧ atF fs e = p := by unfold preF atF; rw [h]; exact ⟨rfl, rfl⟩
theorem preF_none {fs : List Ft} {e : En} (h : placeF fs e.id = none) : preF fs e = fs ++ [⟨e.id, e.how, 0⟩] ∧ atF fs e = fs.length := by unfold preF atF; rw [h]; exact ⟨rfl, rfl⟩
theorem atF_lt (fs : List Ft) (e : En) : atF fs e < (preF fs e).length := by
  cases h : placeF fs e.id with
  | some p => rw [(preF_some h).1, (preF_some h).2]; exact (placeF_some h).1
  | none => rw [(preF_none h).1, (preF_none h).2]; simp
theorem preF_id (fs : List Ft) (e : En) : ((preF fs e)[atF fs e]'(atF_lt fs e)).id = e.id := by
  cases h : placeF fs e.id with
  | some p =>
    have h1 := preF_some h
    obtain ⟨hp, h2⟩ := placeF_some h
    simp only [h1.1, h1.2]
    exact h2
  | none =>
    have h1 := preF_none h
    simp only [h1.1, h1.2]
    simp
theorem addF_pre (fs : List Ft) (e : En) : addF fs e = (preF fs e).set (atF fs e) ⟨((preF fs e)[atF fs e]'(atF_lt fs e)).id, ((preF fs e)[atF fs e]'(atF_lt fs e)).first, e.how⟩ := by
  cases h : placeF fs e.id with
  | some p =>
    have h1 := preF_some h
    obtain ⟨hp, h2⟩ := placeF_some h
    unfold addF
    simp only [h, h1.1, h1.2]
    apply List.ext_getElem
    · simp
    · intro j h3 h4
      rw [List.getElem_modify, List.getElem_set]
      split
      · rename_i hj
        subst hj
        rfl
      · rfl
  | none =>
    have h1 := preF_none h
    unfold addF
    simp only [h, h1.1, h1.2]
    simp
theorem preF_count (fs : List Ft) (e : En) : (preF fs e).countP passed = fs.countP passed := by
  cases h : placeF fs e.id with
  | some p => rw [(preF_some h).1]
  | none =>
    rw [(preF_none h).1, List.countP_append]
    simp [passed]
theorem count_set {fs : List Ft} {p : Nat} (hp : p < fs.length) (f : Ft) : ((fs.set p f).countP passed : Int) = (fs.countP passed : Int) - (if passed fs[p] then 1 else 0) + (if passed f then 1 else 0) := by
  rw [List.countP_set hp]
  have h1 : passed fs[p] = true → 1 ≤ fs.countP passed := fun h => List.countP_pos_iff.2 ⟨fs[p], List.getElem_mem hp, h⟩
  by_cases a : passed fs[p] = true
  · have := h1 a
    rw [if_pos a, if_pos a]
    split <;> omega
  · rw [if_neg a, if_neg a]
    split <;> omega
theorem count_le (fs : List Ft) : fs.countP passed ≤ fs.length := List.countP_le_length
theorem preF_len (fs : List Ft) (e : En) : (preF fs e).length ≤ fs.length + 1 := by
  cases h : placeF fs e.id with
  | some p => rw [(preF_some h).1]; omega
  | none => rw [(preF_none h).1]; simp
theorem preF_place (fs : List Ft) (e : En) : placeF (preF fs e) e.id = some (atF fs e) := by
  cases h : placeF fs e.id with
  | some p => rw [(preF_some h).1, (preF_some h).2, h]
  | none => rw [(preF_none h).1, (preF_none h).2, placeF_snoc, h]; simp
end Go.Proofs.Ytojjlbhodiphdaa.Lg
