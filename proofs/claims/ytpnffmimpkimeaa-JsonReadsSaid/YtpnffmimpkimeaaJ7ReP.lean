/-
  What Parse leaves, in one form for both of its ends; two readings of what is read are the same to Same. Conditions: none.
-/
import Derived.Test.YtpnffmimpkimeaaJ7Same
namespace Go.Proofs.Ytpnffmimpkimeaa.J7
open Go Go.RowKit Go.Joins Kit

/-! ### Two readings of what is read are the same to Same -/
theorem same_leaf (k n : Int) (t : ByteArray) : SameOk (.mk k n t [] []) := same_of _ (fun i hi => absurd hi (Nat.not_lt_zero i)) (by show (0 : Nat) ≤ 1000000; omega) (by show (0 : Nat) ≤ 1000000; omega)
theorem same_list (obj : Bool) (K : List ByteArray) (V : List J) (hV : ∀ x ∈ V, SameOk x) (h1 : K.length ≤ 1000000) (h2 : V.length ≤ 1000000) : SameOk (listJ obj K V) :=
  same_of _ (fun _ hi => hV _ (List.getElem_mem hi)) h1 h2
theorem key_len {obj : Bool} {keys ks : List ByteArray} {l r : List UInt8} (h : keyO obj keys l = .ok (ks, r)) : ks.length + r.length ≤ keys.length + l.length := by
  cases obj with
  | false =>
    have h : (.ok (keys, l) : Out (List ByteArray)) = .ok (ks, r) := h
    injection h with h
    injection h with h1 h2
    rw [h1, h2]
    exact Nat.le_refl _
  | true =>
    have h : keyL keys l = .ok (ks, r) := h
    have hl := (key_suffix h).2
    unfold keyL at h
    split at h
    · cases h
    · split at h
      · cases h
      · split at h
        · cases h
        · unfold colonL at h
          split at h
          · cases h
          · injection h with h
            injection h with h1 h2
            rw [← h1, List.length_append, List.length_singleton]
            omega
theorem same_items {val : List UInt8 → Out J} (hv : ∀ l j r, val l = .ok (j, r) → r <:+ l ∧ (l.length ≤ 65536 → SameOk j)) (obj : Bool) : ∀ (f : Nat) (keys : List ByteArray) (kids : List J) (l : List UInt8) (j : J) (r : List UInt8), l.length ≤ 65536 → (∀ x ∈ kids, SameOk x) → itemsG val obj f keys kids l = .ok (j, r) →
    ∃ K V, j = listJ obj K V ∧ (∀ x ∈ V, SameOk x) ∧ V.length + r.length ≤ kids.length + l.length ∧ K.length + r.length ≤ keys.length + l.length
  | 0, _, _, _, _, _, _, _, h => by cases h
  | f + 1, keys, kids, l, j, r, hl, hk, h => by
    rw [itemsG] at h
    split at h
    · cases h
    · rename_i ks l1 e1
      have q1 := key_len e1
      have q2 := (keyO_suffix e1).length_le
      split at h
      · cases h
      · rename_i j1 l2 e2
        obtain ⟨q3, q4⟩ := hv _ _ _ e2
        have q3 := q3.length_le
        have hj1 := q4 (by omega)
        have q5 := (skip_suffix l2).length_le
        have hk' : ∀ x ∈ kids ++ [j1], SameOk x := fun x hx => by
          rcases List.mem_append.1 hx with hx | hx
          · exact hk x hx
          · rw [List.mem_singleton.1 hx]; exact hj1
        split at h
        · rename_i r0 e3
          have q6 := eat_lt e3
          injection h with h
          injection h with h1 h2
          subst h1 h2
          exact ⟨ks, kids ++ [j1], rfl, hk', by rw [List.length_append, List.length_singleton]; omega, by omega⟩
        · split at h
          · rename_i r0 e3
            have q6 := eat_lt e3
            obtain ⟨K, V, h1, h2, h3, h4⟩ := same_items hv obj f ks (kids ++ [j1]) r0 j r (by omega) hk' h
            rw [List.length_append, List.length_singleton] at h3
            exact ⟨K, V, h1, h2, by omega, by omega⟩
          · cases h
theorem same_num {l r : List UInt8} {j : J} (h : numC l = .ok (j, r)) : SameOk j := by
  unfold numC at h
  split at h
  · split at h
    · cases h
    · split at h
      · cases h
      · injection h with h; injection h with h _; rw [← h]; exact same_leaf _ _ _
  · split at h
    · cases h
    · injection h with h; injection h with h _; rw [← h]; exact same_leaf _ _ _
theorem same_word {w l r : List UInt8} {k : Int} {j : J} (h : wordJ w k l = .ok (j, r)) : SameOk j := by
  unfold wordJ at h
  split at h
  · cases h
  · injection h with h; injection h with h _; rw [← h]; exact same_leaf _ _ _
theorem same_valueH {lst : Bool → List UInt8 → Out J} (hls : ∀ obj l j r, lst obj l = .ok (j, r) → l.length ≤ 65536 → SameOk j) (l : List UInt8) (j : J) (r : List UInt8) (h : valueH numC lst l = .ok (j, r)) (hl : l.length ≤ 65536) : SameOk j := by
  have q5 := (skip_suffix l).length_le
  unfold valueH at h
  split at h
  · cases h
  · rename_i c t e
    rw [e, List.length_cons] at q5
    split at h
    · exact same_word h
    split at h
    · exact same_word h
    split at h
    · exact same_word h
    split at h
    · unfold textJ at h
      split at h
      · cases h
      · injection h with h; injection h with h _; rw [← h]; exact same_leaf _ _ _
    split at h
    · exact hls _ _ _ _ h (by omega)
    split at h
    · exact hls _ _ _ _ h (by omega)
    · exact same_num h
theorem same_value : ∀ (d : Nat) (l : List UInt8) (j : J) (r : List UInt8), valueG numC d l = .ok (j, r) → l.length ≤ 65536 → SameOk j
  | 0, l, j, r, h, hl => by
    rw [valueG_eq] at h
    exact same_valueH (lst := lstG numC 0) (fun _ _ j r h _ => by have h : (.error 4 : Out J) = .ok (j, r) := h; cases h) l j r h hl
  | d + 1, l, j, r, h, hl => by
    rw [valueG_eq] at h
    refine same_valueH (lst := lstG numC (d + 1)) (fun obj l j r h hl => ?_) l j r h hl
    have h : listG (valueG numC d) obj l = .ok (j, r) := h
    unfold listG at h
    have q5 := (skip_suffix l).length_le
    split at h
    · injection h with h; injection h with h _; rw [← h]; exact same_list _ _ _ (fun _ h => absurd h List.not_mem_nil) (Nat.zero_le _) (Nat.zero_le _)
    · obtain ⟨K, V, h1, h2, h3, h4⟩ := same_items (fun l j r h => ⟨valueG_suffix (fun _ _ _ h => (numC_suffix h).1) d l j r h, fun hl => same_value d l j r h hl⟩) obj _ [] [] (skipL l) j r (by omega) (fun _ h => absurd h List.not_mem_nil) h
      rw [h1]
      simp only [List.length_nil] at h3 h4
      exact same_list _ _ _ h2 (by omega) (by omega)
def jR : Except Nat J → J
  | .ok j => j
  | .error _ => .mk 0 0 ⟨#[]⟩ [] []
def cR : Except Nat J → Nat
  | .ok _ => 0
  | .error e => e
theorem same_read (l : List UInt8) : SameOk (jR (parseG numC l)) := by
  unfold parseG
  split
  · exact same_leaf _ _ _
  · split
    · exact same_leaf _ _ _
    · rename_i j r e
      split
      · exact same_value 24 l j r e (by omega)
      · exact same_leaf _ _ _
theorem parse_two {w0 w : World} {o : Except Nat J} {e' : Ending} (h : ParseLeft w0 o e' w) : Below w0.heap.size w0 w ∧ ∃ x0 x1 x2 a3 l3 m3 a4 l4 m4, e' = .returned (.tuple #[.agg #[.int .i64 x0, .int .i64 x1, .string x2, .slice a3 l3 m3, .slice a4 l4 m4], .int .i64 (cR o : Int)]) ∧
    NodeAt (fun g => w0.heap.size ≤ g) w (jR o) (.agg #[.int .i64 x0, .int .i64 x1, .string x2, .slice a3 l3 m3, .slice a4 l4 m4]) := by
  obtain ⟨hb, c0, c1, c2, c3, c4, c, he, hm⟩ := h
  cases o with
  | ok j =>
    obtain ⟨hc, hn⟩ := hm
    obtain ⟨x0, x1, x2, a3, l3, m3, a4, l4, m4, rfl, rfl, rfl, rfl, rfl⟩ := hn.forms
    subst hc
    exact ⟨hb, _, _, _, _, _, _, _, _, _, he, hn⟩
  | error e =>
    obtain ⟨hc, hz⟩ := hm
    have hn : NodeAt (fun g => w0.heap.size ≤ g) w (jR (.error e)) (.agg #[c0, c1, c2, c3, c4]) := by rw [hz]; exact node_plain _ _ 0 0 ⟨#[]⟩
    obtain ⟨x0, x1, x2, a3, l3, m3, a4, l4, m4, rfl, rfl, rfl, rfl, rfl⟩ := hn.forms
    subst hc
    exact ⟨hb, _, _, _, _, _, _, _, _, _, he, hn⟩
end Go.Proofs.Ytpnffmimpkimeaa.J7
