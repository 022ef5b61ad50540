/-
  Plain facts on keywords and flags: whether a text may be a keyword, the keyword of a flag, the flag of a keyword, lists of them. No program in this text. Conditions: none.
-/
import Derived.Test.YtggnkpbadfabcaaTxPlain
namespace Go.Proofs.Ytggnkpbadfabcaa.Fg
open Go Tx

def kAns : List UInt8 := [36, 97, 110, 115, 119, 101, 114, 101, 100]
def kFlg : List UInt8 := [36, 102, 108, 97, 103, 103, 101, 100]
def kDel : List UInt8 := [36, 100, 101, 108, 101, 116, 101, 100]
def kSeen : List UInt8 := [36, 115, 101, 101, 110]
def kDra : List UInt8 := [36, 100, 114, 97, 102, 116]
def fAns : List UInt8 := [92, 65, 110, 115, 119, 101, 114, 101, 100]
def fFlg : List UInt8 := [92, 70, 108, 97, 103, 103, 101, 100]
def fDel : List UInt8 := [92, 68, 101, 108, 101, 116, 101, 100]
def fSeen : List UInt8 := [92, 83, 101, 101, 110]
def fDra : List UInt8 := [92, 68, 114, 97, 102, 116]
/-- IMAP's own flag of a keyword; empty: it has none. -/
def ownL (k : List UInt8) : List UInt8 := if k = kAns then fAns else if k = kFlg then fFlg else if k = kDel then fDel else if k = kSeen then fSeen else if k = kDra then fDra else []
def rightL (k : List UInt8) : Bool := decide (k.length ≤ 64) && atomL k && decide (foldL k = k)
/-- The keyword of a flag whose letters are small. -/
def keyF (k : List UInt8) : Option (List UInt8) := match k with
  | 92 :: r => if ownL (36 :: r) = [] then none else some (36 :: r)
  | k => if rightL k then some k else none
def keyL (f : List UInt8) : Option (List UInt8) := keyF (foldL f)
def flagL (k : List UInt8) : List UInt8 := if ownL k = [] then k else ownL k
theorem own_cases (k : List UInt8) : (k = kAns ∧ ownL k = fAns) ∨ (k = kFlg ∧ ownL k = fFlg) ∨ (k = kDel ∧ ownL k = fDel) ∨ (k = kSeen ∧ ownL k = fSeen) ∨ (k = kDra ∧ ownL k = fDra) ∨ (ownL k = [] ∧ k ≠ kAns ∧ k ≠ kFlg ∧ k ≠ kDel ∧ k ≠ kSeen ∧ k ≠ kDra) := by
  by_cases h1 : k = kAns
  · exact Or.inl ⟨h1, by rw [h1]; rfl⟩
  by_cases h2 : k = kFlg
  · exact Or.inr (Or.inl ⟨h2, by rw [h2]; rfl⟩)
  by_cases h3 : k = kDel
  · exact Or.inr (Or.inr (Or.inl ⟨h3, by rw [h3]; rfl⟩))
  by_cases h4 : k = kSeen
  · exact Or.inr (Or.inr (Or.inr (Or.inl ⟨h4, by rw [h4]; rfl⟩)))
  by_cases h5 : k = kDra
  · exact Or.inr (Or.inr (Or.inr (Or.inr (Or.inl ⟨h5, by rw [h5]; rfl⟩))))
  · refine Or.inr (Or.inr (Or.inr (Or.inr (Or.inr ⟨?_, h1, h2, h3, h4, h5⟩))))
    unfold ownL
    rw [if_neg h1, if_neg h2, if_neg h3, if_neg h4, if_neg h5]
theorem right_iff (k : List UInt8) : rightL k = true ↔ (k.length ≤ 64 ∧ atomL k = true) ∧ foldL k = k := by simp [rightL]
theorem keyF_of {k : List UInt8} (h : rightL k = true) : keyF k = some k := by
  have ha := ((right_iff k).1 h).1.2
  unfold keyF
  split
  · simp [atomL, atomB] at ha
  · rw [if_pos h]
/-- A keyword's flag has that keyword. -/
theorem key_flag {k : List UInt8} (h : rightL k = true) : keyL (flagL k) = some k := by
  have hf := ((right_iff k).1 h).2
  rcases own_cases k with ⟨rfl, h2⟩ | ⟨rfl, h2⟩ | ⟨rfl, h2⟩ | ⟨rfl, h2⟩ | ⟨rfl, h2⟩ | ⟨h2, _⟩
  · decide +kernel
  · decide +kernel
  · decide +kernel
  · decide +kernel
  · decide +kernel
  · unfold flagL keyL
    rw [if_pos h2, hf]
    exact keyF_of h
/-- Two unlike keywords have unlike flags. -/
theorem flag_inj {a b : List UInt8} (ha : rightL a = true) (hb : rightL b = true) : flagL a = flagL b ↔ a = b := by
  refine ⟨fun h => ?_, fun h => by rw [h]⟩
  have h1 := key_flag ha
  rw [h, key_flag hb] at h1
  exact (Option.some.inj h1).symm
theorem wake_key : keyL [92, 83, 69, 69, 78] = some kSeen := by decide +kernel
theorem wake_flag : flagL kSeen = fSeen := by decide +kernel
theorem no_recent : keyL [92, 82, 101, 99, 101, 110, 116] = none := by decide +kernel
theorem no_sign : keyL [92] = none := by decide +kernel
theorem own_len (k : List UInt8) : (ownL k).length ≤ 9 := by
  rcases own_cases k with ⟨_, h⟩ | ⟨_, h⟩ | ⟨_, h⟩ | ⟨_, h⟩ | ⟨_, h⟩ | ⟨h, _⟩ <;> rw [h] <;> decide
theorem flag_len (k : List UInt8) : (flagL k).length ≤ k.length + 9 := by
  unfold flagL
  have := own_len k
  split <;> omega
theorem keyF_len {f k : List UInt8} (h : keyF f = some k) : k.length ≤ f.length := by
  unfold keyF at h
  split at h
  · split at h
    · cases h
    · cases h; simp
  · split at h
    · cases h; exact Nat.le_refl _
    · cases h
end Go.Proofs.Ytggnkpbadfabcaa.Fg
