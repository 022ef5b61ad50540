/-
  Plain facts on what looks like a word and is none: a charset that is not known, another way, octets that are not valid, an open one. No program in this text. Conditions: none.
-/
import Derived.Test.YtlckhhdkjjfijaaDoorWdLawP
namespace Go.Proofs.YtlckhhdkjjfijaaDoor.Wd
open Go

theorem tail_no61 {r : List UInt8} (h : ∀ c ∈ r, c ≠ 61) : tailL r = none := by
  cases e : tailL r with
  | none => rfl
  | some p =>
    obtain ⟨x, n⟩ := p
    obtain ⟨a, k, t, r3, e1, -⟩ := tail_back e
    exact absurd rfl (h 61 (by rw [e1]; simp))
theorem find_one : findL [61] = none := by rw [find_next (one_no (by decide))]; rfl
theorem find_mute {m : List UInt8} (h : oneL (61 :: (m ++ [61])) = none) (hm : ∀ c ∈ m, c ≠ 61) : findL (61 :: (m ++ [61])) = none := by
  rw [find_next h, find_gap m hm, find_one]
  rfl
/-- An open one. -/
theorem dec_open (s : List UInt8) (h : ∀ c ∈ s, c ≠ 61) : decW true ([61, 63, 117, 116, 102, 45, 56, 63, 81, 63] ++ s) = [61, 63, 117, 116, 102, 45, 56, 63, 81, 63] ++ s := by
  have hm : ∀ c ∈ [117, 116, 102, 45, 56, 63, 81, 63] ++ s, c ≠ 61 := by
    intro c hc
    rcases List.mem_append.1 hc with hc | hc
    · exact (show ∀ c ∈ ([117, 116, 102, 45, 56, 63, 81, 63] : List UInt8), c ≠ 61 by decide) c hc
    · exact h c hc
  refine decW_none true ?_
  show findL (61 :: 63 :: ([117, 116, 102, 45, 56, 63, 81, 63] ++ s)) = none
  rw [find_next (by rw [one_yes]; exact tail_no61 hm), find_next (one_ne (by decide) _), find_plain _ hm]
  rfl
/-- A charset that is not known. -/
theorem dec_xnone : decW true [61, 63, 120, 45, 110, 111, 110, 101, 63, 81, 63, 97, 63, 61] = [61, 63, 120, 45, 110, 111, 110, 101, 63, 81, 63, 97, 63, 61] := by
  refine decW_none true (find_mute (m := [63, 120, 45, 110, 111, 110, 101, 63, 81, 63, 97, 63]) ?_ (by decide))
  show oneL (61 :: 63 :: ([120, 45, 110, 111, 110, 101] ++ 63 :: ([81] ++ 63 :: ([97] ++ 63 :: 61 :: [])))) = none
  rw [one_yes, tail_full [] (by decide) (by decide) (by decide) (by decide) (by decide) (by decide)]
  have : saysL [120, 45, 110, 111, 110, 101] [81] [97] = none := by
    unfold saysL octL
    rw [show wayB [81] = false from rfl, if_neg (by decide), if_pos (show wayQ [81] = true from rfl)]
    show setL [120, 45, 110, 111, 110, 101] _ = none
    unfold setL
    rw [if_neg (by decide), if_neg (by decide)]
  rw [this]
  rfl
/-- Another way. -/
theorem dec_xway : decW true [61, 63, 117, 116, 102, 45, 56, 63, 88, 63, 97, 63, 61] = [61, 63, 117, 116, 102, 45, 56, 63, 88, 63, 97, 63, 61] := by
  refine decW_none true (find_mute (m := [63, 117, 116, 102, 45, 56, 63, 88, 63, 97, 63]) ?_ (by decide))
  show oneL (61 :: 63 :: ([117, 116, 102, 45, 56] ++ 63 :: ([88] ++ 63 :: [97, 63, 61]))) = none
  rw [one_yes, tail_mute _ (by decide) (by decide) rfl rfl]
/-- Octets that are not valid. -/
theorem dec_xff : decW true [61, 63, 117, 116, 102, 45, 56, 63, 81, 63, 61, 102, 102, 63, 61] = [61, 63, 117, 116, 102, 45, 56, 63, 81, 63, 61, 102, 102, 63, 61] := by
  have h0 : oneL [61, 63, 117, 116, 102, 45, 56, 63, 81, 63, 61, 102, 102, 63, 61] = none := by
    show oneL (61 :: 63 :: ([117, 116, 102, 45, 56] ++ 63 :: ([81] ++ 63 :: ([61, 102, 102] ++ 63 :: 61 :: [])))) = none
    rw [one_yes, tail_full [] (by decide) (by decide) (by decide) (by decide) (by decide) (by decide)]
    have : saysL [117, 116, 102, 45, 56] [81] [61, 102, 102] = none := by
      unfold saysL octL
      rw [show wayB [81] = false from rfl, if_neg (by decide), if_pos (show wayQ [81] = true from rfl), show blankU [61, 102, 102] = [61, 102, 102] from rfl, Q4.plain_hex (a := 15) (b := 15) (by decide) (by decide), Q4.plain_nil]
      show setL [117, 116, 102, 45, 56] [255] = none
      unfold setL
      rw [if_pos (by decide), if_neg (by decide)]
    rw [this]
    rfl
  refine decW_none true ?_
  rw [find_next h0, show [63, 117, 116, 102, 45, 56, 63, 81, 63, 61, 102, 102, 63, 61] = [63, 117, 116, 102, 45, 56, 63, 81, 63] ++ (61 :: ([102, 102, 63] ++ [61] : List UInt8)) from rfl, find_gap _ (by decide), find_mute (one_no (by decide)) (by decide)]
  rfl
end Go.Proofs.YtlckhhdkjjfijaaDoor.Wd
