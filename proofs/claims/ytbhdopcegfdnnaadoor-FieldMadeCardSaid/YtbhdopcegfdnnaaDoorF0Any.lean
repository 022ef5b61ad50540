/-
  field.Split and the document's Split at whatever places; the laws' awake returns true. Conditions: the text has at most 32768 bytes; the bound of the library's search is some number.
-/
import Derived.Test.YtbhdopcegfdnnaaDoorF0Split
import Derived.Test.YtbhdopcegfdnnaaDoorF0RSplit
import Derived.Test.YtbhdopcegfdnnaaDoorF0RFs
namespace Go.Proofs.YtbhdopcegfdnnaaDoor.F0
open Go Go.RowKit Go.Joins Kit

/-- The document's Split at whatever places. -/
def docS (l : List UInt8) (a t : Int) : List Fl × Int :=
  if a < 0 ∨ t < a ∨ (l.length : Int) < t then ([], a) else ((splitL a.toNat t.toNat ((l.take t.toNat).drop a.toNat)).1, ((splitL a.toNat t.toNat ((l.take t.toNat).drop a.toNat)).2 : Int))
theorem docS_in {l : List UInt8} {a t : Nat} (h : a ≤ t) (ht : t ≤ l.length) : docS l a t = ((splitL a t ((l.take t).drop a)).1, ((splitL a t ((l.take t).drop a)).2 : Int)) := by
  unfold docS
  rw [if_neg (by omega)]
  simp
theorem docS_all (l : List UInt8) : docS l 0 l.length = ((splitL 0 l.length l).1, ((splitL 0 l.length l).2 : Int)) := by
  have := docS_in (l := l) (a := 0) (t := l.length) (Nat.zero_le _) (Nat.le_refl _)
  simpa using this
theorem split_any (s : ByteArray) (a t : Int) (w : World) (hs : s.size ≤ 32768) (hE : Srch.Env w) :
    Calls Tryd.prog 10 #[.string s, .int .i64 a, .int .i64 t] w fun e w' => ∃ v, e = .returned (.tuple #[v, .int .i64 (docS s.data.toList a t).2]) ∧ RowF w.heap.size v (docS s.data.toList a t).1 w' ∧ Below w.heap.size w w' := by
  by_cases h : a < 0 ∨ t < a ∨ (s.size : Int) < t
  · refine (split_none s a t w h).mono ?_
    rintro e w' ⟨rfl, hb⟩
    unfold docS
    rw [if_pos (by rw [← Lib.size_eq]; exact h)]
    exact ⟨_, rfl, RowF.new _ _, hb⟩
  · obtain ⟨a0, rfl⟩ : ∃ n : Nat, a = n := ⟨a.toNat, by omega⟩
    obtain ⟨t0, rfl⟩ : ∃ n : Nat, t = n := ⟨t.toNat, by omega⟩
    refine (split_some s a0 t0 w hs (by omega) (by omega) hE).mono ?_
    rintro e w' ⟨v, rfl, hr, hb⟩
    rw [docS_in (by omega) (by rw [← Lib.size_eq]; omega)]
    exact ⟨v, rfl, hr, hb⟩
theorem rsplit_any (s : ByteArray) (a t : Int) (w : World) (hs : s.size ≤ 32768) :
    Calls Tryd.prog 11 #[.string s, .int .i64 a, .int .i64 t] w fun e w' => ∃ v, e = .returned (.tuple #[v, .int .i64 (docS s.data.toList a t).2]) ∧ RowF w.heap.size v (docS s.data.toList a t).1 w' ∧ Below w.heap.size w w' := by
  by_cases h : a < 0 ∨ t < a ∨ (s.size : Int) < t
  · refine (rsplit_none s a t w h).mono ?_
    rintro e w' ⟨rfl, hb⟩
    unfold docS
    rw [if_pos (by rw [← Lib.size_eq]; exact h)]
    exact ⟨_, rfl, RowF.new _ _, hb⟩
  · obtain ⟨a0, rfl⟩ : ∃ n : Nat, a = n := ⟨a.toNat, by omega⟩
    obtain ⟨t0, rfl⟩ : ∃ n : Nat, t = n := ⟨t.toNat, by omega⟩
    refine (rsplit_some s a0 t0 w hs (by omega) (by omega)).mono ?_
    rintro e w' ⟨v, rfl, hr, hb⟩
    rw [docS_in (by omega) (by rw [← Lib.size_eq]; omega)]
    exact ⟨v, rfl, hr, hb⟩
/-- How many fields a text tells. -/
theorem docS_le (l : List UInt8) (a t : Int) (hl : l.length ≤ 32768) : (docS l a t).1.length ≤ 32769 := by
  unfold docS
  split
  · simp
  · unfold splitL fieldsL
    have h1 : ∀ ls : List (List UInt8 × Nat), ((uptoL t.toNat ls).1).length ≤ ls.length := by
      intro ls
      induction ls with
      | nil => simp [uptoL]
      | cons x r ih =>
        obtain ⟨u, n⟩ := x
        rw [uptoL]
        split
        · simp
        · simp only [List.length_cons]; omega
    have h2 : ∀ l : List (List UInt8), (l.flatMap oneL).length ≤ l.length := by
      intro l
      induction l with
      | nil => simp
      | cons a r ih => rw [List.flatMap_cons, List.length_append, List.length_cons]; have := oneL_le a; omega
    have h3 := h1 (linesL a.toNat ((l.take t.toNat).drop a.toNat))
    have h4 := h2 (texL (uptoL t.toNat (linesL a.toNat ((l.take t.toNat).drop a.toNat))).1)
    have h5 := tex_count (uptoL t.toNat (linesL a.toNat ((l.take t.toNat).drop a.toNat))).1 []
    have h6 := linesG_count ((l.take t.toNat).drop a.toNat) [] a.toNat
    rw [List.length_drop, List.length_take] at h6
    rw [tex_end] at h4
    unfold texL at h4
    unfold linesL at h3 h4 h5 ⊢
    rw [List.length_nil] at h5
    simp only
    omega
/-- The body begins in the text, or at its end. -/
theorem docS_body (l : List UInt8) : 0 ≤ (docS l 0 l.length).2 ∧ (docS l 0 l.length).2 ≤ (l.length : Int) := by
  rw [docS_all]
  refine ⟨Int.natCast_nonneg _, ?_⟩
  have h : (splitL 0 l.length l).2 ≤ l.length := by
    unfold splitL fieldsL
    rcases upto_mem l.length (linesL 0 l) with ⟨h1, _⟩ | ⟨x, hx, _, he⟩
    · exact Nat.le_of_eq h1
    · have := (linesG_le _ _ _ x hx).1
      show (uptoL l.length (linesL 0 l)).2 ≤ _
      rw [he]
      omega
  simp only
  omega
theorem sample : docS [65, 58, 32, 98, 13, 10, 32, 99, 13, 10, 13, 10, 120] 0 13 = ([([65], [98, 32, 99])], 12) := by decide +kernel

set_option maxHeartbeats 1000000 in
set_option maxRecDepth 100000 in
theorem awake_any (w : World) (hE : Srch.Env w) :
    Calls Tryd.prog 9 #[] w fun e w' => e = .returned (.bool true) ∧ Below w.heap.size w w' := by
  go_enter Tryd.func9, Tryd.ntmps9
  go_wp2_with fail
  refine (split_any ⟨#[65, 58, 32, 98, 13, 10, 32, 99, 13, 10, 13, 10, 120]⟩ 0 13 w (by decide) hE).mono ?_
  rintro e w1 ⟨v, rfl, hr, hb⟩
  rw [show (ByteArray.mk #[65, 58, 32, 98, 13, 10, 32, 99, 13, 10, 13, 10, 120]).data.toList = [65, 58, 32, 98, 13, 10, 32, 99, 13, 10, 13, 10, 120] from rfl, sample] at hr ⊢
  obtain ⟨g, cap, hv, hc⟩ := Rw.cells hr (by decide)
  subst hv
  have c0 : w1.cell? ⟨g, 0, none⟩ = some (.string ⟨#[65]⟩) := (hc 0 (by decide)).1
  have c1 : w1.cell? ⟨g, 1, none⟩ = some (.string ⟨#[98, 32, 99]⟩) := (hc 1 (by decide)).1
  clear hr hc
  go_wp2_with fail
  go_ret
  exact ⟨rfl, hb⟩
end Go.Proofs.YtbhdopcegfdnnaaDoor.F0
