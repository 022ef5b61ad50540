/-
  The bound of the library's search is some number, in this world and in every one that keeps what was there; what strings.Cut at one byte tells. No law and no function of the project in this text. Conditions: none.
-/
import Derived.Test.YtnnbbjdidbggmaaGreatDoorKit
import Derived.Test.YtnnbbjdidbggmaaGreatDoorShelf
import Derived.Lib.IndexBytes
import Derived.Lib.IndexLaws
import Derived.WalkSmall
import Derived.Shelf.Vars
namespace Go.Proofs.YtnnbbjdidbggmaaGreatDoor.Srch
open Go Go.RowKit Go.Joins Kit

structure Env (w : World) : Prop where
  max : ∀ w', Below w.heap.size w w' → ∃ m : Int, w'.cell? ⟨2, 0, none⟩ = some (.int .i64 m)
theorem Env.next {w w1 : World} (h : Env w) (hb : Below w.heap.size w w1) : Env w1 where
  max := fun w' hb' => h.max w' (hb.trans (hb'.mono hb.size))
theorem max_cell {W : World} (h : W.ShapedOpen Tryz.prog) : ∃ m : Int, W.cell? ⟨2, 0, none⟩ = some (.int .i64 m) :=
  Go.Proofs.cell_of_shapedOpen_int (zero := #[.int .i64 0]) (t := 3) h (of_decide_eq_true (by kernel_rfl)) (by kernel_rfl) rfl (by kernel_rfl) (by kernel_rfl) Tryz.underlying3
theorem env_of {W : World} (h : W.ShapedOpen Tryz.prog) : Env W := by
  obtain ⟨m, hm⟩ := max_cell h
  exact { max := fun w' hb => ⟨m, by rw [hb.cell (p := ⟨2, 0, none⟩) (cell_lt hm)]; exact hm⟩ }

/-! ### A text cut at a byte -/
theorem idx_cases (x : UInt8) : ∀ (l : List UInt8), (Lib.indexByte l x = -1 ∧ ∀ c ∈ l, c ≠ x) ∨ ∃ a r, l = a ++ x :: r ∧ (∀ c ∈ a, c ≠ x) ∧ Lib.indexByte l x = (a.length : Int)
  | [] => Or.inl ⟨rfl, by simp⟩
  | b :: l => by
    by_cases hb : b = x
    · subst hb
      exact Or.inr ⟨[], l, rfl, by simp, by rw [Lib.indexByte]; simp⟩
    · rcases idx_cases x l with ⟨h1, h2⟩ | ⟨a, r, h1, h2, h3⟩
      · refine Or.inl ⟨by rw [Lib.indexByte, h1]; simp [hb], ?_⟩
        intro c hc
        rcases List.mem_cons.1 hc with rfl | hc
        · exact hb
        · exact h2 c hc
      · refine Or.inr ⟨b :: a, r, by rw [h1]; rfl, ?_, ?_⟩
        · intro c hc
          rcases List.mem_cons.1 hc with rfl | hc
          · exact hb
          · exact h2 c hc
        · rw [Lib.indexByte, h3, if_neg (by simpa using hb), if_neg (by simp <;> omega)]
          simp
theorem cut_cases (x : UInt8) (l : List UInt8) : (Lib.cut l [x] = (l, [], false) ∧ ∀ c ∈ l, c ≠ x) ∨ ∃ a r, l = a ++ x :: r ∧ (∀ c ∈ a, c ≠ x) ∧ Lib.cut l [x] = (a, r, true) := by
  unfold Lib.cut
  rw [Lib.index_one]
  rcases idx_cases x l with ⟨h1, h2⟩ | ⟨a, r, h1, h2, h3⟩
  · exact Or.inl ⟨by rw [h1]; rfl, h2⟩
  · refine Or.inr ⟨a, r, h1, h2, ?_⟩
    rw [h3, if_pos (by omega), h1]
    have e : ((a.length : Int)).toNat = a.length := by omega
    rw [e]
    simp
theorem mk_list (s : ByteArray) : (⟨s.data.toList.toArray⟩ : ByteArray) = s := rfl
/-- strings.Cut at one byte. -/
theorem cut_any (x : UInt8) (s : ByteArray) (w : World) (hs : s.size < 4294967281) (hE : Env w) :
    Calls Tryz.prog 76 #[.string s, .string ⟨#[x]⟩] w fun e w' =>
      ((e = .returned (.tuple #[.string s, .string ⟨#[]⟩, .bool false]) ∧ ∀ c ∈ s.data.toList, c ≠ x) ∨
        ∃ a r : ByteArray, s.data.toList = a.data.toList ++ x :: r.data.toList ∧ (∀ c ∈ a.data.toList, c ≠ x) ∧ e = .returned (.tuple #[.string a, .string r, .bool true])) ∧ Below w.heap.size w w' ∧ w.heap = w'.heap := by
  obtain ⟨m, hm⟩ := hE.max w (Below.refl _ _)
  refine (Tryz.strings_Cut s ⟨#[x]⟩ m w hs hm).mono ?_
  rintro e w' ⟨rfl, n, rfl⟩
  refine ⟨?_, below_drewN (Below.refl _ _) n, rfl⟩
  rw [show (ByteArray.mk #[x]).data.toList = [x] from rfl]
  rcases cut_cases x s.data.toList with ⟨h1, h2⟩ | ⟨a, r, h1, h2, h3⟩
  · exact Or.inl ⟨by rw [h1], h2⟩
  · exact Or.inr ⟨⟨a.toArray⟩, ⟨r.toArray⟩, by simpa using h1, by simpa using h2, by rw [h3]⟩
end Go.Proofs.YtnnbbjdidbggmaaGreatDoor.Srch
