/-
  What the walks carry from world to world: the table of powers of ten, and the bound of the library's search, read as they did. text.Digits returns the decimal digits of its number, of 0 where it is below 0. Condition: the number is an int; the table reads as the program's text lays it.
-/
import Derived.Test.YtoofcclcimkipaaDoorTxFold
import Derived.Lib.AppendIntMem
import Derived.WalkSmall
namespace Go.Proofs.YtoofcclcimkipaaDoor.Tx
open Go Go.RowKit Go.Sort

/-- The library's tables read as the program's text lays them, in this world and in every one that keeps what was there. -/
structure Env (w : World) : Prop where
  tab : ∀ w', Below w.heap.size w w' → Lib.TabIs Tryd.prog w' "internal/strconv.uint64pow10" .u64 Lib.pow10Tab
  max : ∀ w', Below w.heap.size w w' → ∃ m : Int, w'.cell? ⟨0, 0, none⟩ = some (.int .i64 m)

theorem Env.next {w w1 : World} (h : Env w) (hb : Below w.heap.size w w1) : Env w1 where
  tab := fun w' hb' => h.tab w' (hb.trans (hb'.mono hb.size))
  max := fun w' hb' => h.max w' (hb.trans (hb'.mono hb.size))

theorem below_grow {B : Nat} {w : World} (os : Array Obj) (h : B ≤ w.heap.size) : Below B w (grow w os) :=
  ⟨rfl, rfl, rfl, by simp, fun k hk => by simp only [grow]; rw [Array.getElem?_append_left (by omega)]⟩

theorem itoa_any (n : Int) (h0 : -9223372036854775808 ≤ n) (h1 : n ≤ 9223372036854775807) (w : World) (hE : Env w) :
    Calls Tryd.prog 45 #[.int .i64 n] w fun e w' => e = .returned (.string ⟨(Lib.itoa n).toArray⟩) ∧ Below w.heap.size w w' := by
  refine (Tryd.strconv_Itoa n h0 h1 w (hE.tab _ (Below.refl _ _))).mono ?_
  rintro e w' ⟨rfl, k, os, rfl⟩
  exact ⟨rfl, (below_drewN (Below.refl _ _) k).trans (below_grow os (Nat.le_refl _))⟩

theorem itoa_max (n : Int) : Lib.itoa (max n 0) = Lib.decDigits n.toNat := by
  unfold Lib.itoa
  rw [if_neg (by omega)]
  congr 1
  omega

end Go.Proofs.YtoofcclcimkipaaDoor.Tx
