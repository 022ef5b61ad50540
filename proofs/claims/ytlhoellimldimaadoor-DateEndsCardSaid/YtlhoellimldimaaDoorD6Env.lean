/-
  What the walks over package date carry from world to world: the table of powers of ten, the days of the months, and the bound of the library's search, read as they did. No law in this text. Conditions: the tables read as the program's text lays them.
-/
import Derived.Test.YtlhoellimldimaaDoorD6Own
import Derived.Test.YtlhoellimldimaaDoorD6Val
import Derived.Test.YtlhoellimldimaaDoorEnv
import Derived.Test.YtlhoellimldimaaDoorTxEnv
import Derived.Lib.LaidTab
import Derived.LaidSub
import Derived.IntWalk
namespace Go.Proofs.YtlhoellimldimaaDoor.D6
open Go Go.RowKit Go.Joins Kit

/-- The days of the months of a year that is no leap year. -/
def monTab : List Int := [31, 28, 31, 30, 31, 30, 31, 31, 30, 31, 30, 31]
structure Env (w : World) : Prop where
  tx : Tx.Env w
  srch : Srch.Env w
  mon : ∀ w', Below w.heap.size w w' → Lib.TabIs Tryd.prog w' "pillarbox/date.monthDays" .i64 monTab
theorem Env.next {w w1 : World} (h : Env w) (hb : Below w.heap.size w w1) : Env w1 where
  tx := h.tx.next hb
  srch := h.srch.next hb
  mon := fun w' hb' => h.mon w' (hb.trans (hb'.mono hb.size))
theorem gMon : Tryd.prog.globalNamed "pillarbox/date.monthDays" = some 0 := by kernel_rfl
theorem Env.cell {w : World} (h : Env w) (k : Nat) (hk : k < 12) : w.cell? ⟨0, k, none⟩ = some (.int .i64 (monTab.getD k 0)) := by
  have := (h.mon w (Below.refl _ _)).cell gMon k hk
  rw [this, List.getD_eq_getElem?_getD, List.getElem?_eq_getElem (show k < monTab.length from hk), Option.getD_some]
theorem tab_dim (y k : Nat) (hk : k < 12) : (dim y (k + 1) : Int) = monTab.getD k 0 + (if k + 1 = 2 ∧ leapN y = true then 1 else 0) := by
  rcases (show k = 0 ∨ k = 1 ∨ k = 2 ∨ k = 3 ∨ k = 4 ∨ k = 5 ∨ k = 6 ∨ k = 7 ∨ k = 8 ∨ k = 9 ∨ k = 10 ∨ k = 11 by omega) with rfl | rfl | rfl | rfl | rfl | rfl | rfl | rfl | rfl | rfl | rfl | rfl
  all_goals
    cases h : leapN y <;> simp [dim, monTab, h]
end Go.Proofs.YtlhoellimldimaaDoor.D6
