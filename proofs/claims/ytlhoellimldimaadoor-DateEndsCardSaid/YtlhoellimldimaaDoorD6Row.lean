/-
  From what a row over package date says of the start (the listed tables, the world's shape) to what the walks carry. Condition: none of its own.
-/
import Derived.Test.YtlhoellimldimaaDoorD6Env
import Derived.Test.YtlhoellimldimaaDoorTxRow
namespace Go.Proofs.YtlhoellimldimaaDoor.D6
open Go Go.RowKit

theorem gMonType : (Tryd.prog.globals[0]?).map (·.type) = some 71 := by kernel_rfl
theorem cellsMon : Tryd.prog.cellsOf 71 = 12 := by kernel_rfl
theorem cellsInt : Tryd.prog.cellsOf 3 = 1 := by kernel_rfl
theorem env_of {l : List (String × DataW Unit)} {W : World} (h : laidMet Tryd.prog l W) (hsh : W.ShapedOpen Tryd.prog)
    (hl : ((l.filter fun x => x.1 == "internal/strconv.uint64pow10"), (l.filter fun x => x.1 == "pillarbox/date.monthDays")) = ([("internal/strconv.uint64pow10", Lib.tabData .u64 Lib.pow10Tab)], [("pillarbox/date.monthDays", Lib.tabData .i64 monTab)])) : Env W := by
  have h1 := h.filter (fun x => x.1 == "pillarbox/date.monthDays")
  rw [show (l.filter fun x => x.1 == "pillarbox/date.monthDays") = _ from congrArg Prod.snd hl] at h1
  have ht := Lib.tabIs_of_head (rest := []) gMon gMonType Tryd.underlying71 Tryd.underlying3 cellsInt cellsMon h1
  exact {
    tx := Tx.env_of h hsh (congrArg Prod.fst hl)
    srch := Srch.env_of hsh
    mon := fun w' hb => Lib.tabBelow_of_tabIs ht w' hb
  }
end Go.Proofs.YtlhoellimldimaaDoor.D6
