/-
  The document's answer for package canon, as the statements have it: two unlike right values have unlike texts. Conditions: the text has at most 65536 bytes.
-/
import Derived.Test.YtbjngdlkamdmdaaDoorJ8Plain
import Derived.Test.YtbjngdlkamdmdaaDoorJ7Bk
namespace Go.Proofs.YtbjngdlkamdmdaaDoor.J8
open Go Go.RowKit Go.Joins Kit J7 Nds

theorem put_inj {a b : J} (ha : RightJ 24 a) (hb : RightJ 24 b) (hla : (putJ a).length ≤ 65536) (h : putJ a = putJ b) : a = b := by
  have h1 := parse_put a ha hla
  rw [h, parse_put b hb (by rw [← h]; exact hla)] at h1
  injection h1 with h1
  exact h1.symm
end Go.Proofs.YtbjngdlkamdmdaaDoor.J8
