/-
  A number's decimal digits as a text: of 0 where it is below 0. No law and no function of the project in this text. Conditions: none.
-/
import Derived.Test.YtoofcclcimkipaaDoorKit
import Derived.Test.YtoofcclcimkipaaDoorTxPlain
namespace Go.Proofs.YtoofcclcimkipaaDoor.Dg
open Go Go.RowKit Go.Joins Kit

def digs (n : Int) : ByteArray := ⟨(Lib.decDigits n.toNat).toArray⟩
theorem digs_low {n : Int} (h : n ≤ 0) : digs n = ⟨#[48]⟩ := by
  unfold digs
  rw [show n.toNat = 0 by omega, Lib.decDigits_one (by decide)]
  rfl
theorem digs_one {n : Int} (h0 : 0 ≤ n) (h : n < 10) : digs n = oneB (48 + n % 10) := by
  unfold digs oneB
  rw [Lib.decDigits_one (by omega), show (48 + n % 10).toNat = 48 + n.toNat by omega]
theorem digs_more {n : Int} (h : 10 ≤ n) : digs n = digs (n / 10) ++ oneB (48 + n % 10) := by
  refine bytes_ext ?_
  rw [data_append]
  unfold digs oneB
  rw [Lib.decDigits, dif_neg (by omega), show n.toNat / 10 = (n / 10).toNat by omega, show 48 + n.toNat % 10 = (48 + n % 10).toNat by omega]
theorem digs_short {n : Int} (h : n ≤ 9223372036854775807) : (digs n).size ≤ 19 := by
  rw [Lib.size_eq]
  unfold digs
  rw [Lib.decDigits_length]
  exact Tx.nDigits_le (k := 18) (by omega)
end Go.Proofs.YtoofcclcimkipaaDoor.Dg
