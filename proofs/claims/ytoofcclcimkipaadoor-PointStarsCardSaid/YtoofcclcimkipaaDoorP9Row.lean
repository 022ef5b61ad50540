/-
  From what a row says of the start (the listed tables and errors, the world's shape) to what the walks of package point carry. Condition: none of its own.
-/
import Derived.Test.YtoofcclcimkipaaDoorP9Way
import Derived.Test.YtoofcclcimkipaaDoorTxRow
import Derived.Stop.LaidErr
namespace Go.Proofs.YtoofcclcimkipaaDoor.J9
open Go Go.RowKit Go.Joins Kit

theorem gSyn : Tryd.prog.globalNamed "strconv.ErrSyntax" = some 1 := by kernel_rfl
theorem gSynType : (Tryd.prog.globals[1]?).map (·.type) = some 70 := by kernel_rfl
theorem gRng : Tryd.prog.globalNamed "strconv.ErrRange" = some 2 := by kernel_rfl
theorem gRngType : (Tryd.prog.globals[2]?).map (·.type) = some 70 := by kernel_rfl
theorem cellsErr : Tryd.prog.cellsOf 120 = 1 := by kernel_rfl
theorem cellsStr : Tryd.prog.cellsOf 9 = 1 := by kernel_rfl
theorem starErr : "*" ++ "errors.errorString" = "*errors.errorString" := by decide
theorem rowErr (u : TypeId) (h : Tryd.prog.typeName? 3 u = some "*errors.errorString") : u = 118 :=
  typeName_ptr_named (nm := "errors.errorString") (by rw [starErr]; kernel_rfl) (by kernel_rfl) (by decide) u (by rw [starErr]; exact h)

def synLaid : String × DataW Unit := ("strconv.ErrSyntax", .iface "*errors.errorString" (.ptr (.agg [.lit (.string [105, 110, 118, 97, 108, 105, 100, 32, 115, 121, 110, 116, 97, 120])])))
def rngLaid : String × DataW Unit := ("strconv.ErrRange", .iface "*errors.errorString" (.ptr (.agg [.lit (.string [118, 97, 108, 117, 101, 32, 111, 117, 116, 32, 111, 102, 32, 114, 97, 110, 103, 101])])))
theorem envP_of {l : List (String × DataW Unit)} {W : World} (h : laidMet Tryd.prog l W) (hsh : W.ShapedOpen Tryd.prog)
    (hl : (l.filter fun x => x.1 == "internal/strconv.uint64pow10") = [("internal/strconv.uint64pow10", Lib.tabData .u64 Lib.pow10Tab)])
    (hs : (l.filter fun x => x.1 == "strconv.ErrSyntax") = [synLaid]) (hr : (l.filter fun x => x.1 == "strconv.ErrRange") = [rngLaid]) : EnvP W := by
  have h2 := h.filter (fun x => x.1 == "strconv.ErrSyntax")
  rw [hs] at h2
  have h3 := h.filter (fun x => x.1 == "strconv.ErrRange")
  rw [hr] at h3
  obtain ⟨a0, s0, hv0, -, -, -⟩ := laid_sentinel h2 gSyn gSynType Tryd.underlying70 rowErr Tryd.underlying118 Tryd.underlying120 rfl rfl Tryd.underlying9 cellsErr cellsStr
  obtain ⟨a1, s1, hv1, -, -, -⟩ := laid_sentinel h3 gRng gRngType Tryd.underlying70 rowErr Tryd.underlying118 Tryd.underlying120 rfl rfl Tryd.underlying9 cellsErr cellsStr
  have c0 : W.cell? ⟨1, 0, none⟩ = some (.iface 118 (.pointer (some a0))) := by have h0 := World.var?_cell gSyn hv0 0; simpa using h0
  have c1 : W.cell? ⟨2, 0, none⟩ = some (.iface 118 (.pointer (some a1))) := by have h0 := World.var?_cell gRng hv1 0; simpa using h0
  exact {
    tab := (Tx.env_of h hsh hl).tab
    max := Srch.env_of hsh
    syn := fun w' hb => ⟨_, _, by rw [hb.cell (p := ⟨1, 0, none⟩) (World.block_lt_of_cell? W _ c0)]; exact c0⟩
    rng := fun w' hb => ⟨_, _, by rw [hb.cell (p := ⟨2, 0, none⟩) (World.block_lt_of_cell? W _ c1)]; exact c1⟩
  }
end Go.Proofs.YtoofcclcimkipaaDoor.J9
