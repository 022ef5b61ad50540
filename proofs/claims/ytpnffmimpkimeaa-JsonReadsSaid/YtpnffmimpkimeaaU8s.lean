/-
  An argument that is a slice of bytes, opened: what it reads as. Condition: none but that it reads as data.
-/
import Derived.Test.YtpnffmimpkimeaaJ7Caught
import Derived.OpenShut
namespace Go.Proofs.Ytpnffmimpkimeaa.U8s
open Go Go.RowKit Go.WideShapes Go.ChangeShapes Kit

theorem opens {H : Type} {enc : TypeId × Value → H} {W : World} {A : Option Addr} {n c : Nat} {d : DataW H} {p : List MemPlace} (h : DataW.Trod enc Try.prog W 0 (fun _ => true) true 22 (.slice A n c) d p) :
    ∃ l : List UInt8, l.length = n ∧ J7.BytesAt W (.slice A n c) l := by
  obtain ⟨fuel, hf⟩ := h
  have hc : Try.prog.cellsOf 5 = 1 := by kernel_rfl
  rcases Go.ChangeShapes.open_ints Try.underlying22 Try.underlying5 hc hf with ⟨hcs, _⟩ | ⟨a, len', cap', xs, hcs, _, hle, hmax, hall, _, hcell, hwf⟩
  · simp [Value.cells] at hcs
    obtain ⟨rfl, rfl, rfl⟩ := hcs
    exact ⟨[], rfl, Or.inl ⟨rfl, rfl⟩⟩
  · simp [Value.cells] at hcs
    obtain ⟨rfl, rfl, rfl⟩ := hcs
    simp only [if_true] at hall
    have hlen : ((xs.take n).map fun z : Int => UInt8.ofNat z.toNat).length = n := by rw [List.length_map, List.length_take]; omega
    refine ⟨(xs.take n).map fun z : Int => UInt8.ofNat z.toNat, hlen, Or.inr ⟨a, c, by rw [hlen], fun j hj => ?_⟩⟩
    have hj' : j < n := by rw [hlen] at hj; exact hj
    have hjx : j < xs.length := by omega
    rw [hcell j hjx, List.getElem_map, List.getElem_take, List.getD_eq_getElem?_getD, List.getElem?_eq_getElem hjx, Option.getD_some]
    have hb := bounds_u8 (hwf xs[j] (List.getElem_mem hjx))
    have : (UInt8.ofNat xs[j].toNat).toNat = xs[j].toNat := by
      show xs[j].toNat % 256 = xs[j].toNat
      omega
    rw [this, Int.toNat_of_nonneg hb.1]
end Go.Proofs.Ytpnffmimpkimeaa.U8s
