/-
  quoted.Decode returns what a text tells in quoted-printable. Conditions: the text has at most 2^30 bytes; the bound of the library's search is some number.
-/
import Derived.Test.YtkmopneeafbeaaaDoorQ4Dec
namespace Go.Proofs.YtkmopneeafbeaaaDoor.Q4
open Go Go.RowKit Go.Joins Kit Srch

def lenV (v : Value) : Nat := match v with | .string t => t.size | _ => 0

set_option maxHeartbeats 1000000 in
set_option maxRecDepth 100000 in
theorem decode_any (s : ByteArray) (w : World) (hs : s.size ≤ 1099511627) (hE : Env w) :
    Calls Tryd.prog 30 #[.string s] w fun e w' => e = .returned (.string ⟨(plainL s.data.toList).toArray⟩) ∧ Below w.heap.size w w' := by
  go_enter Tryd.func30, Tryd.ntmps30
  go_wp2_with fail
  refine (Tryd.Builder_Grow_fresh w.heap.size w.heap.size s.size _ (Nat.le_refl _) (fresh_block w _ _) (by simp) (by omega)).mono ?_
  rintro e w1 ⟨rfl, hI, hb1⟩
  have hb0 : Below w.heap.size w w1 := ((Below.refl _ w).alloc (Nat.le_refl _) _).trans hb1
  have hB0 : Lib.IsBuilderF 75 5 w.heap.size w.heap.size (Lib.byteCells []) w1 := Lib.IsBuilderF.of (Or.inr hI)
  clear hI hb1
  go_wp2_with fail
  go_loopw [0] (fun v wr => ∃ (t : ByteArray) (out : List UInt8), v = .string t ∧ out.length + t.size ≤ s.size ∧ Hid (out ++ plainL t.data.toList = plainL s.data.toList) ∧ Lib.IsBuilderF 75 5 w.heap.size w.heap.size (Lib.byteCells out) wr ∧ Below w.heap.size w wr) (fun v _ => lenV v)
  case atStart => exact ⟨s, [], rfl, by simp, rfl, hB0, hb0⟩
  case round =>
    clear hB0 hb0
    obtain ⟨t, out, rfl, hlen, hq, hB, hb⟩ := hrel
    go_wp2_with fail
    refine (cut_any 61 t wr (by omega) (hE.next hb)).mono ?_
    rintro e w2 ⟨hc, hb2, hw2⟩
    have hB2 : Lib.IsBuilderF 75 5 w.heap.size w.heap.size (Lib.byteCells out) w2 := Bld.same_heap hB hw2
    have hbb := hb.trans (hb2.mono hb.size)
    clear hB hb hb2 hw2
    rcases hc with ⟨rfl, hno⟩ | ⟨a, r, hl, hno, rfl⟩
    · have hend := Lib.hid (show out ++ t.data.toList = plainL s.data.toList by rw [← hq.out, plain_self hno])
      clear hno
      go_wp2_with fail
      refine (Tryd.Builder_WriteString_k w.heap.size w.heap.size _ t _ hB2 (by rw [Lib.byteCells_length]; omega) hbb.size).mono ?_
      rintro e w3 ⟨rfl, h3, hb3, _⟩
      rw [Bld.str_cells, hend.out] at h3
      replace hb3 := hbb.trans hb3
      go_wp2_with fail
      refine (Tryd.Builder_String_any_k w.heap.size w.heap.size _ _ (Or.inr h3) hb3.size).mono ?_
      rintro e w4 ⟨rfl, _, hb4, _⟩
      go_wp2
      go_ret
      exact ⟨rfl, hb3.trans hb4⟩
    · have hn := nextL_len r.data.toList
      have hz : t.size = a.size + 1 + r.size := by rw [Lib.size_eq, hl, List.length_append, List.length_cons, ← Lib.size_eq, ← Lib.size_eq]; omega
      rw [← Lib.size_eq] at hn
      have hnx := Lib.hid (show ((out ++ a.data.toList) ++ (nextL r.data.toList).1) ++ plainL (nextL r.data.toList).2 = plainL s.data.toList by rw [← hq.out, hl, plain_app hno, plain_eq, List.append_assoc, List.append_assoc])
      have hla : (out ++ a.data.toList).length ≤ 1099511627776 := by rw [List.length_append, ← Lib.size_eq]; omega
      have hlo : ((out ++ a.data.toList) ++ (nextL r.data.toList).1).length + (nextL r.data.toList).2.length ≤ s.size := by rw [List.length_append, List.length_append, ← Lib.size_eq]; omega
      clear hno hl
      go_wp2_with fail
      refine (Tryd.Builder_WriteString_k w.heap.size w.heap.size _ a _ hB2 (by rw [Lib.byteCells_length]; omega) hbb.size).mono ?_
      rintro e w3 ⟨rfl, h3, hb3, _⟩
      rw [Bld.str_cells] at h3
      replace hb3 := hbb.trans hb3
      go_wp2_with fail
      refine (next_any w.heap.size w.heap.size _ r w3 (Or.inr h3) (by omega) hb3.size).mono ?_
      rintro e w4 ⟨rfl, h4, hb4⟩
      replace hb4 := hb3.trans hb4
      go_wp2
      go_roundw
      case rel => exact ⟨_, _, rfl, hlo, hnx, h4, hb4⟩
      case measure => show (nextL r.data.toList).2.toArray.size < t.size; simp; omega
def plainB (s : ByteArray) : ByteArray := ⟨(plainL s.data.toList).toArray⟩
def quoB (s : ByteArray) : ByteArray := ⟨(quoL 0 s.data.toList).toArray⟩
theorem plainB_data (s : ByteArray) : (plainB s).data.toList = plainL s.data.toList := by simp [plainB]
theorem quoB_data (s : ByteArray) : (quoB s).data.toList = quoL 0 s.data.toList := by simp [quoB]
theorem dec_call (s : ByteArray) (w : World) (hs : s.size ≤ 1099511627) (hE : Env w) :
    Calls Tryd.prog 30 #[.string s] w fun e w' => e = .returned (.string (plainB s)) ∧ Below w.heap.size w w' := decode_any s w hs hE
end Go.Proofs.YtkmopneeafbeaaaDoor.Q4
