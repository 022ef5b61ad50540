/-
  The program's Parse: bytes as a slice reads, and its deferred closure. Conditions: none.
-/
import Derived.Test.YtpnffmimpkimeaaJ7Cv
import Derived.Defers
import Derived.Recover
import Derived.Laws.Pointers
namespace Go.Proofs.Ytpnffmimpkimeaa.J7
open Go Go.RowKit Go.Joins Kit

/-- Bytes that a slice reads as. -/
def BytesAt (w : World) (v : Value) (l : List UInt8) : Prop := (v = .slice none 0 0 ∧ l = []) ∨ ∃ ad cap, v = .slice (some ad) l.length cap ∧ ∀ j (h : j < l.length), w.cell? (ad.add j) = some (.int .u8 (l[j].toNat : Int))
theorem BytesAt.form {w : World} {v : Value} {l : List UInt8} (h : BytesAt w v l) : ∃ a cap, v = .slice a l.length cap := by
  rcases h with ⟨rfl, rfl⟩ | ⟨ad, cap, rfl, _⟩
  · exact ⟨none, 0, rfl⟩
  · exact ⟨_, _, rfl⟩
theorem BytesAt.text {w : World} {v : Value} {l : List UInt8} (h : BytesAt w v l) : (convert 22 9 v).run Try.prog w = .ok (.string ⟨l.toArray⟩) w := by
  rcases h with ⟨rfl, rfl⟩ | ⟨ad, cap, rfl, hc⟩
  · kernel_rfl
  · exact run_convert_bytes_back (P := Try.prog) w 22 9 5 ad cap l Try.underlying22 Try.underlying5 Try.underlying9 hc
theorem BytesAt.below {w w' : World} {v : Value} {l : List UInt8} (h : BytesAt w v l) (hb : Below w.heap.size w w') : BytesAt w' v l := by
  rcases h with h | ⟨ad, cap, rfl, hc⟩
  · exact Or.inl h
  · refine Or.inr ⟨ad, cap, rfl, fun j hj => ?_⟩
    have h1 := hc j hj
    rw [hb.cell ?_]
    · exact h1
    · rcases Nat.lt_or_ge (ad.add j).block w.heap.size with h' | h'
      · exact h'
      · simp [World.cell?, Array.getElem?_eq_none h'] at h1

set_option maxHeartbeats 1000000 in
/-- The deferred closure, where the reader has given up. -/
theorem caught (N E : Nat) (c : Nat) (c0 c1 c2 c3 c4 : Value) (x : Int) (w : World) (hn : Bx N c0 c1 c2 c3 c4 w) (he : w.heap[E]? = some (.cells #[.int .i64 x] 28 (0, 0))) (hNE : N ≠ E) :
    CallsD Try.prog 21 #[.pointer (some ⟨N, 0, none⟩), .pointer (some ⟨E, 0, none⟩)] (.panicking ({ v := .iface 28 (.int .i64 (c : Int)), recovered := false } :: [])) w fun e u' w' =>
      e = .returned (.tuple #[]) ∧ u' = .panicking ({ v := .iface 28 (.int .i64 (c : Int)), recovered := true } :: []) ∧ w' = (putN w N (.int .i64 0) (.int .i64 0) (.string { data := #[] }) (.slice none 0 0) (.slice none 0 0)).setCell ⟨E, 0, none⟩ (.int .i64 (c : Int)) := by
  have p0 := hn.p0
  have p1 := hn.p1
  have p2 := hn.p2
  have p3 := hn.p3
  have p4 := hn.p4
  have f0 := hn.free 0
  have f1 := hn.free 1
  have f2 := hn.free 2
  have f3 := hn.free 3
  have f4 := hn.free 4
  have e0 : w.cell? ⟨E, 0, none⟩ = some (.int .i64 x) := by rw [Lib.cell_of_heap he]; rfl
  have ef : w.frozen? ⟨E, 0, none⟩ = false := Lib.frozen_of_heap he 0
  have hta : ∀ (c : Int) (w : World), (Instr.typeAssert (.iface 28 (.int .i64 c)) 20 28 true).run Try.prog w = .ok (.tuple #[.int .i64 c, .bool true]) w := fun _ _ => by kernel_rfl
  refine callsD_of_wpS Try.func21 rfl fun k0 cs hu => ?_
  apply wpS_seq
  apply wpS_region
  simp [wpOpsS, go_sem, recoverD, hu, Try.ntmps21, Exit.thenS]
  refine wpS_of_wp ?_
  go_wp2_with fail
  cases k0
  simp_all [bodyPostS, results, Try.results21, putN]
set_option maxHeartbeats 1000000 in
/-- .. where it has not. -/
theorem idle (N E : Nat) (w : World) :
    CallsD Try.prog 21 #[.pointer (some ⟨N, 0, none⟩), .pointer (some ⟨E, 0, none⟩)] .returning w fun e u' w' => e = .returned (.tuple #[]) ∧ u' = .returning ∧ w' = w := by
  refine callsD_of_wpS Try.func21 rfl fun k0 cs hu => ?_
  apply wpS_seq
  apply wpS_region
  simp [wpOpsS, go_sem, recoverD, hu, Try.ntmps21, Exit.thenS]
  refine wpS_of_wp ?_
  go_wp2_with fail
  cases k0
  simp_all [bodyPostS, results, Try.results21]

end Go.Proofs.Ytpnffmimpkimeaa.J7
