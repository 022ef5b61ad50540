/-
  Small facts for walks over code points: bits at int, literals of bytes as texts, what stands at a place of a text. No law and no function of the project in this text. Conditions: none.
-/
import Derived.Test.YtnnbbjdidbggmaaGreatDoorU8Plain
import Derived.Test.YtnnbbjdidbggmaaGreatDoorKit
import Derived.IntWalk
namespace Go.Proofs.YtnnbbjdidbggmaaGreatDoor.U8
open Go Go.RowKit Go.Joins Kit

theorem wraps_i64 (n : Int) (h₀ : 0 ≤ n) (h₁ : n < 2 ^ 62) : IntKind.i64.wrap n = n := by rw [IntKind.wrap_i64]; omega
theorem and63 (r : Int) (h0 : 0 ≤ r) (h1 : r < 4611686018427387904) : bits .and .i64 r 63 = r % 64 := bits_mask .i64 62 (by decide) wraps_i64 6 (by decide) r h0 (by omega)
theorem or6 (x y : Int) (h0 : 0 ≤ x) (h1 : x < 4611686018427387904) (h2 : x % 64 = 0) (h3 : 0 ≤ y) (h4 : y < 64) : bits .or .i64 x y = x + y :=
  bits_join .i64 62 (by decide) wraps_i64 6 x y h0 h2 (by omega) h3 h4 (by omega)
def putB (r : Int) : ByteArray := ⟨(putL r).toArray⟩
theorem run_bytes (l : List UInt8) (W : World) (g cap : Nat) (h : ∀ (j : Nat) (hj : j < l.length), W.cell? ⟨g, j, none⟩ = some (.int .u8 (l[j].toNat : Int))) :
    (convert 32 9 (.slice (some ⟨g, 0, none⟩) l.length cap)).run Tryz.prog W = .ok (.string ⟨l.toArray⟩) W :=
  run_convert_bytes_back (P := Tryz.prog) W 32 9 5 ⟨g, 0, none⟩ cap l Tryz.underlying32 Tryz.underlying5 Tryz.underlying9 (fun j hj => by
    have e : (⟨g, 0, none⟩ : Addr).add j = ⟨g, j, none⟩ := by
      simp [Addr.add]
      omega
    rw [e]
    exact h j hj)
/-- A literal of bytes, as a text. -/
theorem run_lit (l : List UInt8) (cs : Array Value) (W : World) (cap : Nat) (h : cs.toList = Lib.byteCells l) :
    (convert 32 9 (.slice (some ⟨W.heap.size, 0, none⟩) l.length cap)).run Tryz.prog (W.alloc (.cells cs 5)) = .ok (.string ⟨l.toArray⟩) (W.alloc (.cells cs 5)) :=
  run_bytes l _ _ cap (fun j hj => by
    rw [Lib.cell_of_heap (fresh_block W _ _)]
    rw [← Array.getElem?_toList, h]
    simp [Lib.byteCells, hj])
/-! A literal of some bytes, as a text. -/
theorem run_lit1 (x0 : Int) (a0 : 0 ≤ x0) (c0 : x0 < 256) (W : World) :
    (convert 32 9 (.slice (some ⟨W.heap.size, 0, none⟩) 1 1)).run Tryz.prog (W.alloc (Obj.cells #[Value.int IntKind.u8 x0] 5)) = .ok (.string ⟨[b8 x0].toArray⟩) (W.alloc (Obj.cells #[Value.int IntKind.u8 x0] 5)) :=
  run_lit [b8 x0] #[Value.int IntKind.u8 x0] W 1 (by simp [Lib.byteCells, b8_toNat a0 c0])
theorem run_lit2 (x0 x1 : Int) (a0 : 0 ≤ x0) (c0 : x0 < 256) (a1 : 0 ≤ x1) (c1 : x1 < 256) (W : World) :
    (convert 32 9 (.slice (some ⟨W.heap.size, 0, none⟩) 2 2)).run Tryz.prog (W.alloc (Obj.cells #[Value.int IntKind.u8 x0, Value.int IntKind.u8 x1] 5)) = .ok (.string ⟨[b8 x0, b8 x1].toArray⟩) (W.alloc (Obj.cells #[Value.int IntKind.u8 x0, Value.int IntKind.u8 x1] 5)) :=
  run_lit [b8 x0, b8 x1] #[Value.int IntKind.u8 x0, Value.int IntKind.u8 x1] W 2 (by simp [Lib.byteCells, b8_toNat a0 c0, b8_toNat a1 c1])
theorem run_lit3 (x0 x1 x2 : Int) (a0 : 0 ≤ x0) (c0 : x0 < 256) (a1 : 0 ≤ x1) (c1 : x1 < 256) (a2 : 0 ≤ x2) (c2 : x2 < 256) (W : World) :
    (convert 32 9 (.slice (some ⟨W.heap.size, 0, none⟩) 3 3)).run Tryz.prog (W.alloc (Obj.cells #[Value.int IntKind.u8 x0, Value.int IntKind.u8 x1, Value.int IntKind.u8 x2] 5)) = .ok (.string ⟨[b8 x0, b8 x1, b8 x2].toArray⟩) (W.alloc (Obj.cells #[Value.int IntKind.u8 x0, Value.int IntKind.u8 x1, Value.int IntKind.u8 x2] 5)) :=
  run_lit [b8 x0, b8 x1, b8 x2] #[Value.int IntKind.u8 x0, Value.int IntKind.u8 x1, Value.int IntKind.u8 x2] W 3 (by simp [Lib.byteCells, b8_toNat a0 c0, b8_toNat a1 c1, b8_toNat a2 c2])
theorem run_lit4 (x0 x1 x2 x3 : Int) (a0 : 0 ≤ x0) (c0 : x0 < 256) (a1 : 0 ≤ x1) (c1 : x1 < 256) (a2 : 0 ≤ x2) (c2 : x2 < 256) (a3 : 0 ≤ x3) (c3 : x3 < 256) (W : World) :
    (convert 32 9 (.slice (some ⟨W.heap.size, 0, none⟩) 4 4)).run Tryz.prog (W.alloc (Obj.cells #[Value.int IntKind.u8 x0, Value.int IntKind.u8 x1, Value.int IntKind.u8 x2, Value.int IntKind.u8 x3] 5)) = .ok (.string ⟨[b8 x0, b8 x1, b8 x2, b8 x3].toArray⟩) (W.alloc (Obj.cells #[Value.int IntKind.u8 x0, Value.int IntKind.u8 x1, Value.int IntKind.u8 x2, Value.int IntKind.u8 x3] 5)) :=
  run_lit [b8 x0, b8 x1, b8 x2, b8 x3] #[Value.int IntKind.u8 x0, Value.int IntKind.u8 x1, Value.int IntKind.u8 x2, Value.int IntKind.u8 x3] W 4 (by simp [Lib.byteCells, b8_toNat a0 c0, b8_toNat a1 c1, b8_toNat a2 c2, b8_toNat a3 c3])
theorem ret_two {a b c d : Int} (h : a = b) (h' : c = d) : Ending.returned (.tuple #[.int .i64 a, .int .i64 c]) = .returned (.tuple #[.int .i64 b, .int .i64 d]) := by rw [h, h']
/-- What Get hands back. -/
def getV (d : Option (Nat × Nat)) (p : Int) : Value := match d with
  | none => .tuple #[.int .i64 (-1), .int .i64 p]
  | some (r, n) => .tuple #[.int .i64 (r : Int), .int .i64 (p + n)]
theorem getV_none {d : Option (Nat × Nat)} {p : Int} (h : d = none) : Ending.returned (.tuple #[.int .i64 (-1), .int .i64 p]) = Ending.returned (getV d p) := by rw [h]; rfl
theorem getV_some {d : Option (Nat × Nat)} {p x y : Int} {r n : Nat} (h : d = some (r, n)) (hx : x = r) (hy : y = p + n) : Ending.returned (.tuple #[.int .i64 x, .int .i64 y]) = Ending.returned (getV d p) := by rw [h, hx, hy]; rfl
/-- What stands from a place on. -/
def fromL (s : ByteArray) (p : Int) : List UInt8 := if 0 ≤ p then s.data.toList.drop p.toNat else []
theorem fromL_nat (s : ByteArray) (a : Nat) : fromL s (a : Int) = s.data.toList.drop a := by unfold fromL; rw [if_pos (by omega)]; rfl
theorem fromL_out {s : ByteArray} {p : Int} (h : p < 0 ∨ (s.size : Int) ≤ p) : fromL s p = [] := by
  unfold fromL
  split
  · exact List.drop_of_length_le (by rw [← Lib.size_eq]; omega)
  · rfl
theorem drop_cons (s : ByteArray) (a : Nat) (h : a < s.size) : s.data.toList.drop a = s[a] :: s.data.toList.drop (a + 1) := by
  rw [List.drop_eq_getElem_cons (by rw [← Lib.size_eq]; exact h), byte_get s a h]
theorem decL_at (s : ByteArray) (a : Nat) (h : a < s.size) : decL (s.data.toList.drop a) = if firstN s[a].toNat = 0 ∨ s.size - a < firstN s[a].toNat then none else decT (firstN s[a].toNat) (accT (firstB s[a].toNat) ((s.data.toList.drop (a + 1)).take (firstN s[a].toNat - 1))) := by
  rw [drop_cons s a h, decL]
  rw [List.length_drop, ← Lib.size_eq, show s.size - (a + 1) + 1 = s.size - a by omega]
theorem pow64 {d : Nat} (h : d ≤ 3) : 128 * 64 ^ d ≤ 33554432 := by
  rcases (show d = 0 ∨ d = 1 ∨ d = 2 ∨ d = 3 by omega) with rfl | rfl | rfl | rfl <;> decide
theorem pow_next {m x d e : Nat} (h : m < 128 * 64 ^ d) (hx : x < 64) (he : e = d + 1) : m * 64 + x < 128 * 64 ^ e := by
  subst he
  rw [Nat.pow_succ]
  omega
theorem accT_step (s : ByteArray) (j k m : Nat) (h : j < s.size) : accT m ((s.data.toList.drop j).take (k + 1)) = if 128 ≤ s[j].toNat ∧ s[j].toNat < 192 then accT (m * 64 + (s[j].toNat - 128)) ((s.data.toList.drop (j + 1)).take k) else none := by
  rw [drop_cons s j h, List.take_succ_cons, accT]
theorem decL_room {s : ByteArray} {a r n : Nat} (h : decL (s.data.toList.drop a) = some (r, n)) : 1 ≤ n ∧ a + n ≤ s.size := by
  obtain ⟨_, h2, h3, _⟩ := decL_some h
  rw [List.length_drop, ← Lib.size_eq] at h3
  omega
theorem drop_ne {s : ByteArray} {a : Nat} (h : a < s.size) : s.data.toList.drop a ≠ [] := by
  intro e
  have := congrArg List.length e
  rw [List.length_drop, ← Lib.size_eq] at this
  simp at this
  omega
theorem drop_end {s : ByteArray} {a : Nat} (h : s.size ≤ a) : s.data.toList.drop a = [] := List.drop_of_length_le (by rw [← Lib.size_eq]; exact h)
def cutB (s : ByteArray) (n : Nat) : ByteArray := ⟨(s.data.toList.take (cutN n s.data.toList)).toArray⟩
theorem extract_take (s : ByteArray) (a : Nat) : s.extract 0 a = ⟨(s.data.toList.take a).toArray⟩ := by
  apply Kit.bytes_ext
  simp
end Go.Proofs.YtnnbbjdidbggmaaGreatDoor.U8
