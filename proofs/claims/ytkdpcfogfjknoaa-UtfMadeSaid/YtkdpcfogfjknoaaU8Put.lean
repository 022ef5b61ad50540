/-
  utf8.size, utf8.low, utf8.Put return how many bytes a code point has, its lowest byte, its bytes, in new memory; the document's Put too. Condition: the number is an int.
-/
import Derived.Test.YtkdpcfogfjknoaaU8Plain
import Derived.Test.YtkdpcfogfjknoaaKit
import Derived.IntWalk
namespace Go.Proofs.Ytkdpcfogfjknoaa.U8
open Go Go.RowKit Go.Joins Kit

theorem size_any (r : Int) (w : World) :
    Calls Try.prog 19 #[.int .i64 r] w fun e w' => e = .returned (.int .i64 (sizeN r : Nat)) ∧ w = w' := by
  rcases (show r < 0 ∨ (0 ≤ r ∧ 55296 ≤ r ∧ r ≤ 57343) ∨ (1114111 < r) ∨ (0 ≤ r ∧ r < 128) ∨ (128 ≤ r ∧ r < 2048) ∨ (2048 ≤ r ∧ r < 65536 ∧ r < 55296) ∨ (2048 ≤ r ∧ r < 65536 ∧ 57343 < r) ∨ (65536 ≤ r ∧ r ≤ 1114111) by omega) with h | ⟨h, h2, h3⟩ | h | ⟨h, h2⟩ | ⟨h, h2⟩ | ⟨h, h2, h3⟩ | ⟨h, h2, h3⟩ | ⟨h, h2⟩
  · have hs := Lib.hid (show sizeN r = 0 from sizeN_none.2 (by omega))
    go_enter Try.func19, Try.ntmps19
    go_wp2
    go_ret
    exact ⟨ret_int (by rw [hs.out]; rfl), rfl⟩
  · have hs := Lib.hid (show sizeN r = 0 from sizeN_none.2 (by omega))
    go_enter Try.func19, Try.ntmps19
    go_wp2
    go_ret
    exact ⟨ret_int (by rw [hs.out]; rfl), rfl⟩
  · have hs := Lib.hid (show sizeN r = 0 from sizeN_none.2 (by omega))
    go_enter Try.func19, Try.ntmps19
    go_wp2
    go_ret
    exact ⟨ret_int (by rw [hs.out]; rfl), rfl⟩
  · have hs := Lib.hid (show sizeN r = 1 from sizeN_one.2 (by omega))
    go_enter Try.func19, Try.ntmps19
    go_wp2
    go_ret
    exact ⟨ret_int (by rw [hs.out]; rfl), rfl⟩
  · have hs := Lib.hid (show sizeN r = 2 from sizeN_two.2 (by omega))
    go_enter Try.func19, Try.ntmps19
    go_wp2
    go_ret
    exact ⟨ret_int (by rw [hs.out]; rfl), rfl⟩
  · have hs := Lib.hid (show sizeN r = 3 from sizeN_three.2 (by omega))
    go_enter Try.func19, Try.ntmps19
    go_wp2
    go_ret
    exact ⟨ret_int (by rw [hs.out]; rfl), rfl⟩
  · have hs := Lib.hid (show sizeN r = 3 from sizeN_three.2 (by omega))
    go_enter Try.func19, Try.ntmps19
    go_wp2
    go_ret
    exact ⟨ret_int (by rw [hs.out]; rfl), rfl⟩
  · have hs := Lib.hid (show sizeN r = 4 from sizeN_four.2 (by omega))
    go_enter Try.func19, Try.ntmps19
    go_wp2
    go_ret
    exact ⟨ret_int (by rw [hs.out]; rfl), rfl⟩

theorem wraps_i64 (n : Int) (h₀ : 0 ≤ n) (h₁ : n < 2 ^ 62) : IntKind.i64.wrap n = n := by rw [IntKind.wrap_i64]; omega
theorem and63 (r : Int) (h0 : 0 ≤ r) (h1 : r < 4611686018427387904) : bits .and .i64 r 63 = r % 64 := bits_mask .i64 62 (by decide) wraps_i64 6 (by decide) r h0 (by omega)
theorem or6 (x y : Int) (h0 : 0 ≤ x) (h1 : x < 4611686018427387904) (h2 : x % 64 = 0) (h3 : 0 ≤ y) (h4 : y < 64) : bits .or .i64 x y = x + y :=
  bits_join .i64 62 (by decide) wraps_i64 6 x y h0 h2 (by omega) h3 h4 (by omega)

theorem low_any (r : Int) (h0 : 0 ≤ r) (h1 : r ≤ 1114111) (w : World) :
    Calls Try.prog 20 #[.int .i64 r] w fun e w' => e = .returned (.int .u8 (128 + r % 64)) ∧ w = w' := by
  have e1 := and63 r (by omega) (by omega)
  have e2 := u8_or128 (r % 64) (by omega) (by omega)
  have g1 : 0 ≤ r % 64 := by omega
  have g2 : r % 64 ≤ 63 := by omega
  go_enter Try.func20, Try.ntmps20
  go_wp2
  go_ret
  exact ⟨ret_int (by omega), rfl⟩

def putB (r : Int) : ByteArray := ⟨(putL r).toArray⟩
theorem run_bytes (l : List UInt8) (W : World) (g cap : Nat) (h : ∀ (j : Nat) (hj : j < l.length), W.cell? ⟨g, j, none⟩ = some (.int .u8 (l[j].toNat : Int))) :
    (convert 33 9 (.slice (some ⟨g, 0, none⟩) l.length cap)).run Try.prog W = .ok (.string ⟨l.toArray⟩) W :=
  run_convert_bytes_back (P := Try.prog) W 33 9 5 ⟨g, 0, none⟩ cap l Try.underlying33 Try.underlying5 Try.underlying9 (fun j hj => by
    have e : (⟨g, 0, none⟩ : Addr).add j = ⟨g, j, none⟩ := by
      simp [Addr.add]
      omega
    rw [e]
    exact h j hj)
/-- A literal of bytes, as a text. -/
theorem run_lit (l : List UInt8) (cs : Array Value) (W : World) (cap : Nat) (h : cs.toList = Lib.byteCells l) :
    (convert 33 9 (.slice (some ⟨W.heap.size, 0, none⟩) l.length cap)).run Try.prog (W.alloc (.cells cs 5)) = .ok (.string ⟨l.toArray⟩) (W.alloc (.cells cs 5)) :=
  run_bytes l _ _ cap (fun j hj => by
    rw [Lib.cell_of_heap (fresh_block W _ _)]
    rw [← Array.getElem?_toList, h]
    simp [Lib.byteCells, hj])

/-! A literal of some bytes, as a text. -/
theorem run_lit1 (x0 : Int) (a0 : 0 ≤ x0) (c0 : x0 < 256) (W : World) :
    (convert 33 9 (.slice (some ⟨W.heap.size, 0, none⟩) 1 1)).run Try.prog (W.alloc (Obj.cells #[Value.int IntKind.u8 x0] 5)) = .ok (.string ⟨[b8 x0].toArray⟩) (W.alloc (Obj.cells #[Value.int IntKind.u8 x0] 5)) :=
  run_lit [b8 x0] #[Value.int IntKind.u8 x0] W 1 (by simp [Lib.byteCells, b8_toNat a0 c0])
theorem run_lit2 (x0 x1 : Int) (a0 : 0 ≤ x0) (c0 : x0 < 256) (a1 : 0 ≤ x1) (c1 : x1 < 256) (W : World) :
    (convert 33 9 (.slice (some ⟨W.heap.size, 0, none⟩) 2 2)).run Try.prog (W.alloc (Obj.cells #[Value.int IntKind.u8 x0, Value.int IntKind.u8 x1] 5)) = .ok (.string ⟨[b8 x0, b8 x1].toArray⟩) (W.alloc (Obj.cells #[Value.int IntKind.u8 x0, Value.int IntKind.u8 x1] 5)) :=
  run_lit [b8 x0, b8 x1] #[Value.int IntKind.u8 x0, Value.int IntKind.u8 x1] W 2 (by simp [Lib.byteCells, b8_toNat a0 c0, b8_toNat a1 c1])
theorem run_lit3 (x0 x1 x2 : Int) (a0 : 0 ≤ x0) (c0 : x0 < 256) (a1 : 0 ≤ x1) (c1 : x1 < 256) (a2 : 0 ≤ x2) (c2 : x2 < 256) (W : World) :
    (convert 33 9 (.slice (some ⟨W.heap.size, 0, none⟩) 3 3)).run Try.prog (W.alloc (Obj.cells #[Value.int IntKind.u8 x0, Value.int IntKind.u8 x1, Value.int IntKind.u8 x2] 5)) = .ok (.string ⟨[b8 x0, b8 x1, b8 x2].toArray⟩) (W.alloc (Obj.cells #[Value.int IntKind.u8 x0, Value.int IntKind.u8 x1, Value.int IntKind.u8 x2] 5)) :=
  run_lit [b8 x0, b8 x1, b8 x2] #[Value.int IntKind.u8 x0, Value.int IntKind.u8 x1, Value.int IntKind.u8 x2] W 3 (by simp [Lib.byteCells, b8_toNat a0 c0, b8_toNat a1 c1, b8_toNat a2 c2])
theorem run_lit4 (x0 x1 x2 x3 : Int) (a0 : 0 ≤ x0) (c0 : x0 < 256) (a1 : 0 ≤ x1) (c1 : x1 < 256) (a2 : 0 ≤ x2) (c2 : x2 < 256) (a3 : 0 ≤ x3) (c3 : x3 < 256) (W : World) :
    (convert 33 9 (.slice (some ⟨W.heap.size, 0, none⟩) 4 4)).run Try.prog (W.alloc (Obj.cells #[Value.int IntKind.u8 x0, Value.int IntKind.u8 x1, Value.int IntKind.u8 x2, Value.int IntKind.u8 x3] 5)) = .ok (.string ⟨[b8 x0, b8 x1, b8 x2, b8 x3].toArray⟩) (W.alloc (Obj.cells #[Value.int IntKind.u8 x0, Value.int IntKind.u8 x1, Value.int IntKind.u8 x2, Value.int IntKind.u8 x3] 5)) :=
  run_lit [b8 x0, b8 x1, b8 x2, b8 x3] #[Value.int IntKind.u8 x0, Value.int IntKind.u8 x1, Value.int IntKind.u8 x2, Value.int IntKind.u8 x3] W 4 (by simp [Lib.byteCells, b8_toNat a0 c0, b8_toNat a1 c1, b8_toNat a2 c2, b8_toNat a3 c3])
set_option maxHeartbeats 400000 in
theorem put_any (r : Int) (w : World) :
    Calls Try.prog 12 #[.int .i64 r] w fun e w' => e = .returned (.string (putB r)) ∧ Below w.heap.size w w' := by
  rcases sizeN_cases r with h | h | h | h | h
  · have hs := Lib.hid h
    clear h
    go_enter Try.func12, Try.ntmps12
    go_wp2_with fail
    refine (size_any r w).mono ?_
    rintro e w1 ⟨rfl, rfl⟩
    rw [hs.out]
    go_wp2
    go_ret
    exact ⟨ret_string (by rw [putB, putL_none hs.out]), Below.refl _ _⟩
  · have hs := Lib.hid h
    have hr := sizeN_one.1 h
    obtain ⟨r0, r1⟩ := hr
    clear h
    have hc := Lib.hid (run_lit1 r r0 (by omega) w)
    go_enter Try.func12, Try.ntmps12
    go_wp2_with fail
    refine (size_any r w).mono ?_
    rintro e w1 ⟨rfl, rfl⟩
    rw [hs.out]
    have hcc := hc.out
    go_wp2
    go_ret
    exact ⟨ret_string (by rw [putB, putL_one hs.out]), (Below.refl _ w).alloc (Nat.le_refl _) _⟩
  · have hs := Lib.hid h
    have hr := sizeN_two.1 h
    have r0 : 0 ≤ r := by omega
    have r1 : r ≤ 1114111 := by omega
    have e1 := u8_or192 (r / 64) (by omega) (by omega)
    have q0 : 0 ≤ r / 64 := by omega
    have q1 : r / 64 ≤ 255 := by omega
    have hc := Lib.hid (run_lit2 (192 + r / 64) (128 + r % 64) (by omega) (by omega) (by omega) (by omega))
    clear h hr
    go_enter Try.func12, Try.ntmps12
    go_wp2_with fail
    refine (size_any r w).mono ?_
    rintro e w1 ⟨rfl, rfl⟩
    rw [hs.out]
    go_wp2_with fail
    refine (low_any r (by omega) (by omega) w).mono ?_
    rintro e w1 ⟨rfl, rfl⟩
    have hcc := hc.out w
    go_wp2
    go_ret
    exact ⟨ret_string (by rw [putB, putL_two hs.out]), (Below.refl _ w).alloc (Nat.le_refl _) _⟩
  · have hs := Lib.hid h
    have hr := sizeN_three.1 h
    have r0 : 0 ≤ r := by omega
    have r1 : r ≤ 1114111 := by omega
    have e1 := u8_or224 (r / 4096) (by omega) (by omega)
    have q0 : 0 ≤ r / 4096 := by omega
    have q1 : r / 4096 ≤ 255 := by omega
    have hc := Lib.hid (run_lit3 (224 + r / 4096) (128 + r / 64 % 64) (128 + r % 64) (by omega) (by omega) (by omega) (by omega) (by omega) (by omega))
    clear h hr
    go_enter Try.func12, Try.ntmps12
    go_wp2_with fail
    refine (size_any r w).mono ?_
    rintro e w1 ⟨rfl, rfl⟩
    rw [hs.out]
    go_wp2_with fail
    refine (low_any (r / 64) (by omega) (by omega) w).mono ?_
    rintro e w1 ⟨rfl, rfl⟩
    go_wp2_with fail
    refine (low_any r (by omega) (by omega) w).mono ?_
    rintro e w1 ⟨rfl, rfl⟩
    have hcc := hc.out w
    go_wp2
    go_ret
    exact ⟨ret_string (by rw [putB, putL_three hs.out]), (Below.refl _ w).alloc (Nat.le_refl _) _⟩
  · have hs := Lib.hid h
    have hr := sizeN_four.1 h
    have r0 : 0 ≤ r := by omega
    have r1 : r ≤ 1114111 := by omega
    have e1 := u8_or240 (r / 262144) (by omega) (by omega)
    have q0 : 0 ≤ r / 262144 := by omega
    have q1 : r / 262144 ≤ 255 := by omega
    have hc := Lib.hid (run_lit4 (240 + r / 262144) (128 + r / 4096 % 64) (128 + r / 64 % 64) (128 + r % 64) (by omega) (by omega) (by omega) (by omega) (by omega) (by omega) (by omega) (by omega))
    clear h hr
    go_enter Try.func12, Try.ntmps12
    go_wp2_with fail
    refine (size_any r w).mono ?_
    rintro e w1 ⟨rfl, rfl⟩
    rw [hs.out]
    go_wp2_with fail
    refine (low_any (r / 4096) (by omega) (by omega) w).mono ?_
    rintro e w1 ⟨rfl, rfl⟩
    go_wp2_with fail
    refine (low_any (r / 64) (by omega) (by omega) w).mono ?_
    rintro e w1 ⟨rfl, rfl⟩
    go_wp2_with fail
    refine (low_any r (by omega) (by omega) w).mono ?_
    rintro e w1 ⟨rfl, rfl⟩
    have hcc := hc.out w
    go_wp2
    go_ret
    exact ⟨ret_string (by rw [putB, putL_four hs.out]), (Below.refl _ w).alloc (Nat.le_refl _) _⟩
end Go.Proofs.Ytkdpcfogfjknoaa.U8
