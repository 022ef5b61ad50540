/-
  The law TextDigits returns true: a number's digits are those of the number without its last, and its last. Condition: the number is a uint64; the library's table reads as the program's text lays it.
-/
import Derived.Test.YtjhhaepmlllfaaaDoorTxWithin
namespace Go.Proofs.YtjhhaepmlllfaaaDoor.Tx
open Go Go.RowKit Go.Joins

/-- A text of one byte. -/
def oneB (x : Int) : ByteArray := ⟨#[UInt8.ofNat x.toNat]⟩
theorem run_oneB (x : Int) (h0 : 0 ≤ x) (h1 : x < 256) (W : World) :
    (convert 33 9 (.slice (some ⟨W.heap.size, 0, none⟩) 1 1)).run Tryd.prog (W.alloc (Obj.cells #[Value.int IntKind.u8 x] 5)) = .ok (.string (oneB x)) (W.alloc (Obj.cells #[Value.int IntKind.u8 x] 5)) := by
  refine run_convert_bytes_back (P := Tryd.prog) _ 33 9 5 ⟨W.heap.size, 0, none⟩ 1 [UInt8.ofNat x.toNat] Tryd.underlying33 Tryd.underlying5 Tryd.underlying9 ?_
  intro j hj
  have hj0 : j = 0 := by simpa using hj
  subst hj0
  have e : ((UInt8.ofNat x.toNat).toNat : Int) = x := by simp; omega
  simp only [List.getElem_cons_zero, e]
  rw [show (⟨W.heap.size, 0, none⟩ : Addr).add 0 = ⟨W.heap.size, 0, none⟩ from rfl, Lib.cell_of_heap (fresh_block W _ _)]
  rfl

def digs (n : Int) : ByteArray := ⟨(Lib.decDigits n.toNat).toArray⟩
theorem digs_call (n : Int) (h0 : -9223372036854775808 ≤ n) (h1 : n ≤ 9223372036854775807) (w : World) (hE : Env w) :
    Calls Tryd.prog 16 #[.int .i64 n] w fun e w' => e = .returned (.string (digs n)) ∧ Below w.heap.size w w' := digits_any n h0 h1 w hE
theorem digs_low {n : Int} (h : n ≤ 0) : digs n = ⟨#[48]⟩ := by
  unfold digs
  rw [show n.toNat = 0 by omega, Lib.decDigits_one (by decide)]
  rfl
theorem digs_one {n : Int} (h0 : 0 ≤ n) (h : n < 10) : digs n = oneB (48 + n % 10) := by
  unfold digs oneB
  rw [Lib.decDigits_one (by omega), show (48 + n % 10).toNat = 48 + n.toNat by omega]
theorem digs_more {n : Int} (h : 10 ≤ n) : digs n = digs (n / 10) ++ oneB (48 + n % 10) := by
  refine bytes_ext ?_
  rw [data_append]
  unfold digs oneB
  rw [Lib.decDigits, dif_neg (by omega), show n.toNat / 10 = (n / 10).toNat by omega, show 48 + n.toNat % 10 = (48 + n % 10).toNat by omega]
theorem digs_short {n : Int} (h : n ≤ 9223372036854775807) : (digs n).size ≤ 19 := by
  rw [Lib.size_eq]
  unfold digs
  rw [Lib.decDigits_length]
  exact nDigits_le (k := 18) (by omega)
theorem oneB_size (x : Int) : (oneB x).size = 1 := rfl

set_option maxHeartbeats 1000000 in
set_option maxRecDepth 100000 in
theorem textDigits_walk (n : Int) (h0 : 0 ≤ n) (h1 : n ≤ 18446744073709551615) (w : World) (hE : Env w) :
    Calls Tryd.prog 10 #[.int .u64 n] w fun e w' => e = .returned (.bool true) ∧ Below w.heap.size w w' := by
  have hone := run_oneB (48 + n / 2 % 10) (by omega) (by omega) w
  have hb0 : Below w.heap.size w (w.alloc (Obj.cells #[Value.int IntKind.u8 (48 + n / 2 % 10)] 5)) := (Below.refl _ w).alloc (Nat.le_refl _) _
  by_cases hk : n / 2 < 10
  · go_enter Tryd.func10, Tryd.ntmps10
    go_wp2_with fail
    refine (digs_call (n / 2) (by omega) (by omega) _ (hE.next hb0)).mono ?_
    rintro e w1 ⟨rfl, hb1⟩
    replace hb1 := hb0.trans (hb1.mono hb0.size)
    rw [digs_one (by omega) hk]
    go_wp2_with fail
    refine (digs_call _ (by omega) (by omega) _ (hE.next hb1)).mono ?_
    rintro e w2 ⟨rfl, hb2⟩
    replace hb2 := hb1.trans (hb2.mono hb1.size)
    rw [digs_low (by omega)]
    go_wp2_with fail
    refine (awake_tail w w2 hE hb2).mono ?_
    rintro e w3 ⟨rfl, hb3⟩
    go_wp2
    go_ret
    exact ⟨rfl, hb3⟩
  · have hm := Lib.hid (digs_more (n := n / 2) (by omega))
    have hs1 := digs_short (n := n / 2 / 10) (by omega)
    have hs2 := oneB_size (48 + n / 2 % 10)
    go_enter Tryd.func10, Tryd.ntmps10
    go_wp2_with fail
    refine (digs_call (n / 2) (by omega) (by omega) _ (hE.next hb0)).mono ?_
    rintro e w1 ⟨rfl, hb1⟩
    replace hb1 := hb0.trans (hb1.mono hb0.size)
    rw [hm.out]
    go_wp2_with fail
    refine (digs_call (n / 2 / 10) (by omega) (by omega) _ (hE.next hb1)).mono ?_
    rintro e w2 ⟨rfl, hb2⟩
    replace hb2 := hb1.trans (hb2.mono hb1.size)
    go_wp2_with fail
    refine (digs_call _ (by omega) (by omega) _ (hE.next hb2)).mono ?_
    rintro e w3 ⟨rfl, hb3⟩
    replace hb3 := hb2.trans (hb3.mono hb2.size)
    rw [digs_low (by omega)]
    go_wp2_with fail
    refine (awake_tail w w3 hE hb3).mono ?_
    rintro e w4 ⟨rfl, hb4⟩
    go_wp2
    go_ret
    exact ⟨rfl, hb4⟩
end Go.Proofs.YtjhhaepmlllfaaaDoor.Tx
