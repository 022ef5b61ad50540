/-
  The document's answer for package text, as the statements have it: Digits returns the decimal digits, in new memory. Condition: the number is an int.
-/
import Derived.Test.YtjhhaepmlllfaaaDoorR1In
import Derived.Deep.RegionWith
namespace Go.Proofs.YtjhhaepmlllfaaaDoor.R1
open Go Go.RowKit Go.Joins Tx

theorem lt_alloc (w : World) (o : Obj) : w.heap.size < (w.alloc o).heap.size := by simp
theorem below_first {w w' : World} (hb : Below w.drew.heap.size w.drew w') : Below w.heap.size w w' := ((Below.refl _ w).drew).trans hb
theorem below_later {w w' : World} {o : Obj} (hb : Below (w.alloc o).drew.heap.size (w.alloc o).drew w') : Below w.heap.size w w' :=
  (((Below.refl _ w).alloc (Nat.le_refl _) o).drew).trans (hb.mono (by show w.heap.size ≤ (w.alloc o).heap.size; simp))
theorem ret_string {a b : ByteArray} (h : a = b) : Ending.returned (.string a) = .returned (.string b) := by rw [h]

set_option maxHeartbeats 1000000 in
theorem digits_small (n : Int) (h0 : -9223372036854775808 ≤ n) (h1 : n < 10) (w : World) :
    Calls Tryd.prog 17 #[.int .i64 n] w fun e w' => e = .returned (.string (digs n)) ∧ Below w.heap.size w w' := by
  obtain ⟨m, hm⟩ : ∃ m : Int, max n 0 = m := ⟨_, rfl⟩
  have hm0 : 0 ≤ m := by omega
  have hm1 : m < 10 := by omega
  have hone := run_oneB (48 + m) (by omega) (by omega) w
  have hd : Hid (oneB (48 + m) = digs n) := by
    show _ = _
    by_cases h : n ≤ 0
    · rw [digs_low h, show m = 0 by omega]; rfl
    · rw [digs_one (by omega) h1, show n % 10 = m by omega]
  go_enter Tryd.func17, Tryd.ntmps17
  go_wp2_with fail
  go_ret
  exact ⟨ret_string hd.out, (Below.refl _ w).alloc (Nat.le_refl _) _⟩

theorem run_byte (x : Int) (h0 : 0 ≤ x) (h1 : x < 256) (W : World) (g : Nat) (h : W.cell? ⟨g, 0, none⟩ = some (.int .u8 x)) :
    (convert 33 9 (.slice (some ⟨g, 0, none⟩) 1 1)).run Tryd.prog W = .ok (.string (oneB x)) W := by
  refine run_convert_bytes_back (P := Tryd.prog) _ 33 9 5 ⟨g, 0, none⟩ 1 [UInt8.ofNat x.toNat] Tryd.underlying33 Tryd.underlying5 Tryd.underlying9 ?_
  intro j hj
  have hj0 : j = 0 := by simpa using hj
  subst hj0
  have e : ((UInt8.ofNat x.toNat).toNat : Int) = x := by simp; omega
  simp only [List.getElem_cons_zero, e]
  exact h

set_option maxHeartbeats 200000 in
theorem digits_any : ∀ (f : Nat) (n : Int) (_ : n.toNat < f) (_ : -9223372036854775808 ≤ n) (_ : n ≤ 9223372036854775807) (w : World),
    Calls Tryd.prog 17 #[.int .i64 n] w fun e w' => e = .returned (.string (digs n)) ∧ Below w.heap.size w w' := by
  intro f
  induction f with
  | zero => intro n hf; omega
  | succ f ih =>
    intro n hf h0 h1 w
    by_cases hn : n < 10
    · exact digits_small n h0 hn w
    · have IH := Lib.hid (ih (n / 10) (by omega) (by omega) (by omega))
      clear ih
      have hmod : 0 ≤ n % 10 ∧ n % 10 < 10 := by omega
      obtain ⟨m0, m1⟩ := hmod
      have hconv := run_byte (48 + n % 10) (by omega) (by omega)
      have hm := Lib.hid (digs_more (n := n) (by omega))
      have hs1 := digs_short (n := n / 10) (by omega)
      have hs2 : (oneB (48 + n % 10)).size ≤ 1 := by rw [oneB_size]; omega
      go_enter Tryd.func17, Tryd.ntmps17
      go_wp2_with fail
      have eq : IntKind.i64.wrap (n.tdiv 10) = n / 10 := IntWalk.i64_quo _ _ (by omega)
      have er : n.tmod 10 = n % 10 := IntWalk.rem_in _ _ (by omega)
      have er' : IntKind.i64.wrap (n % 10) = n % 10 := IntWalk.i64_in _ (by omega)
      have ea : IntKind.i64.wrap (48 + n % 10) = 48 + n % 10 := IntWalk.i64_in _ (by omega)
      have eu : IntKind.u8.wrap (48 + n % 10) = 48 + n % 10 := IntWalk.u8_in _ (by omega)
      go_region_with ((go_at_call 17; refine (IH.out _).mono ?_; rintro e w' ⟨rfl, hb⟩; try (have hcell := hb.cell (p := ⟨w.heap.size, 0, none⟩) (lt_alloc w _))))
      all_goals
        go_wp2
        go_ret
        refine ⟨ret_string hm.out.symm, ?_⟩
        first
          | exact (below_first hb).alloc (below_first hb).size _
          | exact below_later hb

theorem digits_call (n : Int) (h0 : -9223372036854775808 ≤ n) (h1 : n ≤ 9223372036854775807) (w : World) :
    Calls Tryd.prog 17 #[.int .i64 n] w fun e w' => e = .returned (.string (digs n)) ∧ Below w.heap.size w w' :=
  digits_any (n.toNat + 1) n (by omega) h0 h1 w
end Go.Proofs.YtjhhaepmlllfaaaDoor.R1
