/-
  The document's answer, as the statements have it: Digits returns the decimal digits, in new memory. Condition: the number is an int.
-/
import Derived.Test.YtoofcclcimkipaaDoorDigs
import Derived.IntWalk
import Derived.Deep.RegionWith
namespace Go.Proofs.YtoofcclcimkipaaDoor.Rf
open Go Go.RowKit Go.Joins Kit Dg

set_option maxHeartbeats 1000000 in
theorem digits_small (n : Int) (h0 : -9223372036854775808 ≤ n) (h1 : n < 10) (w : World) :
    Calls Tryd.prog 16 #[.int .i64 n] w fun e w' => e = .returned (.string (digs n)) ∧ Below w.heap.size w w' := by
  obtain ⟨m, hm⟩ : ∃ m : Int, max n 0 = m := ⟨_, rfl⟩
  have hm0 : 0 ≤ m := by omega
  have hm1 : m < 10 := by omega
  have hone := run_oneB (48 + m) (by omega) (by omega) w
  have hd : Hid (oneB (48 + m) = digs n) := by
    show _ = _
    by_cases h : n ≤ 0
    · rw [digs_low h, show m = 0 by omega]; rfl
    · rw [digs_one (by omega) h1, show n % 10 = m by omega]
  go_enter Tryd.func16, Tryd.ntmps16
  go_wp2_with fail
  go_ret
  exact ⟨ret_string hd.out, (Below.refl _ w).alloc (Nat.le_refl _) _⟩

set_option maxHeartbeats 200000 in
theorem digits_any : ∀ (f : Nat) (n : Int) (_ : n.toNat < f) (_ : -9223372036854775808 ≤ n) (_ : n ≤ 9223372036854775807) (w : World),
    Calls Tryd.prog 16 #[.int .i64 n] w fun e w' => e = .returned (.string (digs n)) ∧ Below w.heap.size w w' := by
  intro f
  induction f with
  | zero => intro n hf; omega
  | succ f ih =>
    intro n hf h0 h1 w
    by_cases hn : n < 10
    · exact digits_small n h0 hn w
    · have IH := Lib.hid (ih (n / 10) (by omega) (by omega) (by omega))
      clear ih
      have hmod : 0 ≤ n % 10 ∧ n % 10 < 10 := by omega
      obtain ⟨m0, m1⟩ := hmod
      have hconv := run_byte (48 + n % 10) (by omega) (by omega)
      have hm := Lib.hid (digs_more (n := n) (by omega))
      have hs1 := digs_short (n := n / 10) (by omega)
      have hs2 : (oneB (48 + n % 10)).size ≤ 1 := by rw [oneB_size]; omega
      go_enter Tryd.func16, Tryd.ntmps16
      go_wp2_with fail
      have eq : IntKind.i64.wrap (n.tdiv 10) = n / 10 := IntWalk.i64_quo _ _ (by omega)
      have er : n.tmod 10 = n % 10 := IntWalk.rem_in _ _ (by omega)
      have er' : IntKind.i64.wrap (n % 10) = n % 10 := IntWalk.i64_in _ (by omega)
      have ea : IntKind.i64.wrap (48 + n % 10) = 48 + n % 10 := IntWalk.i64_in _ (by omega)
      have eu : IntKind.u8.wrap (48 + n % 10) = 48 + n % 10 := IntWalk.u8_in _ (by omega)
      go_region_with ((go_at_call 16; refine (IH.out _).mono ?_; rintro e w' ⟨rfl, hb⟩; try (have hcell := hb.cell (p := ⟨w.heap.size, 0, none⟩) (lt_alloc w _))))
      all_goals
        go_wp2
        go_ret
        refine ⟨ret_string hm.out.symm, ?_⟩
        first
          | exact (below_first hb).alloc (below_first hb).size _
          | exact below_later hb

theorem digits_call (n : Int) (h0 : -9223372036854775808 ≤ n) (h1 : n ≤ 9223372036854775807) (w : World) :
    Calls Tryd.prog 16 #[.int .i64 n] w fun e w' => e = .returned (.string (digs n)) ∧ Below w.heap.size w w' :=
  digits_any (n.toNat + 1) n (by omega) h0 h1 w
end Go.Proofs.YtoofcclcimkipaaDoor.Rf
