/-
  The laws' own functions on lists of texts: great, same, has. Conditions: the lists read as texts.
-/
import Derived.Test.YtggnkpbadfabcaaFgOnce
import Derived.Test.YtggnkpbadfabcaaFgAwake
import Derived.Deep.LoopGhost
import Derived.BigQuiet
import Derived.WalkSmall
namespace Go.Proofs.Ytggnkpbadfabcaa.Fg
open Go Go.RowKit Go.Joins Kit

theorem TsAt.cell {n0 : Nat} {W W' : World} {A : Option Addr} {zs : List Tl} (h : TsAt n0 W A zs) (hb : Below n0 W W') (k : Nat) (hk : k < zs.length) : ∃ g o, A = some ⟨g, o, none⟩ ∧ W'.cell? ⟨g, o + k, none⟩ = some (.string ⟨zs[k].toArray⟩) := by
  obtain ⟨g, o, h1, h2, h3⟩ := h k hk
  rw [show zs[k]?.getD [] = zs[k] by simp [hk]] at h3
  exact ⟨g, o, h1, (hb.cell (p := ⟨g, o + k, none⟩) h2).trans h3⟩
theorem RowT.ts {B : Nat} {a : Option Addr} {n cap : Nat} {zs : List Tl} {w : World} (h : RowT B (.slice a n cap) zs w) : TsAt w.heap.size w a zs := fun j hj => by
  obtain ⟨g, h1, h2, h3⟩ := h.at j hj
  exact ⟨g, 0, h1, h2, by rw [Nat.zero_add, h3]; simp [hj]⟩
theorem TsAt.up {n0 n1 : Nat} {W : World} {A : Option Addr} {zs : List Tl} (h : TsAt n0 W A zs) (hn : n0 ≤ n1) : TsAt n1 W A zs := fun j hj => by
  obtain ⟨g, o, h1, h2, h3⟩ := h j hj
  exact ⟨g, o, h1, by omega, h3⟩
/-- Where nothing below has turned. -/
theorem TsAt.next {W W' : World} {A : Option Addr} {zs : List Tl} (h : TsAt W.heap.size W A zs) (hb : Below W.heap.size W W') : TsAt W'.heap.size W' A zs := (h.below hb).up hb.size

def greatL (zs : List Tl) : Bool := decide (100 < zs.length) || (zs.take 100).any (fun z => decide (300 < z.length))
theorem great_no {zs : List Tl} (h : greatL zs = false) : zs.length ≤ 100 ∧ ∀ z ∈ zs, z.length ≤ 300 := by
  unfold greatL at h
  rw [Bool.or_eq_false_iff, decide_eq_false_iff_not] at h
  refine ⟨by omega, fun z hz => ?_⟩
  rw [List.take_of_length_le (by omega)] at h
  have := List.any_eq_false.1 h.2 z hz
  simpa using this
set_option maxHeartbeats 1000000 in
set_option maxRecDepth 100000 in
theorem great_any (A : Option Addr) (c : Nat) (zs : List Tl) (w : World) (hA : TsAt w.heap.size w A zs) (hl : zs.length ≤ 9223372036854775807) (hz : ∀ z ∈ zs, z.length ≤ 9223372036854775807) :
    Calls Try.prog 8 #[.slice A zs.length c] w fun e w' => e = .returned (.bool (greatL zs)) ∧ w' = w := by
  have HA := Lib.hid hA
  have HZ := Lib.hid hz
  have HGR : Hid (greatL zs = (decide (100 < zs.length) || (zs.take 100).any (fun z => decide (300 < z.length)))) := Lib.hid rfl
  clear hA hz
  have hl2 : (zs.length : Int) ≤ 9223372036854775807 := by omega
  obtain ⟨N, hN⟩ : ∃ N, zs.length = N := ⟨_, rfl⟩
  rw [hN] at hl2
  rw [hN]
  have HN := Lib.hid hN
  clear hN hl
  go_enter Try.func8, Try.ntmps8
  go_wp2_with fail
  go_loopw [3] (fun i wr => ∃ k : Nat, k ≤ N ∧ k ≤ 100 ∧ i = .int .i64 (k : Int) ∧ Hid ((zs.take k).any (fun z => decide (300 < z.length)) = false) ∧ wr = w) (fun i _ => 100 - (intOf i).toNat)
  case atStart => exact ⟨0, Nat.zero_le _, by omega, rfl, Lib.hid rfl, rfl⟩
  case round =>
    obtain ⟨k, hk, hk1, rfl, hno, rfl⟩ := hrel
    by_cases hlt : k < N ∧ k < 100
    · obtain ⟨h1, h2⟩ := hlt
      have g1 : (k : Int) < (N : Int) := by omega
      have g2 : (k : Int) < 100 := by omega
      have hkl : k < zs.length := by rw [HN.out]; exact h1
      obtain ⟨g, o, rfl, hc⟩ := HA.out.cell (Below.refl _ _) k hkl
      have HST : Hid ((zs.take (k + 1)).any (fun z => decide (300 < z.length)) = decide (300 < zs[k].length)) := Lib.hid (by
        rw [List.take_succ_eq_append_getElem hkl, List.any_append, hno.out]
        simp)
      have hzk := HZ.out zs[k] (List.getElem_mem hkl)
      have HYES : Hid (300 < zs[k].length → greatL zs = true) := Lib.hid (fun h => by
        rw [HGR.out, Bool.or_eq_true]
        refine Or.inr (List.any_eq_true.2 ⟨zs[k], ?_, decide_eq_true h⟩)
        rw [List.mem_take_iff_getElem]
        exact ⟨k, by omega, rfl⟩)
      obtain ⟨z, hzz⟩ : ∃ z, zs[k] = z := ⟨_, rfl⟩
      rw [hzz] at hc HST HYES hzk
      have hzs : (⟨z.toArray⟩ : ByteArray).size = z.length := Lib.size_mk _
      obtain ⟨Z, hZ⟩ : ∃ Z : ByteArray, (⟨z.toArray⟩ : ByteArray) = Z := ⟨_, rfl⟩
      rw [hZ] at hc hzs
      rw [← hzs] at HST HYES hzk
      clear hzz hZ hzs hkl
      by_cases h3 : 300 < Z.size
      · have g3 : (300 : Int) < (Z.size : Int) := by omega
        have HY := Lib.hid (HYES.out h3)
        clear h3
        go_wp2_with fail
        go_ret
        rw [HY.out]
        exact ⟨rfl, rfl⟩
      · have g3 : (Z.size : Int) ≤ 300 := by omega
        have HNX : Hid ((zs.take (k + 1)).any (fun z => decide (300 < z.length)) = false) := Lib.hid (by rw [HST.out]; simpa using h3)
        clear h3
        go_wp2_with fail
        go_roundw
        case rel => exact ⟨k + 1, by omega, by omega, by go_num, HNX, by first | rfl | trivial⟩
        case measure => simp [intOf]; omega
    · rcases (show (k = N ∧ N ≤ 100) ∨ (k = 100 ∧ 100 < N) by omega) with ⟨rfl, h⟩ | ⟨rfl, h⟩
      · have g1 : ¬ (k : Int) < (k : Int) := by omega
        have g3 : (k : Int) ≤ 100 := by omega
        have HF : Hid (greatL zs = false) := Lib.hid (by
          have := hno.out
          rw [HGR.out, List.take_of_length_le (by rw [HN.out]; exact hk1)]
          rw [List.take_of_length_le (by rw [HN.out]; exact Nat.le_refl _)] at this
          rw [this, HN.out]
          simp; omega)
        clear hlt h
        go_wp2_with fail
        go_ret
        rw [HF.out]
        refine ⟨ret_bool ?_, rfl⟩
        simp; omega
      · have g1 : (100 : Int) < (N : Int) := by omega
        have HF : Hid (greatL zs = true) := Lib.hid (by
          rw [HGR.out, HN.out, decide_eq_true h]
          rfl)
        clear hlt h
        go_wp2_with fail
        go_ret
        rw [HF.out]
        exact ⟨rfl, rfl⟩

set_option maxHeartbeats 1000000 in
set_option maxRecDepth 100000 in
theorem same_any (A B : Option Addr) (c d : Nat) (zs : List Tl) (w : World) (hA : TsAt w.heap.size w A zs) (hB : TsAt w.heap.size w B zs) (hl : zs.length ≤ 100000) :
    Calls Try.prog 18 #[.slice A zs.length c, .slice B zs.length d] w fun e w' => e = .returned (.bool true) ∧ Below w.heap.size w w' := by
  have HA := Lib.hid hA
  have HB := Lib.hid hB
  clear hA hB
  obtain ⟨N, hN⟩ : ∃ N, zs.length = N := ⟨_, rfl⟩
  rw [hN] at hl
  rw [hN]
  have HN := Lib.hid hN
  clear hN
  go_enter Try.func18, Try.ntmps18
  go_wp2_with fail
  go_loopg [5] N (fun m i wr => ∃ k : Nat, m = N - k ∧ k ≤ N ∧ i = .int .i64 (k : Int) ∧ Hid (Below w.heap.size w wr))
  case atStart => exact ⟨0, rfl, Nat.zero_le _, rfl, Lib.hid (Below.refl _ _)⟩
  case round =>
    obtain ⟨k, rfl, hk, rfl, hb⟩ := hrel
    by_cases hlt : k < N
    · have g1 : (k : Int) < (N : Int) := by omega
      have hkl : k < zs.length := by rw [HN.out]; exact hlt
      obtain ⟨g, o, rfl, hc⟩ := HA.out.cell hb.out k hkl
      obtain ⟨g', o', rfl, hc'⟩ := HB.out.cell hb.out k hkl
      obtain ⟨Z, hZ⟩ : ∃ Z : ByteArray, (⟨zs[k].toArray⟩ : ByteArray) = Z := ⟨_, rfl⟩
      rw [hZ] at hc hc'
      clear hZ hkl HA HB
      go_wp2_with fail
      go_quiet (fail)
      go_wp2_with fail
      go_roundg (N - (k + 1))
      case measure => omega
      case rel => exact ⟨k + 1, rfl, by omega, by go_num, Lib.hid (below_drewN hb.out _)⟩
    · have g1 : ¬ (k : Int) < (N : Int) := by omega
      go_wp2_with fail
      go_ret
      exact ⟨rfl, hb.out⟩

set_option maxHeartbeats 1000000 in
set_option maxRecDepth 100000 in
theorem has_any (A : Option Addr) (c : Nat) (zs : List Tl) (z : Tl) (w : World) (hA : TsAt w.heap.size w A zs) (hl : zs.length ≤ 100000) (hz : z ∈ zs) :
    Calls Try.prog 22 #[.slice A zs.length c, .string ⟨z.toArray⟩] w fun e w' => e = .returned (.bool true) ∧ w = w' := by
  have HA := Lib.hid hA
  have HZ := Lib.hid hz
  clear hA hz
  obtain ⟨N, hN⟩ : ∃ N, zs.length = N := ⟨_, rfl⟩
  rw [hN] at hl
  rw [hN]
  have HN := Lib.hid hN
  clear hN
  go_enter Try.func22, Try.ntmps22
  go_wp2_with fail
  go_loopg [5] N (fun m i wr => ∃ k : Nat, m = N - k ∧ k ≤ N ∧ i = .int .i64 (k : Int) ∧ Hid (z ∉ zs.take k) ∧ wr = w)
  case atStart => exact ⟨0, rfl, Nat.zero_le _, rfl, Lib.hid (by rw [List.take_zero]; simp), rfl⟩
  case round =>
    obtain ⟨k, rfl, hk, rfl, hno, rfl⟩ := hrel
    by_cases hlt : k < N
    · have g1 : (k : Int) < (N : Int) := by omega
      have hkl : k < zs.length := by rw [HN.out]; exact hlt
      obtain ⟨g, o, rfl, hc⟩ := HA.out.cell (Below.refl _ _) k hkl
      have HST : Hid (z ≠ zs[k] → z ∉ zs.take (k + 1)) := Lib.hid (fun h => by
        rw [List.take_succ_eq_append_getElem hkl, List.mem_append, List.mem_singleton]
        exact fun h' => h'.elim hno.out h)
      obtain ⟨y, hy⟩ : ∃ y, zs[k] = y := ⟨_, rfl⟩
      rw [hy] at hc HST
      clear hy hkl
      by_cases he : z = y
      · subst he
        have g2 : (z == z) = true := by simp
        go_wp2_with fail
        go_ret
        exact ⟨rfl, rfl⟩
      · have g2 : (y == z) = false := by simpa using fun h => he h.symm
        have HNX := Lib.hid (HST.out he)
        clear he
        go_wp2_with fail
        go_roundg (N - (k + 1))
        case measure => omega
        case rel => exact ⟨k + 1, rfl, by omega, by go_num, HNX, rfl⟩
    · exact absurd HZ.out (by
        have := hno.out
        rwa [List.take_of_length_le (by rw [HN.out]; omega)] at this)
end Go.Proofs.Ytggnkpbadfabcaa.Fg
