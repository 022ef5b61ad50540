/-
  Two rows of the same addresses are one, as the laws ask it. Condition: they are at most 10^12.
-/
import Derived.Test.YtigamkdomdglhaaDoorAdList
import Derived.Deep.LoopGhost
namespace Go.Proofs.YtigamkdomdglhaaDoor.Ad
open Go Go.RowKit Go.Joins Kit J7

/-- A slice of addresses that is read. -/
structure AAt (w : World) (v : Value) (T : List Ad3) : Prop where
  form : ∃ a cap, v = .slice a T.length cap ∧ ∀ k (h : k < T.length), ∃ g o, a = some ⟨g, o, none⟩ ∧ g < w.heap.size ∧ w.cell? ⟨g, o + k * 3, none⟩ = some (sV T[k].1) ∧ w.cell? ⟨g, o + k * 3 + 1, none⟩ = some (sV T[k].2.1) ∧ w.cell? ⟨g, o + k * 3 + 2, none⟩ = some (sV T[k].2.2)
theorem AAt.below {w w' : World} {v : Value} {T : List Ad3} (h : AAt w v T) (hb : Below w.heap.size w w') : AAt w' v T := by
  obtain ⟨a, cap, hv, hc⟩ := h.form
  refine ⟨a, cap, hv, fun k hk => ?_⟩
  obtain ⟨g, o, ha, hl, h1, h2, h3⟩ := hc k hk
  exact ⟨g, o, ha, Nat.lt_of_lt_of_le hl hb.size, by rw [← h1]; exact hb.cell (p := ⟨g, o + k * 3, none⟩) hl, by rw [← h2]; exact hb.cell (p := ⟨g, o + k * 3 + 1, none⟩) hl, by rw [← h3]; exact hb.cell (p := ⟨g, o + k * 3 + 2, none⟩) hl⟩
theorem RowA.at {B : Nat} {v : Value} {T : List Ad3} {w : World} (h : RowA B v T w) : AAt w v T := by
  obtain ⟨a, cap, hv⟩ := row_form h
  refine ⟨a, cap, hv, fun k hk => ?_⟩
  rcases h.2 with ⟨hv2, h0⟩ | ⟨g, cap2, cur, hv2, hb, hh, hr⟩
  · omega
  · rw [hv] at hv2
    injection hv2 with e1 e2 e3
    subst e1
    have hl := aC_length T
    have h' : w.ownsRow B 27 3 (.slice (some ⟨g, 0, none⟩) T.length cap) T.length (aC T) := by rw [← hv]; exact h
    obtain ⟨q1, q2, q3⟩ := aC_at T k hk
    refine ⟨g, 0, rfl, (Array.getElem?_eq_some_iff.1 hh).1, ?_, ?_, ?_⟩
    · rw [Nat.zero_add, h'.cellAt (k * 3) (by omega), q1]
    · rw [Nat.zero_add, h'.cellAt (k * 3 + 1) (by omega), q2]
    · rw [Nat.zero_add, h'.cellAt (k * 3 + 2) (by omega), q3]
theorem RowA.below {B : Nat} {v : Value} {T : List Ad3} {w w' : World} (h : RowA B v T w) (hb : Below w.heap.size w w') : RowA B v T w' := row_below h hb

set_option maxHeartbeats 1000000 in
set_option maxRecDepth 100000 in
theorem same_any (v u : Value) (T : List Ad3) (w : World) (hv : AAt w v T) (hu : AAt w u T) (hc : T.length ≤ 1000000000) :
    Calls Tryd.prog 6 #[v, u] w fun e w' => e = .returned (.bool true) ∧ Below w.heap.size w w' := by
  obtain ⟨a, cap, rfl, hf⟩ := hv.form
  obtain ⟨b, bcap, rfl, hf'⟩ := hu.form
  have HV := Lib.hid hf
  have HU := Lib.hid hf'
  clear hv hu hf hf'
  obtain ⟨N, hN⟩ : ∃ N, T.length = N := ⟨_, rfl⟩
  rw [hN] at hc
  rw [hN]
  have HL := Lib.hid hN
  clear hN
  go_enter Tryd.func6, Tryd.ntmps6
  go_wp2_with fail
  go_loopg [5] N (fun m i wr => ∃ k : Nat, m = N - k ∧ k ≤ N ∧ i = .int .i64 (k : Int) ∧ Below w.heap.size w wr)
  case atStart => exact ⟨0, rfl, Nat.zero_le _, rfl, Below.refl _ _⟩
  case round =>
    obtain ⟨k, rfl, hk, rfl, hb⟩ := hrel
    by_cases hlt : k < N
    · have g1 : (k : Int) < (N : Int) := by omega
      have hlt2 : k < T.length := by rw [HL.out]; exact hlt
      obtain ⟨g, o, rfl, hg, c0, c1, c2⟩ := HV.out k hlt2
      obtain ⟨g', o', rfl, hg', c0', c1', c2'⟩ := HU.out k hlt2
      obtain ⟨X, hX⟩ : ∃ X : ByteArray, X = ⟨T[k].1.toArray⟩ := ⟨_, rfl⟩
      obtain ⟨Y, hY⟩ : ∃ X : ByteArray, X = ⟨T[k].2.1.toArray⟩ := ⟨_, rfl⟩
      obtain ⟨Z, hZ⟩ : ∃ X : ByteArray, X = ⟨T[k].2.2.toArray⟩ := ⟨_, rfl⟩
      have d0 : wr.cell? ⟨g, o + k * 3, none⟩ = some (.string X) := by rw [hX]; exact (hb.cell (p := ⟨g, o + k * 3, none⟩) hg).trans c0
      have d1 : wr.cell? ⟨g, o + k * 3 + 1, none⟩ = some (.string Y) := by rw [hY]; exact (hb.cell (p := ⟨g, o + k * 3 + 1, none⟩) hg).trans c1
      have d2 : wr.cell? ⟨g, o + k * 3 + 2, none⟩ = some (.string Z) := by rw [hZ]; exact (hb.cell (p := ⟨g, o + k * 3 + 2, none⟩) hg).trans c2
      have d0' : wr.cell? ⟨g', o' + k * 3, none⟩ = some (.string X) := by rw [hX]; exact (hb.cell (p := ⟨g', o' + k * 3, none⟩) hg').trans c0'
      have d1' : wr.cell? ⟨g', o' + k * 3 + 1, none⟩ = some (.string Y) := by rw [hY]; exact (hb.cell (p := ⟨g', o' + k * 3 + 1, none⟩) hg').trans c1'
      have d2' : wr.cell? ⟨g', o' + k * 3 + 2, none⟩ = some (.string Z) := by rw [hZ]; exact (hb.cell (p := ⟨g', o' + k * 3 + 2, none⟩) hg').trans c2'
      clear hX hY hZ c0 c1 c2 c0' c1' c2' hlt2 HV HU HL
      go_wp2_with fail
      go_quiet (fail)
      go_wp2_with fail
      go_roundg (N - (k + 1))
      case measure => omega
      case rel => exact ⟨k + 1, rfl, by omega, by go_num, below_drewN hb _⟩
    · have g1 : ¬ (k : Int) < (N : Int) := by omega
      go_wp2_with fail
      go_ret
      exact ⟨rfl, hb⟩
end Go.Proofs.YtigamkdomdglhaaDoor.Ad
