/-
  The reference's Ints and Changes where two are one. Conditions: at most 1000000 numbers.
-/
import Derived.Test.YtojjlbhodiphdaaLgAll
import Derived.Test.YtojjlbhodiphdaaLgSince
namespace Go.Proofs.Ytojjlbhodiphdaa.Lg
open Go Go.RowKit Go.Joins

theorem sat_int {w : World} {v : Value} {l : List Int} (h : SAt w v 1 l.length (isC l)) (k : Nat) (hk : k < l.length) : ∃ g o cap, v = .slice (some ⟨g, o, none⟩) l.length cap ∧ w.cell? ⟨g, o + k, none⟩ = some (.int .i64 l[k]) := by
  rcases h with ⟨h0, _⟩ | ⟨g, o, cap, rfl, _, _, h3⟩
  · omega
  · refine ⟨g, o, cap, rfl, ?_⟩
    rw [h3 k (by omega)]
    unfold isC
    rw [List.getElem?_map, List.getElem?_eq_getElem hk]
    rfl

set_option maxHeartbeats 2000000 in
set_option maxRecDepth 100000 in
theorem ints_same (u v : Value) (a : List Int) (w : World) (ha : SAt w u 1 a.length (isC a)) (hb : SAt w v 1 a.length (isC a)) (hl : a.length ≤ 1000000) :
    Calls Try.prog 26 #[u, v] w fun e w' => e = .returned (.bool true) ∧ Below w.heap.size w w' := by
  have hl1 : (isC a).length = a.length * 1 := by rw [isC_length, Nat.mul_one]
  obtain ⟨ua, uc, rfl⟩ := ha.form
  obtain ⟨va, vc, rfl⟩ := hb.form
  have HA := Lib.hid ha
  have HB := Lib.hid hb
  have HL := Lib.hid hl1
  clear ha hb hl1
  go_enter Try.func26, Try.ntmps26
  go_wp2_with fail
  go_loopg [5] a.length (fun m iv wr => ∃ i : Nat, m = a.length - i ∧ iv = .int .i64 (i : Int) ∧ i ≤ a.length ∧ Below w.heap.size w wr)
  case atStart => exact ⟨0, rfl, rfl, Nat.zero_le _, Below.refl _ _⟩
  case round =>
    obtain ⟨i, rfl, rfl, hi, hbe⟩ := hrel
    by_cases hlt : i < a.length
    · have g1 : (i : Int) < (a.length : Int) := by omega
      have g0 : (0 : Int) ≤ (i : Int) := by omega
      obtain ⟨ga, oa, ca, hva, p0⟩ := sat_int (HA.out.below HL.out hbe) i hlt
      obtain ⟨gb, ob, cb, hvb, q0⟩ := sat_int (HB.out.below HL.out hbe) i hlt
      injection hva with hva1 hva2 hva3
      injection hvb with hvb1 hvb2 hvb3
      subst hva1 hvb1
      obtain ⟨x, hx⟩ : ∃ x, a[i] = x := ⟨_, rfl⟩
      rw [hx] at p0 q0
      have HBE := Lib.hid hbe
      clear hva2 hva3 hvb2 hvb3 hx hbe
      go_wp2_with fail
      go_quiet (fail)
      go_wp2_with fail
      go_roundg (a.length - (i + 1))
      case measure => omega
      case rel => exact ⟨i + 1, rfl, by go_num, by omega, below_drewN HBE.out _⟩
    · have g1 : ¬ (i : Int) < (a.length : Int) := by omega
      go_wp2_with fail
      go_ret
      exact ⟨rfl, hbe⟩

theorem ChA.below {B : Nat} {c : Ch} {v : Value} {w w' : World} (h : ChA B c v w) (hb : Below w.heap.size w w') : ChA B c v w' := by
  obtain ⟨c1, c2, c3, rfl, q1, q2, q3⟩ := h
  exact ⟨c1, c2, c3, rfl, q1.below hb, q2.below hb, q3.below hb⟩

set_option maxHeartbeats 4000000 in
set_option maxRecDepth 100000 in
theorem changes_same (B1 B2 : Nat) (c : Ch) (u v : Value) (w : World) (hu : ChA B1 c u w) (hv : ChA B2 c v w) (h1 : c.made.length ≤ 1000000) (h2 : c.turned.length ≤ 1000000) (h3 : c.gone.length ≤ 1000000) :
    Calls Try.prog 18 #[u, v] w fun e w' => e = .returned (.bool true) ∧ Below w.heap.size w w' := by
  obtain ⟨c1, c2, c3, rfl, q1, q2, q3⟩ := hu
  obtain ⟨d1, d2, d3, rfl, r1, r2, r3⟩ := hv
  have HI1 := Lib.hid (fun W (hb : Below w.heap.size w W) => ints_same _ _ _ W (q1.below hb).sat (r1.below hb).sat h1)
  have HI2 := Lib.hid (fun W (hb : Below w.heap.size w W) => ints_same _ _ _ W (q2.below hb).sat (r2.below hb).sat h2)
  have HI3 := Lib.hid (fun W (hb : Below w.heap.size w W) => ints_same _ _ _ W (q3.below hb).sat (r3.below hb).sat h3)
  obtain ⟨a1, m1, rfl⟩ := q1.form
  obtain ⟨a2, m2, rfl⟩ := q2.form
  obtain ⟨a3, m3, rfl⟩ := q3.form
  obtain ⟨b1, n1, rfl⟩ := r1.form
  obtain ⟨b2, n2, rfl⟩ := r2.form
  obtain ⟨b3, n3, rfl⟩ := r3.form
  clear q1 q2 q3 r1 r2 r3
  generalize c.made.length = l1 at *
  generalize c.turned.length = l2 at *
  generalize c.gone.length = l3 at *
  generalize c.state = st at *
  generalize c.more = mo at *
  go_enter Try.func18, Try.ntmps18
  go_wp2_with fail
  obtain ⟨W2, hW2⟩ : ∃ W2, (w.alloc (.cells #[.slice a1 l1 m1, .slice a2 l2 m2, .slice a3 l3 m3, .int .i64 st, .bool mo] 42)).alloc (.cells #[.slice b1 l1 n1, .slice b2 l2 n2, .slice b3 l3 n3, .int .i64 st, .bool mo] 42) = W2 := ⟨_, rfl⟩
  have hbs : Below w.heap.size w W2 := by rw [← hW2]; exact ((Below.refl _ w).alloc (Nat.le_refl _) _).alloc (by simp) _
  have hs2 : W2.heap.size = w.heap.size + 2 := by rw [← hW2]; simp
  have k1 : W2.heap[w.heap.size]? = some (.cells #[.slice a1 l1 m1, .slice a2 l2 m2, .slice a3 l3 m3, .int .i64 st, .bool mo] 42 (0, 0)) := by rw [← hW2]; exact (((Below.refl _ (w.alloc _)).alloc (Nat.le_refl _) _).block _ (by simp)).trans (heap_alloc_new w _)
  have k2 : W2.heap[w.heap.size + 1]? = some (.cells #[.slice b1 l1 n1, .slice b2 l2 n2, .slice b3 l3 n3, .int .i64 st, .bool mo] 42 (0, 0)) := by rw [← hW2]; have := heap_alloc_new (w.alloc (.cells #[.slice a1 l1 m1, .slice a2 l2 m2, .slice a3 l3 m3, .int .i64 st, .bool mo] 42)) (.cells #[.slice b1 l1 n1, .slice b2 l2 n2, .slice b3 l3 n3, .int .i64 st, .bool mo] 42); rwa [show (w.alloc (.cells #[.slice a1 l1 m1, .slice a2 l2 m2, .slice a3 l3 m3, .int .i64 st, .bool mo] 42)).heap.size = w.heap.size + 1 by simp] at this
  have HX := Lib.hid (fun (W : World) (hb : Below W2.heap.size W2 W) => And.intro (five_cells ((hb.block _ (by omega)).trans k1)) (five_cells ((hb.block _ (by omega)).trans k2)))
  have HB2 := Lib.hid hbs
  have HT := Lib.hid (fun (W W' : World) (hb : Below W2.heap.size W2 W) (hb' : Below W.heap.size W W') => hb.trans (hb'.mono hb.size))
  have HU := Lib.hid (fun (W : World) (hb : Below W2.heap.size W2 W) => hbs.trans (hb.mono hbs.size))
  rw [hW2]
  clear hbs hs2 k1 k2 hW2
  refine (HI1.out _ HB2.out).mono ?_
  rintro e w3 ⟨rfl, hb3⟩
  have HB3 := Lib.hid hb3
  clear hb3
  obtain ⟨⟨x0, x1, x2, x3, x4, xf⟩, ⟨y0, y1, y2, y3, y4, yf⟩⟩ := HX.out _ HB3.out
  go_wp2_with fail
  refine (HI2.out _ (HU.out _ HB3.out)).mono ?_
  rintro e w4 ⟨rfl, hb4⟩
  have HB4 := Lib.hid (HT.out _ _ HB3.out hb4)
  clear hb4 x0 x1 x2 x3 x4 xf y0 y1 y2 y3 y4 yf
  obtain ⟨⟨x0, x1, x2, x3, x4, xf⟩, ⟨y0, y1, y2, y3, y4, yf⟩⟩ := HX.out _ HB4.out
  go_wp2_with fail
  refine (HI3.out _ (HU.out _ HB4.out)).mono ?_
  rintro e w5 ⟨rfl, hb5⟩
  have HB5 := Lib.hid (HT.out _ _ HB4.out hb5)
  clear hb5 x0 x1 x2 x3 x4 xf y0 y1 y2 y3 y4 yf
  obtain ⟨⟨x0, x1, x2, x3, x4, xf⟩, ⟨y0, y1, y2, y3, y4, yf⟩⟩ := HX.out _ HB5.out
  cases mo
  all_goals
    go_wp2_with fail
    go_ret
    exact ⟨rfl, HU.out _ HB5.out⟩
end Go.Proofs.Ytojjlbhodiphdaa.Lg
