/-
  log.Copy; the reference's Ints and Changes where two are one. Conditions: at most 1000000 numbers.
-/
import Derived.Test.YtojjlbhodiphdaaLgAll
import Derived.Test.YtojjlbhodiphdaaLgSince
namespace Go.Proofs.Ytojjlbhodiphdaa.Lg
open Go Go.RowKit Go.Joins

set_option maxHeartbeats 2000000 in
set_option maxRecDepth 100000 in
theorem copy_any (B lb : Nat) (v : Value) (most fl : Int) (k : List En) (w : World) (hL : LogAt B lb v most fl k w) (hk : k.length ≤ 1000000) :
    Calls Try.prog 21 #[.pointer (some ⟨lb, 0, none⟩)] w fun e w' => ∃ lb' v', e = .returned (.pointer (some ⟨lb', 0, none⟩)) ∧ w.heap.size ≤ lb' ∧ (∀ g, v'.ownBlock = some g → w.heap.size ≤ g) ∧ LogAt w.heap.size lb' v' most fl k w' ∧ Below w.heap.size w w' := by
  obtain ⟨c0, c1, c2, _⟩ := hL.cells
  have hlt := hL.lt
  have HC := Lib.hid (fun W (hb : Below w.heap.size w W) => clone_any B v k W (hL.2.2.below hb) hk)
  have HD := Lib.hid (fun (W W' : World) (hb : Below w.heap.size w W) (hb' : Below W.heap.size W W') => hb.trans (hb'.mono hb.size))
  have HCC := Lib.hid (fun (W' : World) (hb : Below w.heap.size w W') => And.intro ((hb.cell (p := ⟨lb, 0, none⟩) hlt).trans c0) ((hb.cell (p := ⟨lb, 1, none⟩) hlt).trans c1))
  obtain ⟨va, vc, rfl⟩ := hL.2.2.form
  clear hL
  go_enter Try.func21, Try.ntmps21
  go_wp2_with fail
  go_region_with (first
    | (go_at_call 22; refine (HC.out _ ((Below.refl _ w).drew)).mono ?_; rintro e w4 ⟨u, rfl, hq, hb⟩; have hbw := HD.out _ _ ((Below.refl _ w).drew) hb; obtain ⟨d0, d1⟩ := HCC.out _ hbw; obtain ⟨ua, uc, rfl⟩ := hq.form; have HQ := Lib.hid hq; have HB := Lib.hid hbw; clear hq hb hbw))
  all_goals
    go_wp2_with fail
    go_ret
    refine ⟨_, _, rfl, HB.out.size, fun g e => (HQ.out.block e).1, ⟨heap_alloc_new _ _, HB.out.size, HQ.out.below ((Below.refl _ _).alloc (Nat.le_refl _) _)⟩, HB.out.alloc HB.out.size _⟩
end Go.Proofs.Ytojjlbhodiphdaa.Lg
