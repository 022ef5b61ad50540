/-
  The laws' awake returns true: List gives the document's example. Condition: the bound of the library's search is some number.
-/
import Derived.Test.YtigamkdomdglhaaDoorAdSame
import Derived.Test.YtigamkdomdglhaaDoorAdMadeP
namespace Go.Proofs.YtigamkdomdglhaaDoor.Ad
open Go Go.RowKit Go.Joins Kit J7

theorem two_at (w : World) : AAt (w.alloc (.cells #[.string ⟨#[65, 32, 66]⟩, .string ⟨#[97]⟩, .string ⟨#[98]⟩, .string ⟨#[]⟩, .string ⟨#[99]⟩, .string ⟨#[100]⟩] 27)) (.slice (some ⟨w.heap.size, 0, none⟩) 2 2) [([65, 32, 66], [97], [98]), ([], [99], [100])] := by
  have hl : w.heap.size < (w.alloc (.cells #[.string ⟨#[65, 32, 66]⟩, .string ⟨#[97]⟩, .string ⟨#[98]⟩, .string ⟨#[]⟩, .string ⟨#[99]⟩, .string ⟨#[100]⟩] 27)).heap.size := Kit.lt_alloc _ _
  have hc := Lib.cell_of_heap (Kit.fresh_block w #[.string ⟨#[65, 32, 66]⟩, .string ⟨#[97]⟩, .string ⟨#[98]⟩, .string ⟨#[]⟩, .string ⟨#[99]⟩, .string ⟨#[100]⟩] 27)
  refine ⟨some ⟨w.heap.size, 0, none⟩, 2, rfl, fun k hk => ⟨w.heap.size, 0, rfl, hl, ?_⟩⟩
  have hk2 : k < 2 := hk
  match k, hk2 with
  | 0, _ => exact ⟨hc 0, hc 1, hc 2⟩
  | 1, _ => exact ⟨hc 3, hc 4, hc 5⟩

set_option maxHeartbeats 1000000 in
set_option maxRecDepth 100000 in
theorem awake_any (w : World) (hE : Srch.Env w) :
    Calls Tryd.prog 8 #[] w fun e w' => e = .returned (.bool true) ∧ Below w.heap.size w w' := by
  have hL := list_any ⟨#[65, 32, 66, 32, 60, 97, 64, 98, 62, 44, 32, 99, 64, 100]⟩ w (by decide) hE
  rw [show (ByteArray.mk #[65, 32, 66, 32, 60, 97, 64, 98, 62, 44, 32, 99, 64, 100]).data.toList = [65, 32, 66, 32, 60, 97, 64, 98, 62, 44, 32, 99, 64, 100] from rfl, sample] at hL
  go_enter Tryd.func8, Tryd.ntmps8
  go_wp2_with fail
  refine hL.mono ?_
  rintro e w1 ⟨v, rfl, hr, hb⟩
  have h2 := two_at w1
  have hb2 : Below w1.heap.size w1 (w1.alloc (.cells #[.string ⟨#[65, 32, 66]⟩, .string ⟨#[97]⟩, .string ⟨#[98]⟩, .string ⟨#[]⟩, .string ⟨#[99]⟩, .string ⟨#[100]⟩] 27)) := (Below.refl _ w1).alloc (Nat.le_refl _) _
  have h1 := (RowA.at hr).below hb2
  have hb3 := Lib.hid (hb.trans (hb2.mono hb.size))
  clear hr hb hb2 hL
  go_wp2_with fail
  refine (same_any _ _ _ _ h1 h2 (by decide)).mono ?_
  rintro e w2 ⟨rfl, hb4⟩
  go_wp2_with fail
  go_ret
  exact ⟨rfl, hb3.out.trans (hb4.mono hb3.out.size)⟩
end Go.Proofs.YtigamkdomdglhaaDoor.Ad
