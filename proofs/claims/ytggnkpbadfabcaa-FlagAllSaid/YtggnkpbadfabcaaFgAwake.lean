/-
  The laws' awake returns true: the document's example of flags. Conditions: none.
-/
import Derived.Test.YtggnkpbadfabcaaFgCode
namespace Go.Proofs.Ytggnkpbadfabcaa.Fg
open Go Go.RowKit Go.Joins Kit

set_option maxHeartbeats 1000000 in
set_option maxRecDepth 100000 in
theorem awake_any (w : World) :
    Calls Try.prog 9 #[] w fun e w' => e = .returned (.bool true) ∧ Below w.heap.size w w' := by
  have H1 : Hid (∀ W, Calls Try.prog 10 #[.string ⟨#[92, 83, 69, 69, 78]⟩] W fun e w' => e = .returned (.tuple #[.string ⟨#[36, 115, 101, 101, 110]⟩, .bool true]) ∧ Below W.heap.size W w') := Lib.hid (fun W => by
    have h := key_any ⟨#[92, 83, 69, 69, 78]⟩ W (by decide)
    rw [show (ByteArray.mk #[92, 83, 69, 69, 78]).data.toList = [92, 83, 69, 69, 78] from rfl, wake_key] at h
    exact h)
  have H2 : Hid (∀ W, Calls Try.prog 16 #[.string ⟨#[36, 115, 101, 101, 110]⟩] W fun e w' => e = .returned (.string ⟨#[92, 83, 101, 101, 110]⟩) ∧ Below W.heap.size W w') := Lib.hid (fun W => by
    have h := flag_any ⟨#[36, 115, 101, 101, 110]⟩ W (by decide)
    rw [show (ByteArray.mk #[36, 115, 101, 101, 110]).data.toList = kSeen from rfl, wake_flag] at h
    exact h)
  go_enter Try.func9, Try.ntmps9
  go_wp2_with fail
  refine (H1.out w).mono ?_
  rintro e w1 ⟨rfl, hb1⟩
  go_wp2_with fail
  refine (H2.out w1).mono ?_
  rintro e w2 ⟨rfl, hb2⟩
  go_wp2_with fail
  go_ret
  exact ⟨rfl, hb1.trans (hb2.mono hb1.size)⟩
end Go.Proofs.Ytggnkpbadfabcaa.Fg
