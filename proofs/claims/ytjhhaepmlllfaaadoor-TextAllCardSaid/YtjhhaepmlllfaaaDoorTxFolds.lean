/-
  The law TextFolds returns true: folded twice is folded once, of two texts put together it is theirs put together, and no great letter is left. Condition: the library's table reads as the program's text lays it.
-/
import Derived.Test.YtjhhaepmlllfaaaDoorTxAwake
namespace Go.Proofs.YtjhhaepmlllfaaaDoor.Tx
open Go Go.RowKit Go.Joins

/-- The folded text, as a text. -/
def fold (a : ByteArray) : ByteArray := ⟨(foldL a.data.toList).toArray⟩
theorem fold_data (a : ByteArray) : (fold a).data.toList = foldL a.data.toList := rfl
theorem fold_size (a : ByteArray) : (fold a).size = a.size := by rw [Lib.size_eq, fold_data, foldL_length, ← Lib.size_eq]
theorem fold_twice (a : ByteArray) : fold (fold a) = fold a := bytes_ext (by rw [fold_data, fold_data, foldL_twice])
theorem fold_join (a b : ByteArray) : fold (a ++ b) = fold a ++ fold b := bytes_ext (by rw [fold_data, data_append, data_append, foldL_append]; rfl)
theorem fold_byte (a : ByteArray) (k : Nat) (h : k < (fold a).size) : ((fold a)[k].toNat : Int) < 65 ∨ ((65 : Int) ≤ (fold a)[k].toNat ∧ (90 : Int) < (fold a)[k].toNat) := by
  rw [← byte_get _ k h]
  have := foldL_getElem a.data.toList k (by rw [← fold_data, ← Lib.size_eq]; exact h)
  simp only [fold_data]
  omega
theorem fold_call (s : ByteArray) (w : World) (hs : s.size ≤ 1099511627776) :
    Calls Tryd.prog 14 #[.string s] w fun e w' => e = .returned (.string (fold s)) ∧ Below w.heap.size w w' := fold_any s w hs

set_option maxHeartbeats 1000000 in
set_option maxRecDepth 100000 in
theorem textFolds_walk (a b : ByteArray) (w : World) (hE : Env w) :
    Calls Tryd.prog 6 #[.string a, .string b] w fun e w' => e = .returned (.bool true) ∧ Below w.heap.size w w' := by
  by_cases ha : 3000 < a.size
  · have g : (3000 : Int) < a.size := by omega
    go_enter Tryd.func6, Tryd.ntmps6
    go_wp2_with fail
    refine (awake_any w hE).mono ?_
    rintro e w1 ⟨rfl, hb1⟩
    go_wp2
    go_ret
    exact ⟨rfl, hb1⟩
  have g : (a.size : Int) ≤ 3000 := by omega
  by_cases hb : 3000 < b.size
  · have g' : (3000 : Int) < b.size := by omega
    go_enter Tryd.func6, Tryd.ntmps6
    go_wp2_with fail
    refine (awake_any w hE).mono ?_
    rintro e w1 ⟨rfl, hb1⟩
    go_wp2
    go_ret
    exact ⟨rfl, hb1⟩
  have g' : (b.size : Int) ≤ 3000 := by omega
  go_enter Tryd.func6, Tryd.ntmps6
  go_wp2_with fail
  refine (fold_call a w (by omega)).mono ?_
  rintro e w1 ⟨rfl, hb1⟩
  have hE1 := hE.next hb1
  have hft := Lib.hid (fold_twice a)
  have hfj := Lib.hid (fold_join a b)
  have hfs := fold_size a
  have hfb := Lib.hid (fold_byte a)
  generalize hf : fold a = f at hft hfj hfs hfb
  have HF := Lib.hid hf
  have HFS := Lib.hid hfs
  have g2 : (f.size : Int) ≤ 3000 := by omega
  clear hf hfs
  go_wp2_with fail
  go_loop [6] (fun i => ∃ k : Nat, k ≤ f.size ∧ i = .int .i64 k) (fun i => f.size - (intOf i).toNat)
  case atStart => exact ⟨0, by omega, rfl⟩
  case round =>
    obtain ⟨k, hk, rfl⟩ := hrel
    by_cases hlt : k < f.size
    · rcases hfb.out k hlt with h1 | ⟨h1, h2⟩
      all_goals
        go_wp2
        go_round
        case rel => exact ⟨k + 1, by omega, by go_num⟩
        case measure => simp [intOf]; omega
    · have he : k = f.size := by omega
      subst he
      go_wp2_with fail
      refine (fold_call f w1 (by omega)).mono ?_
      rintro e w2 ⟨rfl, hb2⟩
      have hb12 := hb1.trans (hb2.mono hb1.size)
      rw [hft.out]
      go_wp2_with fail
      refine (fold_call (a ++ b) w2 (by simp; omega)).mono ?_
      rintro e w3 ⟨rfl, hb3⟩
      have hb13 := hb12.trans (hb3.mono hb12.size)
      rw [hfj.out]
      go_wp2_with fail
      refine (fold_call b w3 (by omega)).mono ?_
      rintro e w4 ⟨rfl, hb4⟩
      have hb14 := hb13.trans (hb4.mono hb13.size)
      have hbs := fold_size b
      have g3 : (fold b).size ≤ 3000 := by omega
      clear hbs
      have g4 : (f.size : Int) = a.size := by rw [HFS.out]
      go_wp2_with fail
      refine (awake_any w4 (hE.next hb14)).mono ?_
      rintro e w5 ⟨rfl, hb5⟩
      go_wp2
      go_ret
      exact ⟨rfl, hb14.trans (hb5.mono hb14.size)⟩
end Go.Proofs.YtjhhaepmlllfaaaDoor.Tx
