/-
  The law BaseLetters returns true: what Encode tells is letters, digits, two signs, and at the end at most two signs of equality. Condition: the bound of the library's search is some number.
-/
import Derived.Test.YtfeeopcidjdonaaB6Laws
namespace Go.Proofs.Ytfeeopcidjdonaa.B6
open Go Go.RowKit Go.Joins Kit

theorem enc_at (l : List UInt8) (k : Nat) (h : k < (encL l).length) : (k < l.length + (l.length + 2) / 3 ∧ (encL l)[k] ≠ 61 ∧ classB ((encL l)[k]).toNat = true) ∨ (l.length + (l.length + 2) / 3 ≤ k ∧ (encL l)[k] = 61) := by
  unfold encL at h ⊢
  rw [← letL_length]
  by_cases hk : k < (letL l).length
  · refine Or.inl ⟨hk, ?_⟩
    rw [List.getElem_append_left hk]
    refine ⟨letL_ne l _ (List.getElem_mem hk), ?_⟩
    obtain ⟨v, hv, he⟩ := List.mem_map.1 (List.getElem_mem hk)
    rw [← he]
    exact sg_class v (six_lt l v hv)
  · refine Or.inr ⟨by omega, ?_⟩
    rw [List.getElem_append_right (by omega), List.getElem_replicate]
theorem class_cases {n : Nat} (h : classB n = true) : (97 ≤ n ∧ n ≤ 122) ∨ (65 ≤ n ∧ n ≤ 90) ∨ (48 ≤ n ∧ n ≤ 57) ∨ n = 43 ∨ n = 47 := by
  simp [classB] at h
  omega
theorem encB_at (s : ByteArray) (k : Nat) (h : k < (encB s).size) : (k < s.size + (s.size + 2) / 3 ∧ (encB s)[k].toNat ≠ 61 ∧ ((97 ≤ (encB s)[k].toNat ∧ (encB s)[k].toNat ≤ 122) ∨ (65 ≤ (encB s)[k].toNat ∧ (encB s)[k].toNat ≤ 90) ∨ (48 ≤ (encB s)[k].toNat ∧ (encB s)[k].toNat ≤ 57) ∨ (encB s)[k].toNat = 43 ∨ (encB s)[k].toNat = 47)) ∨ (s.size + (s.size + 2) / 3 ≤ k ∧ (encB s)[k].toNat = 61) := by
  have hl : k < (encL s.data.toList).length := by rw [← encB_data, ← Lib.size_eq]; exact h
  have he : (encB s)[k]'h = (encL s.data.toList)[k]'hl := by
    rw [← byte_get (encB s) k h]
    congr 1
  rw [he]
  rcases enc_at s.data.toList k hl with ⟨h1, h2, h3⟩ | ⟨h1, h2⟩
  · rw [← Lib.size_eq] at h1
    exact Or.inl ⟨h1, fun e => h2 (UInt8.toNat.inj e), class_cases h3⟩
  · rw [← Lib.size_eq] at h1
    exact Or.inr ⟨h1, by rw [h2]; rfl⟩

set_option maxHeartbeats 2000000 in
set_option maxRecDepth 100000 in
theorem baseLetters_walk (s : ByteArray) (w : World) (hE : Env w) :
    Calls Try.prog 7 #[.string s] w fun e w' => e = .returned (.bool true) ∧ Below w.heap.size w w' := by
  by_cases h : 2000 < s.size
  · have g : (2000 : Int) < s.size := by omega
    go_enter Try.func7, Try.ntmps7
    go_wp2_with fail
    refine (awake_any w hE).mono ?_
    rintro e w1 ⟨rfl, hb1⟩
    go_wp2
    go_ret
    exact ⟨rfl, hb1⟩
  have g : (s.size : Int) ≤ 2000 := by omega
  have hat := Lib.hid (encB_at s)
  have hz := encB_size s
  have hz2 : (encB s).size ≤ 2700 := by omega
  have HZ := Lib.hid hz
  clear hz
  go_enter Try.func7, Try.ntmps7
  go_wp2_with fail
  refine (enc_call s w (by omega)).mono ?_
  rintro e w1 ⟨rfl, hb⟩
  generalize encB s = t at hat HZ hz2 ⊢
  go_wp2_with fail
  go_loop [4, 5] (fun e i => ∃ k n : Nat, k ≤ t.size ∧ n ≤ k ∧ i = .int .i64 k ∧ e = .int .i64 n ∧ Hid (n = k - (s.size + (s.size + 2) / 3))) (fun _ i => t.size - (intOf i).toNat)
  case atStart => exact ⟨0, 0, by omega, by omega, rfl, rfl, by show _ = _; omega⟩
  case round =>
    obtain ⟨k, n, hk, hnk, rfl, rfl, hn⟩ := hrel
    by_cases hlt : k < t.size
    · have g1 : (k : Int) < t.size := by omega
      rcases hat.out k hlt with ⟨h1, h2, h3⟩ | ⟨h1, h2⟩
      · have gn : (n : Int) ≤ 0 := by have := hn.out; omega
        have g61 : ((t[k].toNat : Int) == 61) = false := by rw [beq_eq_false_iff_ne]; omega
        have hnx : Hid (n = k + 1 - (s.size + (s.size + 2) / 3)) := by show _ = _; have := hn.out; omega
        clear h1 h2
        rcases h3 with ⟨c1, c2⟩ | ⟨c1, c2⟩ | ⟨c1, c2⟩ | c1 | c1
        · have a1 : (97 : Int) ≤ t[k].toNat := by omega
          have a2 : (t[k].toNat : Int) ≤ 122 := by omega
          clear c1 c2
          go_wp2
          go_round
          case rel => exact ⟨k + 1, n, by omega, by omega, by go_num, by first | rfl | (congr 1; omega), hnx⟩
          case measure => simp [intOf]; omega
        · have a1 : (t[k].toNat : Int) < 97 := by omega
          have a2 : (65 : Int) ≤ t[k].toNat := by omega
          have a3 : (t[k].toNat : Int) ≤ 90 := by omega
          clear c1 c2
          go_wp2
          go_round
          case rel => exact ⟨k + 1, n, by omega, by omega, by go_num, by first | rfl | (congr 1; omega), hnx⟩
          case measure => simp [intOf]; omega
        · have a1 : (t[k].toNat : Int) < 97 := by omega
          have a2 : (t[k].toNat : Int) < 65 := by omega
          have a3 : (48 : Int) ≤ t[k].toNat := by omega
          have a4 : (t[k].toNat : Int) ≤ 57 := by omega
          clear c1 c2
          go_wp2
          go_round
          case rel => exact ⟨k + 1, n, by omega, by omega, by go_num, by first | rfl | (congr 1; omega), hnx⟩
          case measure => simp [intOf]; omega
        · have a1 : (t[k].toNat : Int) < 97 := by omega
          have a2 : (t[k].toNat : Int) < 65 := by omega
          have a3 : (t[k].toNat : Int) < 48 := by omega
          have a4 : ((t[k].toNat : Int) == 43) = true := by rw [c1]; rfl
          clear c1
          go_wp2
          go_round
          case rel => exact ⟨k + 1, n, by omega, by omega, by go_num, by first | rfl | (congr 1; omega), hnx⟩
          case measure => simp [intOf]; omega
        · have a1 : (t[k].toNat : Int) < 97 := by omega
          have a2 : (t[k].toNat : Int) < 65 := by omega
          have a3 : (t[k].toNat : Int) < 48 := by omega
          have a4 : ((t[k].toNat : Int) == 43) = false := by rw [c1]; rfl
          have a5 : ((t[k].toNat : Int) == 47) = true := by rw [c1]; rfl
          clear c1
          go_wp2
          go_round
          case rel => exact ⟨k + 1, n, by omega, by omega, by go_num, by first | rfl | (congr 1; omega), hnx⟩
          case measure => simp [intOf]; omega
      · have g61 : ((t[k].toNat : Int) == 61) = true := by rw [h2]; rfl
        have hnx : Hid (n + 1 = k + 1 - (s.size + (s.size + 2) / 3)) := by show _ = _; have := hn.out; omega
        clear h1 h2
        go_wp2
        go_round
        case rel => exact ⟨k + 1, n + 1, by omega, by omega, by go_num, by go_num, hnx⟩
        case measure => simp [intOf]; omega
    · have g1 : ¬ (k : Int) < t.size := by omega
      have gn : ((n : Int) == -((s.size : Int) % 3) % 3) = true := by
        rw [beq_iff_eq]
        have := hn.out
        have := HZ.out
        omega
      go_wp2_with fail
      refine (awake_tail w w1 hE hb).mono ?_
      rintro e w2 ⟨rfl, hb2⟩
      go_wp2
      go_ret
      exact ⟨rfl, hb2⟩
end Go.Proofs.Ytfeeopcidjdonaa.B6
