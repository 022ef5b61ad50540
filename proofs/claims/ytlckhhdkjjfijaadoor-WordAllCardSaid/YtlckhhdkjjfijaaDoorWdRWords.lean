/-
  The document's answer for package word, as the statements have it: Words returns what the program's Decode does. Condition: the text has at most 2^19 bytes.
-/
import Derived.Test.YtlckhhdkjjfijaaDoorWdROne
namespace Go.Proofs.YtlckhhdkjjfijaaDoor
open Go Go.RowKit Go.Joins Kit

namespace Buf
/-- The slice, cut to its beginning. -/
theorem forms {W0 w : World} {v : Value} {l : List UInt8} (h : Buf W0 v l w) : (v = .slice none 0 0 ∧ l = []) ∨ ∃ b cap, v = .slice (some ⟨b, 0, none⟩) l.length cap ∧ l.length ≤ cap ∧ ∀ K g, l = K ++ g → Buf W0 (.slice (some ⟨b, 0, none⟩) K.length cap) K w := by
  obtain ⟨h1, h2⟩ := h.own
  rcases h2 with ⟨h2, h3⟩ | ⟨b, cap, cur, hv, hg, hh, h3, h4, h5, h6⟩
  · exact Or.inl ⟨h2, List.length_eq_zero_iff.1 h3⟩
  · refine Or.inr ⟨b, cap, hv, h3, fun K g hl => ⟨⟨?_, Or.inr ⟨b, cap, cur, rfl, hg, hh, ?_, h4, h5, ?_⟩⟩, h.below⟩⟩
    · rw [Lib.byteCells_length, Nat.mul_one]
    · rw [hl, List.length_append] at h3; omega
    · rw [Nat.mul_one] at h6 ⊢
      have h7 : (cur.toList.take l.length).take K.length = cur.toList.take K.length := by
        rw [List.take_take, hl, List.length_append]
        congr 1
        omega
      rw [← h7, h6, hl, Lib.byteCells_append, List.take_append_of_le_length (by rw [Lib.byteCells_length]; exact Nat.le_refl _), List.take_of_length_le (by rw [Lib.byteCells_length]; exact Nat.le_refl _)]
end Buf

namespace Wd
/-- What Words has so far: its bytes, what is held back, and where it stands. -/
def Sofar (l out : List UInt8) (k : Nat) (last : Value) : Prop :=
  (last = .int .i64 (-1) ∧ out ++ decW true (l.drop k) = decW true l) ∨ ∃ K g, out = K ++ g ∧ last = .int .i64 (K.length : Int) ∧ blankL g = true ∧ K ++ heldW g (l.drop k) = decW true l
theorem blankB_false {c : UInt8} (h : c.toNat ≠ 32) (h2 : c.toNat ≠ 9) : blankB c = false := by
  unfold blankB
  rw [Bool.or_eq_false_iff, beq_eq_false_iff_ne, beq_eq_false_iff_ne]
  exact ⟨fun e => h (by rw [e]; rfl), fun e => h2 (by rw [e]; rfl)⟩
theorem blankB_true {c : UInt8} (h : c.toNat = 32 ∨ c.toNat = 9) : blankB c = true := by
  rcases h with h | h
  · rw [show c = 32 from UInt8.toNat.inj h]; rfl
  · rw [show c = 9 from UInt8.toNat.inj h]; rfl

set_option maxHeartbeats 4000000 in
set_option maxRecDepth 100000 in
theorem words_any (s : ByteArray) (w : World) (hs : s.size ≤ 524288) :
    Calls Tryd.prog 9 #[.string s] w fun e w' => e = .returned (.string ⟨(decW true s.data.toList).toArray⟩) ∧ Below w.heap.size w w' := by
  have hB0 : Buf w (.slice none 0 0) [] w := Buf.empty (Below.refl _ w)
  have hS0 : Hid (Sofar s.data.toList [] 0 (.int .i64 (-1))) := Lib.hid (Or.inl ⟨rfl, rfl⟩)
  go_enter Tryd.func9, Tryd.ntmps9
  go_wp2_with fail
  go_loopw [3, 4, 5] (fun v m i wr => ∃ (k : Nat) (out : List UInt8), k ≤ s.size ∧ out.length ≤ 2 * k ∧ i = .int .i64 k ∧ Hid (Sofar s.data.toList out k m) ∧ Buf w v out wr) (fun _ _ i _ => s.size - (intOf i).toNat)
  case atStart => exact ⟨0, [], by omega, by simp, rfl, hS0, hB0⟩
  case round =>
    clear hB0 hS0
    obtain ⟨k, out, hk, hlen, rfl, hS, hB⟩ := hrel
    by_cases hlt : k < s.size
    · have gk : (k : Int) < (s.size : Int) := by omega
      go_wp2_with fail
      refine (one_any s k wr (by omega) hk).mono ?_
      rintro e w1 ⟨x, nx, ok, rfl, hno, hyes, hb1⟩
      have hB1 := hB.next hb1
      clear hB hb1
      cases ok with
      | false =>
        have HN : Hid (oneL (s[k] :: s.data.toList.drop (k + 1)) = none) := Lib.hid (by rw [← drop_byte s k hlt]; exact hno rfl)
        have HD := Lib.hid (drop_byte s k hlt)
        clear hno hyes
        have b8 := (s[k]).toNat_lt
        by_cases hc : s[k].toNat = 32 ∨ s[k].toNat = 9
        · have HBK := Lib.hid (blankB_true hc)
          have HS2 : Hid (Sofar s.data.toList (out ++ [s[k]]) (k + 1) u4) := Lib.hid (by
            rcases hS.out with ⟨h, h2⟩ | ⟨K, g, h1, h2, h3, h4⟩
            · refine Or.inl ⟨h, ?_⟩
              rw [HD.out, dec_step _ HN.out] at h2
              rw [← h2]; simp
            · refine Or.inr ⟨K, g ++ [s[k]], by rw [h1, List.append_assoc], h2, ?_, ?_⟩
              · rw [blank_app, h3]; simp [blankL, HBK.out]
              · rw [HD.out, held_blank g _ HN.out] at h4; exact h4)
          rcases hc with hc | hc
          · have g1 : ((s[k].toNat : Int) != 32) = false := by rw [hc]; rfl
            clear hc
            go_wp2_with (at_builtin; refine Buf.app rfl _ _ rfl w _ _ _ hB1 _ [s[k]] 1 1 rfl ?cells rfl rfl ?room ?_)
            case cells => rfl
            case room => omega
            intro v' w3 hB3
            go_wp2
            go_roundw
            case rel => exact ⟨k + 1, _, by omega, by rw [List.length_append, List.length_singleton]; omega, by go_num, HS2, hB3⟩
            case measure => simp [intOf]; omega
          · have g1 : ((s[k].toNat : Int) != 32) = true := by rw [hc]; rfl
            have g2 : ((s[k].toNat : Int) != 9) = false := by rw [hc]; rfl
            clear hc
            go_wp2_with (at_builtin; refine Buf.app rfl _ _ rfl w _ _ _ hB1 _ [s[k]] 1 1 rfl ?cells rfl rfl ?room ?_)
            case cells => rfl
            case room => omega
            intro v' w3 hB3
            go_wp2
            go_roundw
            case rel => exact ⟨k + 1, _, by omega, by rw [List.length_append, List.length_singleton]; omega, by go_num, HS2, hB3⟩
            case measure => simp [intOf]; omega
        · have HBK := Lib.hid (blankB_false (fun e => hc (Or.inl e)) (fun e => hc (Or.inr e)))
          have g1 : ((s[k].toNat : Int) != 32) = true := by rw [bne_iff_ne]; omega
          have g2 : ((s[k].toNat : Int) != 9) = true := by rw [bne_iff_ne]; omega
          clear hc
          have HS2 : Hid (Sofar s.data.toList (out ++ [s[k]]) (k + 1) (.int .i64 (-1))) := Lib.hid (by
            rcases hS.out with ⟨h, h2⟩ | ⟨K, g, h1, h2, h3, h4⟩
            · refine Or.inl ⟨rfl, ?_⟩
              rw [HD.out, dec_step _ HN.out] at h2
              rw [← h2]; simp
            · refine Or.inl ⟨rfl, ?_⟩
              rw [HD.out, held_other g _ HN.out HBK.out] at h4
              rw [← h4, h1]
              simp)
          go_wp2_with (at_builtin; refine Buf.app rfl _ _ rfl w _ _ _ hB1 _ [s[k]] 1 1 rfl ?cells rfl rfl ?room ?_)
          case cells => rfl
          case room => omega
          intro v' w3 hB3
          go_wp2
          go_roundw
          case rel => exact ⟨k + 1, _, by omega, by rw [List.length_append, List.length_singleton]; omega, by go_num, HS2, hB3⟩
          case measure => simp [intOf]; omega
      | true =>
        obtain ⟨n, rfl, h1⟩ := hyes rfl
        have H1 := Lib.hid h1
        have ho := one_back h1
        rw [List.length_drop, ← Lib.size_eq, ← Lib.size_eq] at ho
        clear hno hyes h1
        rcases hS.out with ⟨h, h2⟩ | ⟨K, g, h1, h2, h3, h4⟩
        · subst h
          have HS2 : Hid (Sofar s.data.toList (out ++ x.data.toList) (k + n) (.int .i64 ((out ++ x.data.toList).length : Int))) := Lib.hid (by
            refine Or.inr ⟨out ++ x.data.toList, [], by simp, rfl, rfl, ?_⟩
            rw [held_nil, ← h2, dec_word true H1.out, List.drop_drop, List.append_assoc])
          clear h2
          go_wp2_with (at_builtin; refine Buf.app_text rfl _ _ rfl w _ _ _ hB1 x rfl rfl ?room ?_)
          case room => omega
          intro v' w3 hB3
          obtain ⟨va, vc, rfl⟩ : ∃ a c, v' = .slice a (out ++ x.data.toList).length c := by
            rcases hB3.forms with ⟨h, e⟩ | ⟨b, c, h, _⟩
            · exact ⟨none, 0, by rw [h, e]; rfl⟩
            · exact ⟨_, _, h⟩
          go_wp2
          go_roundw
          case rel => exact ⟨k + n, _, by omega, by rw [List.length_append, ← Lib.size_eq x]; omega, by go_num, (by rw [show ((out.length : Int) + (x.size : Int)) = ((out ++ x.data.toList).length : Int) by rw [List.length_append, ← Lib.size_eq x]; omega]; exact HS2), hB3⟩
          case measure => simp [intOf]; omega
        · subst h2
          have HS2 : Hid (Sofar s.data.toList (K ++ x.data.toList) (k + n) (.int .i64 ((K ++ x.data.toList).length : Int))) := Lib.hid (by
            refine Or.inr ⟨K ++ x.data.toList, [], by simp, rfl, rfl, ?_⟩
            rw [held_nil, ← h4, held_word h3 H1.out, List.drop_drop, List.append_assoc])
          have hKl : K.length ≤ out.length := by rw [h1, List.length_append]; omega
          rcases hB1.forms with ⟨rfl, e0⟩ | ⟨b, cap, rfl, hcap, hpre⟩
          · obtain rfl : K = [] := by
              cases K with
              | nil => rfl
              | cons a K => rw [e0] at h1; cases h1
            rw [e0] at hB1
            clear h4 e0 h1 hKl
            go_wp2_with (at_builtin; refine Buf.app_text rfl _ _ rfl w _ _ _ hB1 x rfl rfl ?room ?_)
            case room => simp; omega
            intro v' w3 hB3
            obtain ⟨va, vc, rfl⟩ : ∃ a c, v' = .slice a ([] ++ x.data.toList).length c := by
              rcases hB3.forms with ⟨h, e⟩ | ⟨b, c, h, _⟩
              · exact ⟨none, 0, by rw [h, e]; rfl⟩
              · exact ⟨_, _, h⟩
            go_wp2
            go_roundw
            case rel => exact ⟨k + n, _, by omega, by rw [List.length_append, ← Lib.size_eq x]; simp; omega, by go_num, HS2, hB3⟩
            case measure => simp [intOf]; omega
          · have hBK := hpre K g h1
            have gc : (K.length : Int) ≤ (cap : Int) := by omega
            clear h4 h1 hpre hB1
            go_wp2_with (at_builtin; refine Buf.app_text rfl _ _ rfl w _ _ _ hBK x rfl rfl ?room ?_)
            case room => omega
            intro v' w3 hB3
            obtain ⟨va, vc, rfl⟩ : ∃ a c, v' = .slice a (K ++ x.data.toList).length c := by
              rcases hB3.forms with ⟨h, e⟩ | ⟨b, c, h, _⟩
              · exact ⟨none, 0, by rw [h, e]; rfl⟩
              · exact ⟨_, _, h⟩
            go_wp2
            go_roundw
            case rel => exact ⟨k + n, _, by omega, by rw [List.length_append, ← Lib.size_eq x]; omega, by go_num, (by rw [show ((K.length : Int) + (x.size : Int)) = ((K ++ x.data.toList).length : Int) by rw [List.length_append, ← Lib.size_eq x]; omega]; exact HS2), hB3⟩
            case measure => simp [intOf]; omega
    · have gk : ¬ (k : Int) < (s.size : Int) := by omega
      have HF : Hid (out = decW true s.data.toList) := Lib.hid (by
        have e : s.data.toList.drop k = [] := List.drop_of_length_le (by rw [← Lib.size_eq]; omega)
        rcases hS.out with ⟨_, h⟩ | ⟨K, g, h1, _, _, h⟩
        · rw [e, decW_nil, List.append_nil] at h; exact h
        · rw [e, held_end] at h; rw [h1]; exact h)
      have hrun := hB.string
      have hb := hB.below
      clear hB
      go_wp2
      go_ret
      exact ⟨ret_str HF.out, hb⟩
end Wd
end Go.Proofs.YtlckhhdkjjfijaaDoor
