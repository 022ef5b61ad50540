/-
  The reference's until: where one of some bytes stands first, from a place on; the end. Conditions: the bytes are a semicolon, a point, or a sign of equality and a semicolon; the place lies in the text.
-/
import Derived.Test.YtkmopneeafbeaaaDoorRxIdx
import Derived.Test.YtkmopneeafbeaaaDoorPtPlain
namespace Go.Proofs.YtkmopneeafbeaaaDoor.Pt
open Go Go.RowKit Kit

theorem idx_byte (f : List UInt8) (hf : f = [59] ∨ f = [61, 59] ∨ f = [46]) (c : UInt8) : (Rx.idxFrom f [c] (f.length + 1) 0 < 0 ∧ c ∉ f) ∨ (¬ Rx.idxFrom f [c] (f.length + 1) 0 < 0 ∧ c ∈ f) := by
  by_cases h : c ∈ f
  · refine Or.inr ⟨?_, h⟩
    rcases hf with rfl | rfl | rfl
    · rw [List.mem_singleton] at h
      subst h
      decide
    · simp only [List.mem_cons, List.not_mem_nil, or_false] at h
      rcases h with rfl | rfl <;> decide
    · rw [List.mem_singleton] at h
      subst h
      decide
  · refine Or.inl ⟨?_, h⟩
    rw [Rx.one_none f c _ 0 (fun k hk _ e => h (by rw [← e]; exact List.getElem_mem hk))]
    decide
theorem ext_one (s : ByteArray) (k : Nat) (h : k < s.size) : (s.extract k (k + 1)).data.toList = [s[k]] := by
  rw [← Lib.toList_data, Lib.extract_toList, show k + 1 - k = 1 by omega, List.drop_eq_getElem_cons (by rw [← Lib.size_eq]; exact h)]
  rfl

set_option maxHeartbeats 1000000 in
set_option maxRecDepth 100000 in
theorem until_any (s : ByteArray) (f : List UInt8) (hf : f = [59] ∨ f = [61, 59] ∨ f = [46]) (i0 : Nat) (hi : i0 ≤ s.size) (w : World) (hs : s.size ≤ 1099511627776) :
    Calls Tryd.prog 22 #[.string s, .int .i64 (i0 : Int), .string ⟨f.toArray⟩] w fun e w' => w = w' ∧ ∃ k, i0 ≤ k ∧ k ≤ s.size ∧ e = .returned (.int .i64 (k : Int)) ∧ (∀ (j : Nat) (h : j < s.size), i0 ≤ j → j < k → s[j] ∉ f) ∧ ∀ h : k < s.size, s[k] ∈ f := by
  obtain ⟨F, hF⟩ : ∃ F : ByteArray, F = ⟨f.toArray⟩ := ⟨_, rfl⟩
  have hFl : F.data.toList = f := by rw [hF]
  have hFs : F.size ≤ 2 := by rw [Lib.size_eq, hFl]; rcases hf with rfl | rfl | rfl <;> simp
  rw [← hF]
  have HF := Lib.hid hf
  have HFL := Lib.hid hFl
  clear hF hFl hf
  go_enter Tryd.func22, Tryd.ntmps22
  go_wp2_with fail
  go_loop [1] (fun i => ∃ k : Nat, i0 ≤ k ∧ k ≤ s.size ∧ i = .int .i64 (k : Int) ∧ Hid (∀ (j : Nat) (h : j < s.size), i0 ≤ j → j < k → s[j] ∉ f)) (fun i => s.size - (intOf i).toNat)
  case atStart => exact ⟨i0, Nat.le_refl _, hi, rfl, Lib.hid (fun j _ h1 h2 => by omega)⟩
  case round =>
    obtain ⟨k, hk0, hk1, rfl, hno⟩ := hrel
    by_cases hlt : k < s.size
    · have g1 : (k : Int) < (s.size : Int) := by omega
      have HX := Lib.hid (ext_one s k hlt)
      obtain ⟨X, hX⟩ : ∃ X, s.extract k (k + 1) = X := ⟨_, rfl⟩
      rw [hX] at HX
      have hXs : X.size ≤ 1 := by rw [Lib.size_eq, HX.out]; simp
      have HC := Lib.hid (idx_byte f HF.out s[k])
      go_wp2_with fail
      refine (Rx.index_any F X 0 w (by omega) (by omega) (by omega)).mono ?_
      rintro e w1 ⟨rfl, rfl⟩
      have HJ := HC.out
      rw [← HX.out, ← HFL.out, ← Lib.size_eq] at HJ
      obtain ⟨J, hJ⟩ : ∃ J, Rx.idxFrom F.data.toList X.data.toList (F.size + 1) 0 = J := ⟨_, rfl⟩
      rw [hJ] at HJ ⊢
      rcases HJ with ⟨g2, hm⟩ | ⟨g2, hm⟩
      · have HN := Lib.hid hm
        clear hm hJ hX
        go_wp2_with fail
        go_round
        case rel => exact ⟨k + 1, by omega, by omega, by go_num, Lib.hid (fun j h h1 h2 => by
          by_cases e : j = k
          · subst e
            have := HN.out
            rw [HFL.out] at this
            exact this
          · exact hno.out j h h1 (by omega))⟩
        case measure => simp [intOf]; omega
      · have HN := Lib.hid hm
        clear hm hJ hX
        go_wp2_with fail
        go_ret
        refine ⟨rfl, k, hk0, hk1, rfl, hno.out, fun h => ?_⟩
        have := HN.out
        rw [HFL.out] at this
        exact this
    · have g1 : ¬ (k : Int) < (s.size : Int) := by omega
      go_wp2_with fail
      go_ret
      exact ⟨rfl, k, hk0, hk1, rfl, hno.out, fun h => absurd h hlt⟩
/-- The bytes from a place to another one. -/
theorem drop_span (l : List UInt8) (i k : Nat) (h : i ≤ k) : l.drop i = (l.take k).drop i ++ l.drop k := by
  conv => lhs; rw [← List.take_append_drop k l]
  by_cases hk : k ≤ l.length
  · rw [List.drop_append_of_le_length (by rw [List.length_take]; omega)]
  · rw [List.drop_of_length_le (show l.length ≤ k by omega), List.append_nil, List.append_nil]
theorem span_mem {l : List UInt8} {i k : Nat} {x : UInt8} (hk : k ≤ l.length) (h : x ∈ (l.take k).drop i) : ∃ (j : Nat) (hj : j < l.length), i ≤ j ∧ j < k ∧ x = l[j] := by
  obtain ⟨n, hn, rfl⟩ := List.getElem_of_mem h
  rw [List.length_drop, List.length_take] at hn
  exact ⟨i + n, by omega, by omega, by omega, by simp⟩
/-- What until tells, as lists. -/
structure UntL (D f : List UInt8) (i k : Nat) (a : List UInt8) : Prop where
  ge : i ≤ k
  le : k ≤ D.length
  eq : D.drop i = a ++ D.drop k
  len : a.length = k - i
  no : ∀ x ∈ a, x ∉ f
  at_ : ∀ h : k < D.length, D[k] ∈ f
  sp : a = (D.take k).drop i
theorem UntL.mk' {s : ByteArray} {f : List UInt8} {i k : Nat} (h1 : i ≤ k) (h2 : k ≤ s.size) (h3 : ∀ (j : Nat) (h : j < s.size), i ≤ j → j < k → s[j] ∉ f) (h4 : ∀ h : k < s.size, s[k] ∈ f) : UntL s.data.toList f i k ((s.data.toList.take k).drop i) := by
  have hl : k ≤ s.data.toList.length := by rw [← Lib.size_eq]; exact h2
  refine ⟨h1, hl, drop_span _ i k h1, by rw [List.length_drop, List.length_take]; omega, fun x hx => ?_, fun h => ?_, rfl⟩
  · obtain ⟨j, hj, q1, q2, rfl⟩ := span_mem hl hx
    exact h3 j (by rw [Lib.size_eq]; exact hj) q1 q2
  · exact h4 (by rw [Lib.size_eq]; exact h)
theorem UntL.end_ {D f a : List UInt8} {i k : Nat} (h : UntL D f i k a) (hk : k = D.length) : D.drop i = a := by
  rw [h.eq, hk, List.drop_length, List.append_nil]
theorem UntL.cons {D f a : List UInt8} {i k : Nat} (h : UntL D f i k a) (hk : k < D.length) : D.drop i = a ++ D[k] :: D.drop (k + 1) := by
  rw [h.eq, List.drop_eq_getElem_cons hk]
end Go.Proofs.YtkmopneeafbeaaaDoor.Pt
