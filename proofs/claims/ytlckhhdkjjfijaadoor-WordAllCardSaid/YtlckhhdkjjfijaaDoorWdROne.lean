/-
  The document's answer for package word, as the statements have it: one tells the word at a place of a text. Conditions: the text has at most 2^20 bytes, the place lies in it.
-/
import Derived.Test.YtlckhhdkjjfijaaDoorWdRRun
import Derived.Test.YtlckhhdkjjfijaaDoorWdRBytes
import Derived.Test.YtlckhhdkjjfijaaDoorWdEnds
import Derived.Test.YtlckhhdkjjfijaaDoorRfFold
import Derived.Test.YtlckhhdkjjfijaaDoorB6RefLoose
import Derived.Test.YtlckhhdkjjfijaaDoorQ4RefPlain
import Derived.Test.YtlckhhdkjjfijaaDoorU8RefValid
namespace Go.Proofs.YtlckhhdkjjfijaaDoor.Wd
open Go Go.RowKit Go.Joins Kit

theorem run_to (s : ByteArray) (i p : Nat) (j : Int) (w : World) (hs : s.size ≤ 1048576) (hi : i ≤ 1048576) (h : i + runN (s.data.toList.drop i) = p) (hj : j = (i : Int)) :
    Calls Tryd.prog 36 #[.string s, .int .i64 j] w fun e w' => e = .returned (.int .i64 (p : Int)) ∧ w = w' := by
  subst hj
  rw [← h]
  exact run_any s i w (by omega) (by omega)
theorem kind_all : ∀ n, n < 256 → (Tx.foldB (UInt8.ofNat n) = 98 ∧ wayB [UInt8.ofNat n] = true) ∨ (Tx.foldB (UInt8.ofNat n) = 113 ∧ wayB [UInt8.ofNat n] = false ∧ wayQ [UInt8.ofNat n] = true) ∨ (Tx.foldB (UInt8.ofNat n) ≠ 98 ∧ Tx.foldB (UInt8.ofNat n) ≠ 113 ∧ wayB [UInt8.ofNat n] = false ∧ wayQ [UInt8.ofNat n] = false) := by decide +kernel
theorem kind_cases (c : UInt8) : (Tx.foldB c = 98 ∧ wayB [c] = true) ∨ (Tx.foldB c = 113 ∧ wayB [c] = false ∧ wayQ [c] = true) ∨ (Tx.foldB c ≠ 98 ∧ Tx.foldB c ≠ 113 ∧ wayB [c] = false ∧ wayQ [c] = false) := by
  have := kind_all c.toNat c.toNat_lt
  simpa using this
/-! ### Blanks put in the place of a sign, up to a place -/
def blankC (c : UInt8) : UInt8 := if c = 95 then 32 else c
def blankTo (l : List UInt8) (k : Nat) : List UInt8 := blankU (l.take k) ++ l.drop k
theorem blankTo_length (l : List UInt8) (k : Nat) : (blankTo l k).length = l.length := by
  unfold blankTo
  rw [List.length_append, blankU_length, ← List.length_append, List.take_append_drop]
theorem blankTo_at (l : List UInt8) (k : Nat) (h : k < l.length) : (blankTo l k)[k]'(by rw [blankTo_length]; exact h) = l[k] := by
  unfold blankTo
  have hk : (blankU (l.take k)).length = k := by rw [blankU_length, List.length_take]; omega
  rw [List.getElem_append_right (by omega)]
  simp [hk]
theorem blank_take (l : List UInt8) (k : Nat) (h : k < l.length) : blankU (l.take (k + 1)) = blankU (l.take k) ++ [blankC l[k]] := by
  unfold blankU
  rw [List.take_succ_eq_append_getElem h, List.map_append]
  rfl
theorem blankTo_set (l : List UInt8) (k : Nat) (h : k < l.length) : (blankTo l k).set k (blankC l[k]) = blankTo l (k + 1) := by
  unfold blankTo
  have hk : (blankU (l.take k)).length = k := by rw [blankU_length, List.length_take]; omega
  rw [List.drop_eq_getElem_cons h]
  have := Rf.set_mid (blankU (l.take k)) (blankC l[k]) l[k] (l.drop (k + 1))
  rw [hk] at this
  rw [this, blank_take l k h, List.append_assoc]
  rfl
theorem blankTo_keep (l : List UInt8) (k : Nat) (h : k < l.length) (hn : l[k] ≠ 95) : blankTo l k = blankTo l (k + 1) := by
  unfold blankTo
  rw [blank_take l k h, show blankC l[k] = l[k] from if_neg hn, List.append_assoc, List.drop_eq_getElem_cons h]
  rfl
/-- What one returns. -/
def OneLeft (s : ByteArray) (i : Nat) (w : World) (e : Ending) (w' : World) : Prop :=
  ∃ (x : ByteArray) (nx : Int) (ok : Bool), e = .returned (.tuple #[.string x, .int .i64 nx, .bool ok]) ∧ (ok = false → oneL (s.data.toList.drop i) = none) ∧ (ok = true → ∃ n : Nat, nx = (i : Int) + n ∧ oneL (s.data.toList.drop i) = some (x.data.toList, n)) ∧ Below w.heap.size w w'
theorem OneLeft.no {s : ByteArray} {i : Nat} {w w' : World} (x : ByteArray) (nx : Int) (h : oneL (s.data.toList.drop i) = none) (hb : Below w.heap.size w w') : OneLeft s i w (.returned (.tuple #[.string x, .int .i64 nx, .bool false])) w' :=
  ⟨x, nx, false, rfl, fun _ => h, fun e => (by cases e), hb⟩
theorem OneLeft.of {s : ByteArray} {i N : Nat} {w w' : World} {a o : List UInt8} {x : ByteArray} {b : Bool} {nx : Int} (h : ends a o x b) (hw : oneL (s.data.toList.drop i) = (setL a o).map (fun y => (y, N))) (hx : nx = (i : Int) + N) (hb : Below w.heap.size w w') : OneLeft s i w (.returned (.tuple #[.string x, .int .i64 nx, .bool b])) w' := by
  refine ⟨x, nx, b, rfl, ?_, ?_, hb⟩
  · intro e
    rw [hw]
    have := h.1
    rw [e] at this
    cases h2 : setL a o with
    | none => rfl
    | some y => rw [h2] at this; cases this
  · intro e
    refine ⟨N, hx, ?_⟩
    rw [hw]
    have h1 := h.1
    rw [e] at h1
    cases h2 : setL a o with
    | none => rw [h2] at h1; cases h1
    | some y => rw [h.2 y h2]; rfl

set_option maxHeartbeats 4000000 in
set_option maxRecDepth 100000 in
theorem one_any (s : ByteArray) (i : Nat) (w : World) (hs : s.size ≤ 1048576) (hi : i ≤ s.size) :
    Calls Tryd.prog 20 #[.string s, .int .i64 i] w fun e w' => OneLeft s i w e w' := by
  have hl : s.data.toList.length = s.size := (Lib.size_eq s).symm
  by_cases h0 : s.size ≤ i + 1
  · have HNO : Hid (oneL (s.data.toList.drop i) = none) := Lib.hid (one_no fun e => by
      have := congrArg List.length e
      rw [List.length_take, List.length_drop, hl] at this
      simp at this
      omega)
    have g0 : (s.size : Int) ≤ (i : Int) + 1 := by omega
    clear h0 hl
    go_enter Tryd.func20, Tryd.ntmps20
    go_wp2
    go_ret3
    exact OneLeft.no _ _ HNO.out (Below.refl _ w)
  have g0 : ¬ (s.size : Int) ≤ (i : Int) + 1 := by omega
  have hd2 : (s.extract i (i + 2)).data.toList = (s.data.toList.drop i).take 2 := by rw [Lib.extract_data, show i + 2 - i = 2 by omega]
  obtain ⟨X, hX⟩ : ∃ X, s.extract i (i + 2) = X := ⟨_, rfl⟩
  rw [hX] at hd2
  by_cases h1 : (s.data.toList.drop i).take 2 = [61, 63]
  rotate_left 1
  · have HNO : Hid (oneL (s.data.toList.drop i) = none) := Lib.hid (one_no h1)
    have g1 : (X.toList == [61, 63]) = false := by rw [beq_list, hd2]; exact decide_eq_false h1
    clear h0 hl h1 hd2
    go_enter Tryd.func20, Tryd.ntmps20
    go_wp2
    go_ret3
    exact OneLeft.no _ _ HNO.out (Below.refl _ w)
  have g1 : (X.toList == [61, 63]) = true := by rw [beq_list, hd2]; exact decide_eq_true h1
  have HD : Hid (s.data.toList.drop i = 61 :: 63 :: s.data.toList.drop (i + 2)) := Lib.hid (by
    have e := List.take_append_drop 2 (s.data.toList.drop i)
    rw [h1, List.drop_drop] at e
    exact e.symm)
  have HO : Hid (oneL (s.data.toList.drop i) = tailL (s.data.toList.drop (i + 2))) := Lib.hid (by rw [HD.out, one_yes])
  obtain ⟨p, hp⟩ : ∃ p, i + 2 + runN (s.data.toList.drop (i + 2)) = p := ⟨_, rfl⟩
  have HP := Lib.hid hp
  have hpl : p ≤ s.size := by have := run_le (s.data.toList.drop (i + 2)); rw [List.length_drop, hl] at this; omega
  have HQ : Hid ((s.data.toList.drop (i + 2)).dropWhile tokB = s.data.toList.drop p) := Lib.hid (by rw [← run_drop, List.drop_drop, hp])
  clear h0 h1 hd2
  go_enter Tryd.func20, Tryd.ntmps20
  go_wp2_with fail
  refine (run_to s (i + 2) p _ w hs (by omega) HP.out (by omega)).mono ?_
  rintro e w' ⟨rfl, rfl⟩
  clear hX g0 g1
  have gp : (i : Int) + 2 ≤ (p : Int) := by omega
  by_cases h0 : p = i + 2
  · have HNO : Hid (oneL (s.data.toList.drop i) = none) := Lib.hid (by rw [HO.out]; exact tail_end1 (by have := HP.out; omega))
    have g0 : ((p : Int) == (i : Int) + 2) = true := by rw [beq_iff_eq]; omega
    clear h0 hp
    go_wp2
    go_ret3
    exact OneLeft.no _ _ HNO.out (Below.refl _ w)
  have g0 : ((p : Int) == (i : Int) + 2) = false := by rw [beq_eq_false_iff_ne]; omega
  by_cases h3 : s.size < p + 3
  · have HNO : Hid (oneL (s.data.toList.drop i) = none) := Lib.hid (by rw [HO.out]; exact tail_end2 (by rw [HQ.out, List.drop_drop, List.drop_of_length_le (by rw [hl]; omega)]; simp))
    have g1 : (s.size : Int) < (p : Int) + 3 := by omega
    clear h0 hp h3
    go_wp2
    go_ret3
    exact OneLeft.no _ _ HNO.out (Below.refl _ w)
  have g1 : ¬ (s.size : Int) < (p : Int) + 3 := by omega
  have e0 := drop_byte s p (by omega)
  have e1 := drop_byte s (p + 1) (by omega)
  have e2 := drop_byte s (p + 2) (by omega)
  rw [show p + 1 + 1 = p + 2 from rfl] at e1
  rw [show p + 2 + 1 = p + 3 from rfl] at e2
  have b0 : s[p].toNat < 256 := s[p].toNat_lt
  have b2 : s[p + 2].toNat < 256 := s[p + 2].toNat_lt
  by_cases h63 : s[p].toNat = 63
  rotate_left 1
  · have HNO : Hid (oneL (s.data.toList.drop i) = none) := Lib.hid (by rw [HO.out]; exact tail_end0 (by rw [HQ.out, e0]; simp only [List.head?_cons, ne_eq, Option.some.injEq]; intro e; exact h63 (by rw [e]; rfl)))
    have g2 : ((s[p].toNat : Int) != 63) = true := by rw [bne_iff_ne]; omega
    clear h0 hp e0 e1 e2 h63
    go_wp2
    go_ret3
    exact OneLeft.no _ _ HNO.out (Below.refl _ w)
  have g2 : ((s[p].toNat : Int) != 63) = false := by rw [h63]; rfl
  have HA : Hid (s[p] = 63) := Lib.hid (UInt8.toNat.inj h63)
  clear h63
  by_cases h63 : s[p + 2].toNat = 63
  rotate_left 1
  · have HNO : Hid (oneL (s.data.toList.drop i) = none) := Lib.hid (by rw [HO.out]; exact tail_end2 (by rw [HQ.out, List.drop_drop, e2]; simp only [List.head?_cons, ne_eq, Option.some.injEq]; intro e; exact h63 (by rw [e]; rfl)))
    have g3 : ((s[p + 2].toNat : Int) != 63) = true := by rw [bne_iff_ne]; omega
    clear h0 hp e0 e1 e2 h63
    go_wp2
    go_ret3
    exact OneLeft.no _ _ HNO.out (Below.refl _ w)
  have g3 : ((s[p + 2].toNat : Int) != 63) = false := by rw [h63]; rfl
  have HB : Hid (s[p + 2] = 63) := Lib.hid (UInt8.toNat.inj h63)
  clear h63
  have HE : Hid ((s.data.toList.drop (i + 2)).dropWhile tokB = 63 :: s[p + 1] :: 63 :: s.data.toList.drop (p + 3)) := Lib.hid (by rw [HQ.out, e0, e1, e2, HA.out, HB.out])
  clear e0 e1 e2
  have hk1 : (s.extract (p + 1) (p + 2)).data.toList = [s[p + 1]] := B6.one_data s (p + 1) (by omega)
  have hkz : (s.extract (p + 1) (p + 2)).size ≤ 1 := B6.one_size s (p + 1)
  obtain ⟨K, hK⟩ : ∃ K, s.extract (p + 1) (p + 2) = K := ⟨_, rfl⟩
  rw [hK] at hk1 hkz
  have hf := Lib.hid (Rf.fold_call K)
  obtain ⟨F, hF⟩ : ∃ F, Rf.fold K = F := ⟨_, rfl⟩
  have HF : Hid (F.data.toList = [Tx.foldB s[p + 1]]) := Lib.hid (by rw [← hF]; show Tx.foldL K.data.toList = _; rw [hk1]; rfl)
  rw [hF] at hf
  clear hF hk1
  go_wp2_with fail
  refine (hf.out _ (by omega)).mono ?_
  rintro e w1 ⟨rfl, hb1⟩
  clear hK hkz g0 g2 g3
  obtain ⟨b, hb⟩ : ∃ b, p + 3 + runN (s.data.toList.drop (p + 3)) = b := ⟨_, rfl⟩
  have HBB := Lib.hid hb
  have hbl : b ≤ s.size := by have := run_le (s.data.toList.drop (p + 3)); rw [List.length_drop, hl] at this; omega
  have HU : Hid ((s.data.toList.drop (p + 3)).dropWhile tokB = s.data.toList.drop b) := Lib.hid (by rw [← run_drop, List.drop_drop, hb])
  go_wp2_with fail
  refine (run_to s (p + 3) b _ w1 hs (by omega) HBB.out (by omega)).mono ?_
  rintro e w' ⟨rfl, rfl⟩
  have gb : (p : Int) + 3 ≤ (b : Int) := by omega
  clear hp hb
  have e0 : (s.extract (i + 2) p).data.toList = (s.data.toList.drop (i + 2)).takeWhile tokB := by rw [Lib.extract_data, ← run_take]; congr 1; have := HP.out; omega
  have e1 : (s.extract (p + 3) b).data.toList = (s.data.toList.drop (p + 3)).takeWhile tokB := by rw [Lib.extract_data, ← run_take]; congr 1; have := HBB.out; omega
  have z0 : (s.extract (i + 2) p).size ≤ 1048576 := by rw [ByteArray.size_extract]; omega
  have z1 : (s.extract (p + 3) b).size ≤ 1048576 := by rw [ByteArray.size_extract]; omega
  have e2 : (s.extract b (b + 2)).data.toList = (s.data.toList.drop b).take 2 := by rw [Lib.extract_data, show b + 2 - b = 2 by omega]
  obtain ⟨A, hA⟩ : ∃ A, s.extract (i + 2) p = A := ⟨_, rfl⟩
  obtain ⟨T, hT⟩ : ∃ T, s.extract (p + 3) b = T := ⟨_, rfl⟩
  obtain ⟨Y, hY⟩ : ∃ Y, s.extract b (b + 2) = Y := ⟨_, rfl⟩
  rw [hA] at e0 z0
  rw [hT] at e1 z1
  rw [hY] at e2
  have kc := kind_cases s[p + 1]
  by_cases hk : Tx.foldB s[p + 1] ≠ 98 ∧ Tx.foldB s[p + 1] ≠ 113
  · have HNO : Hid (oneL (s.data.toList.drop i) = none) := Lib.hid (by
      rw [HO.out]
      rcases kc with h | h | h
      · exact absurd h.1 hk.1
      · exact absurd h.1 hk.2
      · exact tail_end3 HE.out h.2.2.1 h.2.2.2)
    have g2 : (F.toList == [98]) = false := by rw [beq_list, HF.out]; exact decide_eq_false (by simpa using hk.1)
    have g3 : (F.toList == [113]) = false := by rw [beq_list, HF.out]; exact decide_eq_false (by simpa using hk.2)
    clear hk kc hA hT hY e0 e1 e2 z0 z1
    go_wp2
    go_ret3
    exact OneLeft.no _ _ HNO.out hb1
  have HKD : Hid ((Tx.foldB s[p + 1] = 98 ∧ (F.toList == [98]) = true) ∨ (Tx.foldB s[p + 1] = 113 ∧ (F.toList == [98]) = false ∧ (F.toList == [113]) = true)) := Lib.hid (by
    rw [beq_list, beq_list, HF.out]
    by_cases h : Tx.foldB s[p + 1] = 98
    · exact Or.inl ⟨h, by rw [h]; decide⟩
    · have h2 : Tx.foldB s[p + 1] = 113 := Classical.byContradiction fun h2 => hk ⟨h, h2⟩
      exact Or.inr ⟨h2, by rw [h2]; decide, by rw [h2]; decide⟩)
  have HKW : Hid (wayB [s[p + 1]] = true ∨ wayQ [s[p + 1]] = true) := Lib.hid (by
    rcases kc with h | h | h
    · exact Or.inl h.2
    · exact Or.inr h.2.2
    · exact absurd ⟨h.1, h.2.1⟩ hk)
  have HKB : Hid (Tx.foldB s[p + 1] = 98 → wayB [s[p + 1]] = true) := Lib.hid (by
    intro h98
    rcases kc with h | h | h
    · exact h.2
    · rw [h98] at h; exact absurd h.1 (by decide)
    · exact absurd h98 h.1)
  have HKQ : Hid (Tx.foldB s[p + 1] = 113 → wayB [s[p + 1]] = false ∧ wayQ [s[p + 1]] = true) := Lib.hid (by
    intro h113
    rcases kc with h | h | h
    · rw [h113] at h; exact absurd h.1 (by decide)
    · exact h.2
    · exact absurd h113 h.2.1)
  clear hk kc
  by_cases h4 : s.size < b + 2
  · have HNO : Hid (oneL (s.data.toList.drop i) = none) := Lib.hid (by
      rw [HO.out]
      refine tail_end4 HE.out (by
        rw [HU.out]
        intro e
        have := congrArg List.length e
        rw [List.length_take, List.length_drop, hl] at this
        simp at this
        omega))
    have g2 : (s.size : Int) < (b : Int) + 2 := by omega
    rcases HKD.out with ⟨k0, k1⟩ | ⟨k0, k1, k2⟩
    all_goals
      clear k0 h4 hA hT hY e0 e1 e2 z0 z1
      go_wp2
      go_ret3
      exact OneLeft.no _ _ HNO.out hb1
  have g2 : ¬ (s.size : Int) < (b : Int) + 2 := by omega
  by_cases h5 : (s.data.toList.drop b).take 2 = [63, 61]
  rotate_left 1
  · have HNO : Hid (oneL (s.data.toList.drop i) = none) := Lib.hid (by rw [HO.out]; exact tail_end4 HE.out (by rw [HU.out]; exact h5))
    have g3 : (Y.toList == [63, 61]) = false := by rw [beq_list, e2]; exact decide_eq_false h5
    rcases HKD.out with ⟨k0, k1⟩ | ⟨k0, k1, k2⟩
    all_goals
      clear k0 h4 h5 hA hT e0 e1 e2 z0 z1
      go_wp2
      go_ret3
      exact OneLeft.no _ _ HNO.out hb1
  have g3 : (Y.toList == [63, 61]) = true := by rw [beq_list, e2]; exact decide_eq_true h5
  have HW : Hid (oneL (s.data.toList.drop i) = (saysL A.data.toList [s[p + 1]] T.data.toList).map (fun x => (x, b + 2 - i))) := Lib.hid (by
    have hu : (s.data.toList.drop (p + 3)).dropWhile tokB = 63 :: 61 :: s.data.toList.drop (b + 2) := by
      have e := List.take_append_drop 2 (s.data.toList.drop b)
      rw [h5, List.drop_drop] at e
      rw [HU.out]
      exact e.symm
    rw [HO.out, tail_word HE.out HKW.out hu, e0, e1]
    have := HP.out
    have := HBB.out
    rw [show runN (s.data.toList.drop (i + 2)) + runN (s.data.toList.drop (p + 3)) + 7 = b + 2 - i by omega])
  clear h4 h5 e0 e1 e2
  have hf2 := Lib.hid (Rf.fold_call A)
  obtain ⟨C, hC⟩ : ∃ C, Rf.fold A = C := ⟨_, rfl⟩
  have HCD : Hid (C.data.toList = Tx.foldL A.data.toList) := Lib.hid (by rw [← hC]; rfl)
  rw [hC] at hf2
  clear hC
  have HC := Lib.hid (set_cases C A HCD.out)
  have HNX : Hid ((b : Int) + 2 = (i : Int) + ((b + 2 - i : Nat) : Int)) := Lib.hid (by have := HP.out; have := HBB.out; omega)
  rcases HKD.out with ⟨k0, k1⟩ | ⟨k0, k1, k2⟩
  · have HOC : Hid (octL [s[p + 1]] T.data.toList = some (B6.looseL T.data.toList)) := Lib.hid (by unfold octL; rw [if_pos (HKB.out k0)])
    have hol := oct_len HOC.out
    obtain ⟨O, hO⟩ : ∃ O : ByteArray, (⟨(B6.looseL T.data.toList).toArray⟩ : ByteArray) = O := ⟨_, rfl⟩
    have HD : Hid ((B6.looseL T.data.toList) = O.data.toList) := Lib.hid (by rw [← hO])
    rw [HD.out, ← Lib.size_eq, ← Lib.size_eq] at hol
    replace hol : O.size ≤ 1048576 := by omega
    have HWO : Hid (oneL (s.data.toList.drop i) = (setL A.data.toList O.data.toList).map (fun x => (x, b + 2 - i))) := Lib.hid (by rw [HW.out, says_oct HOC.out, HD.out])
    have HX := Lib.hid (B6.rloose_any T)
    rw [hO] at HX
    clear hO k0
    go_wp2_with fail
    refine (HX.out w1 (by omega)).mono ?_
    rintro e w2 ⟨rfl, hb2⟩
    replace hb2 := hb1.trans (hb2.mono hb1.size)
    clear hT hY hb1 k1 g2 g3 z1
    go_wp2_with fail
    refine (hf2.out w2 (by omega)).mono ?_
    rintro e w5 ⟨rfl, hb5⟩
    replace hb5 := hb2.trans (hb5.mono hb2.size)
    clear hA z0
    rcases HC.out with ⟨c0, g0⟩ | ⟨c0, g0, g4⟩ | ⟨c0, g0, g4, g5⟩ | ⟨c0, g0, g4, g5⟩
    · have HZ := Lib.hid (ends_utf (o := O.data.toList) (x := O) (Or.inl c0) rfl)
      clear c0
      go_wp2_with fail
      refine (U8.rvalid_any O (by omega) w5).mono ?_
      rintro e w6 ⟨rfl, hb6⟩
      go_wp2
      go_ret3
      exact OneLeft.of HZ.out HWO.out HNX.out (hb5.trans (hb6.mono hb5.size))
    · have HZ := Lib.hid (ends_utf (o := O.data.toList) (x := O) (Or.inr c0) rfl)
      clear c0
      go_wp2_with fail
      refine (U8.rvalid_any O (by omega) w5).mono ?_
      rintro e w6 ⟨rfl, hb6⟩
      go_wp2
      go_ret3
      exact OneLeft.of HZ.out HWO.out HNX.out (hb5.trans (hb6.mono hb5.size))
    · have HZ := Lib.hid (ends_lat (o := O.data.toList) (x := ⟨(latinL O.data.toList).toArray⟩) c0 rfl)
      clear c0
      go_wp2_with fail
      refine (bytes_any O w5 (by omega)).mono ?_
      rintro e w6 ⟨rfl, hb6⟩
      go_wp2
      go_ret3
      exact OneLeft.of HZ.out HWO.out HNX.out (hb5.trans (hb6.mono hb5.size))
    · have HNO : Hid (oneL (s.data.toList.drop i) = none) := Lib.hid (by rw [HWO.out, set_none c0.1 c0.2.1 c0.2.2]; rfl)
      clear c0
      go_wp2
      go_ret3
      exact OneLeft.no _ _ HNO.out hb5
  · have HOC : Hid (octL [s[p + 1]] T.data.toList = some (Q4.plainL (blankU T.data.toList))) := Lib.hid (by unfold octL; rw [if_neg (by rw [(HKQ.out k0).1]; decide), if_pos (HKQ.out k0).2])
    have hol := oct_len HOC.out
    obtain ⟨O, hO⟩ : ∃ O : ByteArray, (⟨(Q4.plainL (blankU T.data.toList)).toArray⟩ : ByteArray) = O := ⟨_, rfl⟩
    have HD : Hid ((Q4.plainL (blankU T.data.toList)) = O.data.toList) := Lib.hid (by rw [← hO])
    rw [HD.out, ← Lib.size_eq, ← Lib.size_eq] at hol
    replace hol : O.size ≤ 1048576 := by omega
    have HWO : Hid (oneL (s.data.toList.drop i) = (setL A.data.toList O.data.toList).map (fun x => (x, b + 2 - i))) := Lib.hid (by rw [HW.out, says_oct HOC.out, HD.out])
    clear k0
    have hconv := run_bytes_of_string (P := Tryd.prog) w1 9 29 5 T Tryd.underlying9 Tryd.underlying29 Tryd.underlying5
    have hrow := rowB_made w1 T (grownCap w1 T.size 0 5)
    generalize grownCap w1 T.size 0 5 = cap at hconv hrow
    generalize hR : bytesRow T cap = R at hconv hrow
    have HR := Lib.hid hR
    clear hR
    go_wp2_with fail
    clear hconv hT hY k1 k2 g2 g3
    have hb2 : Below w.heap.size w (w1.alloc (Obj.cells R 5 (R.size, R.size + 1))).drew := (hb1.alloc hb1.size _).drew
    have hgw := hb1.size
    obtain ⟨g, hg⟩ : ∃ g, w1.heap.size = g := ⟨_, rfl⟩
    rw [hg] at hrow hgw
    go_loopw [12] (fun j wr => ∃ k : Nat, k ≤ T.size ∧ j = .int .i64 k ∧ RowB wr g (blankTo T.data.toList k) ∧ Below w.heap.size w wr) (fun j _ => T.size - (intOf j).toNat)
    case atStart => exact ⟨0, by omega, rfl, hrow, hb2⟩
    case round =>
      clear hrow hb2 hb1
      obtain ⟨k, hk, rfl, hrow, hbr⟩ := hrel
      by_cases hlt : k < T.size
      · have hl : k < T.data.toList.length := by rw [← Lib.size_eq]; exact hlt
        have hlk : k < (blankTo T.data.toList k).length := by rw [blankTo_length]; exact hl
        have hcell := hrow.cell k hlk
        rw [blankTo_at _ _ hl, byte_get T k hlt] at hcell
        have hfz := hrow.free k hlk
        have hki : (k : Int) < T.size := by omega
        by_cases h1 : T[k] = 95
        · have hset := hrow.set k 32
          have hfs := blankTo_set _ k hl
          rw [byte_get T k hlt, show blankC T[k] = 32 from if_pos h1] at hfs
          rw [hfs] at hset
          have hb3 := hbr.setCell (p := ⟨g, k, none⟩) hgw (.int .u8 32)
          have HSET := Lib.hid hset
          have g2 : ((T[k].toNat : Int) == 95) = true := by rw [h1]; rfl
          clear hset hfs h1
          go_wp2
          go_roundw
          case rel => exact ⟨k + 1, by omega, by go_num, HSET.out, hb3⟩
          case measure => simp [intOf]; omega
        · have hfs := blankTo_keep _ k hl (by rw [byte_get T k hlt]; exact h1)
          rw [hfs] at hrow
          have g2 : ((T[k].toNat : Int) == 95) = false := by rw [beq_eq_false_iff_ne]; intro e; exact h1 (UInt8.toNat.inj (by rw [show (95 : UInt8).toNat = 95 from rfl]; omega))
          clear hfs h1
          go_wp2
          go_roundw
          case rel => exact ⟨k + 1, by omega, by go_num, hrow, hbr⟩
          case measure => simp [intOf]; omega
      · have he : k = T.size := by omega
        subst he
        have hfull : blankTo T.data.toList T.size = blankU T.data.toList := by
          unfold blankTo
          rw [List.take_of_length_le (by rw [← Lib.size_eq]; exact Nat.le_refl _), List.drop_of_length_le (by rw [← Lib.size_eq]; exact Nat.le_refl _), List.append_nil]
        rw [hfull] at hrow
        have hrun := hrow.string cap
        rw [blankU_length, ← Lib.size_eq] at hrun
        obtain ⟨U, hU⟩ : ∃ U : ByteArray, (⟨(blankU T.data.toList).toArray⟩ : ByteArray) = U := ⟨_, rfl⟩
        have HUZ : Hid (U.size ≤ 1048576) := Lib.hid (by rw [← hU, Lib.size_mk, blankU_length, ← Lib.size_eq]; exact z1)
        have HX := Lib.hid (Q4.plain_any U)
        rw [show Q4.plainB U = O by rw [← hO, ← hU]; rfl] at HX
        rw [hU] at hrun
        clear hrow hU hO hfull
        go_wp2_with fail
        refine (HX.out wr (Nat.le_trans HUZ.out (by decide))).mono ?_
        rintro e w2 ⟨rfl, hb2⟩
        replace hb2 := hbr.trans (hb2.mono hbr.size)
        clear hrun hbr z1 hlt
        go_wp2_with fail
        refine (hf2.out w2 (by omega)).mono ?_
        rintro e w5 ⟨rfl, hb5⟩
        replace hb5 := hb2.trans (hb5.mono hb2.size)
        clear hA z0
        rcases HC.out with ⟨c0, g0⟩ | ⟨c0, g0, g4⟩ | ⟨c0, g0, g4, g5⟩ | ⟨c0, g0, g4, g5⟩
        · have HZ := Lib.hid (ends_utf (o := O.data.toList) (x := O) (Or.inl c0) rfl)
          clear c0
          go_wp2_with fail
          refine (U8.rvalid_any O (by omega) w5).mono ?_
          rintro e w6 ⟨rfl, hb6⟩
          go_wp2
          go_ret3
          exact OneLeft.of HZ.out HWO.out HNX.out (hb5.trans (hb6.mono hb5.size))
        · have HZ := Lib.hid (ends_utf (o := O.data.toList) (x := O) (Or.inr c0) rfl)
          clear c0
          go_wp2_with fail
          refine (U8.rvalid_any O (by omega) w5).mono ?_
          rintro e w6 ⟨rfl, hb6⟩
          go_wp2
          go_ret3
          exact OneLeft.of HZ.out HWO.out HNX.out (hb5.trans (hb6.mono hb5.size))
        · have HZ := Lib.hid (ends_lat (o := O.data.toList) (x := ⟨(latinL O.data.toList).toArray⟩) c0 rfl)
          clear c0
          go_wp2_with fail
          refine (bytes_any O w5 (by omega)).mono ?_
          rintro e w6 ⟨rfl, hb6⟩
          go_wp2
          go_ret3
          exact OneLeft.of HZ.out HWO.out HNX.out (hb5.trans (hb6.mono hb5.size))
        · have HNO : Hid (oneL (s.data.toList.drop i) = none) := Lib.hid (by rw [HWO.out, set_none c0.1 c0.2.1 c0.2.2]; rfl)
          clear c0
          go_wp2
          go_ret3
          exact OneLeft.no _ _ HNO.out hb5
end Go.Proofs.YtlckhhdkjjfijaaDoor.Wd
