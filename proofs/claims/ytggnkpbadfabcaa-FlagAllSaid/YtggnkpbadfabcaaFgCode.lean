/-
  flag.Right, flag.ownFlag, flag.Key and flag.Flag: whether a text may be a keyword, the keyword of a flag, the flag of a keyword. Condition: the text has at most 2^40 bytes.
-/
import Derived.Test.YtggnkpbadfabcaaFgPlain
import Derived.Test.YtggnkpbadfabcaaTxAtom
import Derived.Test.YtggnkpbadfabcaaU8Clone
import Derived.Test.YtggnkpbadfabcaaShelf
namespace Go.Proofs.Ytggnkpbadfabcaa.Fg
open Go Go.RowKit Go.Joins Kit

set_option maxHeartbeats 1000000 in
set_option maxRecDepth 100000 in
theorem right_any (s : ByteArray) (w : World) (hs : s.size ≤ 1099511627776) :
    Calls Try.prog 14 #[.string s] w fun e w' => e = .returned (.bool (rightL s.data.toList)) ∧ Below w.heap.size w w' := by
  have hlen := Lib.size_eq s
  have HR : Hid (rightL s.data.toList = (decide (s.data.toList.length ≤ 64) && Tx.atomL s.data.toList && decide (Tx.foldL s.data.toList = s.data.toList))) := Lib.hid rfl
  by_cases h0 : s.size ≤ 64
  · have g : (s.size : Int) ≤ 64 := by omega
    have HL : Hid (s.data.toList.length ≤ 64) := Lib.hid (by omega)
    clear hlen
    cases ha : Tx.atomL s.data.toList
    · have HA := Lib.hid ha
      clear ha
      go_enter Try.func14, Try.ntmps14
      go_wp2_with fail
      refine (Tx.atom_any s w (by omega)).mono ?_
      rintro e w' ⟨rfl, rfl⟩
      rw [HA.out]
      go_wp2_with fail
      go_ret
      refine ⟨ret_bool ?_, Below.refl _ _⟩
      rw [HR.out, HA.out]
      simp
    · have HA := Lib.hid ha
      clear ha
      go_enter Try.func14, Try.ntmps14
      go_wp2_with fail
      refine (Tx.atom_any s w (by omega)).mono ?_
      rintro e w' ⟨rfl, rfl⟩
      rw [HA.out]
      go_wp2_with fail
      refine (Tx.fold_any s w (by omega)).mono ?_
      rintro e w1 ⟨rfl, hb⟩
      go_wp2_with fail
      go_ret
      refine ⟨ret_bool ?_, hb⟩
      rw [HR.out, HA.out, decide_eq_true HL.out, Lib.toList_data]
      rw [Bool.eq_iff_iff]
      simp
  · have g : (64 : Int) < s.size := by omega
    have HL : Hid (¬ s.data.toList.length ≤ 64) := Lib.hid (by omega)
    clear hlen
    go_enter Try.func14, Try.ntmps14
    go_wp2_with fail
    go_ret
    refine ⟨ret_bool ?_, Below.refl _ _⟩
    rw [HR.out, decide_eq_false HL.out]
    simp

theorem text_of {s : ByteArray} {l : List UInt8} (h : s.data.toList = l) : s = ⟨l.toArray⟩ := Kit.bytes_ext (by rw [h])
theorem tne {s : ByteArray} {l : List UInt8} (h : s.data.toList ≠ l) : (s.toList == l) = false := by
  rw [Lib.toList_data]
  simpa using h
set_option maxHeartbeats 1000000 in
set_option maxRecDepth 100000 in
theorem own_any (s : ByteArray) (w : World) :
    Calls Try.prog 26 #[.string s] w fun e w' => e = .returned (.string ⟨(ownL s.data.toList).toArray⟩) ∧ w' = w := by
  rcases own_cases s.data.toList with ⟨h, h2⟩ | ⟨h, h2⟩ | ⟨h, h2⟩ | ⟨h, h2⟩ | ⟨h, h2⟩ | ⟨h2, h3, h4, h5, h6, h7⟩
  · have HX := Lib.hid h2
    obtain rfl := text_of h
    clear h h2
    unfold kAns at *
    go_enter Try.func26, Try.ntmps26
    go_wp2_with fail
    go_ret
    rw [HX.out]
    exact ⟨rfl, rfl⟩
  · have HX := Lib.hid h2
    obtain rfl := text_of h
    clear h h2
    unfold kFlg at *
    go_enter Try.func26, Try.ntmps26
    go_wp2_with fail
    go_ret
    rw [HX.out]
    exact ⟨rfl, rfl⟩
  · have HX := Lib.hid h2
    obtain rfl := text_of h
    clear h h2
    unfold kDel at *
    go_enter Try.func26, Try.ntmps26
    go_wp2_with fail
    go_ret
    rw [HX.out]
    exact ⟨rfl, rfl⟩
  · have HX := Lib.hid h2
    obtain rfl := text_of h
    clear h h2
    unfold kSeen at *
    go_enter Try.func26, Try.ntmps26
    go_wp2_with fail
    go_ret
    rw [HX.out]
    exact ⟨rfl, rfl⟩
  · have HX := Lib.hid h2
    obtain rfl := text_of h
    clear h h2
    unfold kDra at *
    go_enter Try.func26, Try.ntmps26
    go_wp2_with fail
    go_ret
    rw [HX.out]
    exact ⟨rfl, rfl⟩
  · have HX := Lib.hid h2
    have g1 := tne h3
    have g2 := tne h4
    have g3 := tne h5
    have g4 := tne h6
    have g5 := tne h7
    clear h2 h3 h4 h5 h6 h7
    unfold kAns at g1
    unfold kFlg at g2
    unfold kDel at g3
    unfold kSeen at g4
    unfold kDra at g5
    go_enter Try.func26, Try.ntmps26
    go_wp2_with fail
    go_ret
    rw [HX.out]
    exact ⟨rfl, rfl⟩

set_option maxHeartbeats 1000000 in
set_option maxRecDepth 100000 in
theorem flag_any (s : ByteArray) (w : World) (hs : s.size ≤ 1099511627776) :
    Calls Try.prog 16 #[.string s] w fun e w' => e = .returned (.string ⟨(flagL s.data.toList).toArray⟩) ∧ Below w.heap.size w w' := by
  by_cases h : ownL s.data.toList = []
  · have HF : Hid (flagL s.data.toList = s.data.toList) := Lib.hid (by unfold flagL; rw [if_pos h])
    have HO := Lib.hid h
    clear h
    go_enter Try.func16, Try.ntmps16
    go_wp2_with fail
    refine (own_any s w).mono ?_
    rintro e w' ⟨rfl, rfl⟩
    rw [HO.out]
    go_wp2_with fail
    refine (U8.clone_any s _ (by omega)).mono ?_
    rintro e w1 ⟨rfl, hb⟩
    go_wp2_with fail
    go_ret
    rw [HF.out]
    exact ⟨rfl, hb⟩
  · have HF : Hid (flagL s.data.toList = ownL s.data.toList) := Lib.hid (by unfold flagL; rw [if_neg h])
    have g1 : (ownL s.data.toList == []) = false := by simpa using h
    clear h
    go_enter Try.func16, Try.ntmps16
    go_wp2_with fail
    refine (own_any s w).mono ?_
    rintro e w' ⟨rfl, rfl⟩
    go_wp2_with fail
    go_ret
    rw [HF.out]
    exact ⟨rfl, Below.refl _ _⟩

/-! ### Key -/
def keyV : Option (List UInt8) → Value
  | none => .tuple #[.string ⟨#[]⟩, .bool false]
  | some k => .tuple #[.string ⟨k.toArray⟩, .bool true]
theorem keyF_bs (r : List UInt8) : keyF (92 :: r) = if ownL (36 :: r) = [] then none else some (36 :: r) := rfl
theorem keyF_other {k : List UInt8} (h : ∀ r, k ≠ 92 :: r) : keyF k = if rightL k then some k else none := by
  unfold keyF
  split
  · rename_i r; exact absurd rfl (h r)
  · rfl
theorem cut_bs (r : List UInt8) : Lib.trimPrefix (92 :: r) [92] = r ∧ Lib.hasPrefix (92 :: r) [92] = true := by
  simp [Lib.trimPrefix, Lib.hasPrefix]
theorem cut_no {k : List UInt8} (h : ∀ r, k ≠ 92 :: r) : Lib.trimPrefix k [92] = k ∧ Lib.hasPrefix k [92] = false := by
  cases k with
  | nil => simp [Lib.trimPrefix, Lib.hasPrefix]
  | cons c r =>
    have hc : c ≠ 92 := fun e => h r (by rw [e])
    simp [Lib.trimPrefix, Lib.hasPrefix, List.isPrefixOf, Ne.symm hc]
set_option maxHeartbeats 1000000 in
set_option maxRecDepth 100000 in
theorem key_any (s : ByteArray) (w : World) (hs : s.size ≤ 1099511627) :
    Calls Try.prog 10 #[.string s] w fun e w' => e = .returned (keyV (keyL s.data.toList)) ∧ Below w.heap.size w w' := by
  have hfl := Tx.foldL_length s.data.toList
  rw [← Lib.size_eq] at hfl
  obtain ⟨F, hF⟩ : ∃ F, Tx.foldL s.data.toList = F := ⟨_, rfl⟩
  have HK : Hid (keyL s.data.toList = keyF F) := Lib.hid (by unfold keyL; rw [hF])
  have HFold : Hid (∀ W, Calls Try.prog 24 #[.string s] W fun e w' => e = .returned (.string ⟨F.toArray⟩) ∧ Below W.heap.size W w') := Lib.hid (fun W => by rw [← hF]; exact Tx.fold_any s W (by omega))
  rw [hF] at hfl
  clear hF
  rcases (show (∃ r, F = 92 :: r) ∨ ∀ r, F ≠ 92 :: r by
    rcases Classical.em (∃ r, F = 92 :: r) with h | h
    · exact Or.inl h
    · exact Or.inr (fun r e => h ⟨r, e⟩)) with ⟨r, rfl⟩ | hno
  · have HC := Lib.hid (cut_bs r)
    have HB := Lib.hid (keyF_bs r)
    obtain ⟨R, hR⟩ : ∃ R : ByteArray, (⟨r.toArray⟩ : ByteArray) = R := ⟨_, rfl⟩
    have gR : R.size ≤ 1099511627 := by rw [← hR, Lib.size_eq]; simp at hfl ⊢; omega
    have HRl : Hid ((⟨#[36]⟩ ++ R : ByteArray).data.toList = 36 :: r) := Lib.hid (by rw [← hR]; simp)
    have HRs : Hid ((⟨#[36]⟩ ++ R : ByteArray) = ⟨(36 :: r).toArray⟩) := Lib.hid (Kit.bytes_ext (by rw [HRl.out]))
    have HCut : Hid (∀ W, Calls Try.prog 25 #[.string ⟨(92 :: r).toArray⟩, .string ⟨#[92]⟩] W fun e w' => e = .returned (.tuple #[.string R, .bool true]) ∧ w' = W) := Lib.hid (fun W => by
      refine (Try.strings_CutPrefix ⟨(92 :: r).toArray⟩ ⟨#[92]⟩ W).mono ?_
      rintro e w2 ⟨rfl, rfl⟩
      rw [show Lib.trimPrefix (ByteArray.mk (92 :: r).toArray).data.toList (ByteArray.mk #[92]).data.toList = r from HC.out.1, show Lib.hasPrefix (ByteArray.mk (92 :: r).toArray).data.toList (ByteArray.mk #[92]).data.toList = true from HC.out.2, hR]
      exact ⟨rfl, rfl⟩)
    clear hR hfl
    by_cases ho : ownL (36 :: r) = []
    · have HKK : Hid (keyF (92 :: r) = none) := Lib.hid (by rw [HB.out, if_pos ho])
      have HO : Hid (∀ W, Calls Try.prog 26 #[.string (⟨#[36]⟩ ++ R)] W fun e w' => e = .returned (.string ⟨#[]⟩) ∧ w' = W) := Lib.hid (fun W => by
        have h := own_any (⟨#[36]⟩ ++ R) W
        rw [HRl.out, ho] at h
        exact h)
      clear ho
      go_enter Try.func10, Try.ntmps10
      go_wp2_with fail
      refine (HFold.out w).mono ?_
      rintro e w1 ⟨rfl, hb⟩
      go_wp2_with fail
      refine (HCut.out w1).mono ?_
      rintro e w2 ⟨rfl, rfl⟩
      go_wp2_with fail
      refine (HO.out _).mono ?_
      rintro e w3 ⟨rfl, rfl⟩
      go_wp2_with fail
      go_ret2
      rw [HK.out, HKK.out]
      exact ⟨rfl, hb⟩
    · have HKK : Hid (keyF (92 :: r) = some (36 :: r)) := Lib.hid (by rw [HB.out, if_neg ho])
      have g1 : (ownL (36 :: r) == []) = false := by simpa using ho
      have HO : Hid (∀ W, Calls Try.prog 26 #[.string (⟨#[36]⟩ ++ R)] W fun e w' => e = .returned (.string ⟨(ownL (36 :: r)).toArray⟩) ∧ w' = W) := Lib.hid (fun W => by
        have h := own_any (⟨#[36]⟩ ++ R) W
        rw [HRl.out] at h
        exact h)
      clear ho
      go_enter Try.func10, Try.ntmps10
      go_wp2_with fail
      refine (HFold.out w).mono ?_
      rintro e w1 ⟨rfl, hb⟩
      go_wp2_with fail
      refine (HCut.out w1).mono ?_
      rintro e w2 ⟨rfl, rfl⟩
      go_wp2_with fail
      refine (HO.out _).mono ?_
      rintro e w3 ⟨rfl, rfl⟩
      go_wp2_with fail
      go_ret2
      rw [HK.out, HKK.out, HRs.out]
      exact ⟨rfl, hb⟩
  · have HC := Lib.hid (cut_no hno)
    have HB := Lib.hid (keyF_other hno)
    clear hno
    obtain ⟨R, hR⟩ : ∃ R : ByteArray, (⟨F.toArray⟩ : ByteArray) = R := ⟨_, rfl⟩
    have hRl : R.data.toList = F := by rw [← hR]
    have gR : R.size ≤ 1099511627 := by rw [Lib.size_eq, hRl]; omega
    have HRl := Lib.hid hRl
    have HRs := Lib.hid hR
    have HCut : Hid (∀ W, Calls Try.prog 25 #[.string R, .string ⟨#[92]⟩] W fun e w' => e = .returned (.tuple #[.string R, .bool false]) ∧ w' = W) := Lib.hid (fun W => by
      refine (Try.strings_CutPrefix R ⟨#[92]⟩ W).mono ?_
      rintro e w2 ⟨rfl, rfl⟩
      rw [HRl.out, show (ByteArray.mk #[92]).data.toList = [92] from rfl, HC.out.1, HC.out.2, HRs.out]
      exact ⟨rfl, rfl⟩)
    have HRight : Hid (∀ W, Calls Try.prog 14 #[.string R] W fun e w' => e = .returned (.bool (rightL F)) ∧ Below W.heap.size W w') := Lib.hid (fun W => by
      have := right_any R W (by omega)
      rw [HRl.out] at this
      exact this)
    rw [hR] at HFold
    clear hR hRl hfl
    cases hr : rightL F
    · have HKK : Hid (keyF F = none) := Lib.hid (by rw [HB.out, hr]; rfl)
      rw [hr] at HRight
      clear hr
      go_enter Try.func10, Try.ntmps10
      go_wp2_with fail
      refine (HFold.out w).mono ?_
      rintro e w1 ⟨rfl, hb⟩
      go_wp2_with fail
      refine (HCut.out w1).mono ?_
      rintro e w2 ⟨rfl, rfl⟩
      go_wp2_with fail
      refine (HRight.out _).mono ?_
      rintro e w3 ⟨rfl, hb3⟩
      go_wp2_with fail
      go_ret2
      rw [HK.out, HKK.out]
      exact ⟨rfl, hb.trans (hb3.mono hb.size)⟩
    · have HKK : Hid (keyF F = some F) := Lib.hid (by rw [HB.out, hr]; rfl)
      rw [hr] at HRight
      clear hr
      go_enter Try.func10, Try.ntmps10
      go_wp2_with fail
      refine (HFold.out w).mono ?_
      rintro e w1 ⟨rfl, hb⟩
      go_wp2_with fail
      refine (HCut.out w1).mono ?_
      rintro e w2 ⟨rfl, rfl⟩
      go_wp2_with fail
      refine (HRight.out _).mono ?_
      rintro e w3 ⟨rfl, hb3⟩
      go_wp2_with fail
      go_ret2
      rw [HK.out, HKK.out, ← HRs.out]
      exact ⟨rfl, hb.trans (hb3.mono hb.size)⟩
end Go.Proofs.Ytggnkpbadfabcaa.Fg
