/-
  The document's answers RightKey, Flag and Key, as the statements have them, return what the program's do. Condition: the text has at most 2^30 bytes.
-/
import Derived.Test.YtggnkpbadfabcaaFgCode
import Derived.Test.YtggnkpbadfabcaaRfFold
import Derived.Test.YtggnkpbadfabcaaR1Atom
import Derived.Deep.QuietTactic
import Derived.BigQuiet
import Derived.WalkSmall
namespace Go.Proofs.Ytggnkpbadfabcaa.Fg
open Go Go.RowKit Go.Joins Kit

theorem rfold_any (s : ByteArray) (w : World) (hs : s.size ≤ 1099511627776) :
    Calls Try.prog 23 #[.string s] w fun e w' => e = .returned (.string ⟨(Tx.foldL s.data.toList).toArray⟩) ∧ Below w.heap.size w w' := Rf.fold_call s w (by omega)

set_option maxHeartbeats 1000000 in
set_option maxRecDepth 100000 in
theorem rright_any (s : ByteArray) (w : World) (hs : s.size ≤ 1099511627776) :
    Calls Try.prog 15 #[.string s] w fun e w' => e = .returned (.bool (rightL s.data.toList)) ∧ Below w.heap.size w w' := by
  have hlen := Lib.size_eq s
  have HR : Hid (rightL s.data.toList = (decide (s.data.toList.length ≤ 64) && Tx.atomL s.data.toList && decide (Tx.foldL s.data.toList = s.data.toList))) := Lib.hid rfl
  cases ha : Tx.atomL s.data.toList
  · have HA := Lib.hid ha
    clear ha hlen
    go_enter Try.func15, Try.ntmps15
    go_wp2_with fail
    refine (R1.atom_any s w (by omega)).mono ?_
    rintro e w' ⟨rfl, rfl⟩
    rw [HA.out]
    go_wp2_with fail
    go_ret
    refine ⟨ret_bool ?_, Below.refl _ _⟩
    rw [HR.out, HA.out]
    simp
  · have HA := Lib.hid ha
    clear ha
    by_cases h0 : s.size ≤ 64
    · have g : (s.size : Int) ≤ 64 := by omega
      have HL : Hid (s.data.toList.length ≤ 64) := Lib.hid (by omega)
      clear hlen
      go_enter Try.func15, Try.ntmps15
      go_wp2_with fail
      refine (R1.atom_any s w (by omega)).mono ?_
      rintro e w' ⟨rfl, rfl⟩
      rw [HA.out]
      go_wp2_with fail
      refine (rfold_any s w hs).mono ?_
      rintro e w1 ⟨rfl, hb⟩
      go_wp2_with fail
      go_ret
      refine ⟨ret_bool ?_, hb⟩
      rw [HR.out, HA.out, decide_eq_true HL.out, Lib.toList_data]
      rw [Bool.eq_iff_iff]
      simp
    · have g : (64 : Int) < s.size := by omega
      have HL : Hid (¬ s.data.toList.length ≤ 64) := Lib.hid (by omega)
      clear hlen
      go_enter Try.func15, Try.ntmps15
      go_wp2_with fail
      refine (R1.atom_any s w (by omega)).mono ?_
      rintro e w' ⟨rfl, rfl⟩
      rw [HA.out]
      go_wp2_with fail
      go_ret
      refine ⟨ret_bool ?_, Below.refl _ _⟩
      rw [HR.out, decide_eq_false HL.out]
      simp

/-! ### The five -/
def kN : Nat → List UInt8
  | 0 => kAns
  | 1 => kFlg
  | 2 => kDel
  | 3 => kSeen
  | _ => kDra
def fN : Nat → List UInt8
  | 0 => fAns
  | 1 => fFlg
  | 2 => fDel
  | 3 => fSeen
  | _ => fDra
def fBlk : Array Value := #[.string ⟨fAns.toArray⟩, .string ⟨fFlg.toArray⟩, .string ⟨fDel.toArray⟩, .string ⟨fSeen.toArray⟩, .string ⟨fDra.toArray⟩]
def kBlk : Array Value := #[.string ⟨kAns.toArray⟩, .string ⟨kFlg.toArray⟩, .string ⟨kDel.toArray⟩, .string ⟨kSeen.toArray⟩, .string ⟨kDra.toArray⟩]
theorem blk_at : ∀ k : Nat, k < 5 → fBlk[k]? = some (.string ⟨(fN k).toArray⟩) ∧ kBlk[k]? = some (.string ⟨(kN k).toArray⟩)
  | 0, _ => ⟨rfl, rfl⟩
  | 1, _ => ⟨rfl, rfl⟩
  | 2, _ => ⟨rfl, rfl⟩
  | 3, _ => ⟨rfl, rfl⟩
  | 4, _ => ⟨rfl, rfl⟩
  | k + 5, h => by omega

set_option maxHeartbeats 1000000 in
set_option maxRecDepth 100000 in
theorem system_any (k : Nat) (w : World) (hk : k < 5) :
    Calls Try.prog 27 #[.int .i64 (k : Int)] w fun e w' => e = .returned (.tuple #[.string ⟨(fN k).toArray⟩, .string ⟨(kN k).toArray⟩]) ∧ Below w.heap.size w w' := by
  have gk : (k : Int) < 5 := by omega
  have c1 : ((w.alloc (.cells fBlk 9)).alloc (.cells kBlk 9)).cell? ⟨w.heap.size, k, none⟩ = some (.string ⟨(fN k).toArray⟩) := by
    have h := ((Below.refl (w.alloc (.cells fBlk 9)).heap.size (w.alloc (.cells fBlk 9))).alloc (Nat.le_refl _) (.cells kBlk 9)).cell (p := ⟨w.heap.size, k, none⟩) (by simp)
    rw [h, Lib.cell_of_heap (Kit.fresh_block w _ _)]
    exact (blk_at k hk).1
  have c2 : ((w.alloc (.cells fBlk 9)).alloc (.cells kBlk 9)).cell? ⟨w.heap.size + 1, k, none⟩ = some (.string ⟨(kN k).toArray⟩) := by
    have h := Kit.fresh_block (w.alloc (.cells fBlk 9)) kBlk 9
    rw [World.size_alloc] at h
    rw [Lib.cell_of_heap h]
    exact (blk_at k hk).2
  have HB : Hid (Below w.heap.size w ((w.alloc (.cells fBlk 9)).alloc (.cells kBlk 9))) := Lib.hid (((Below.refl _ w).alloc (Nat.le_refl _) _).alloc (by simp) _)
  unfold fBlk kBlk at c1 c2 HB
  unfold fAns fFlg fDel fSeen fDra kAns kFlg kDel kSeen kDra at c1 c2 HB
  go_enter Try.func27, Try.ntmps27
  go_wp2_with fail
  go_quiet (fail)
  go_wp2_with fail
  go_ret2
  exact ⟨rfl, below_drewN HB.out _⟩

/-! ### Flag -/
theorem flag_kN : ∀ k : Nat, k < 5 → flagL (kN k) = fN k
  | 0, _ => by decide +kernel
  | 1, _ => by decide +kernel
  | 2, _ => by decide +kernel
  | 3, _ => by decide +kernel
  | 4, _ => by decide +kernel
  | k + 5, h => by omega
theorem own_none {l : List UInt8} (h : ∀ j, j < 5 → kN j ≠ l) : ownL l = [] := by
  rcases own_cases l with ⟨rfl, _⟩ | ⟨rfl, _⟩ | ⟨rfl, _⟩ | ⟨rfl, _⟩ | ⟨rfl, _⟩ | ⟨h2, _⟩
  · exact absurd rfl (h 0 (by decide))
  · exact absurd rfl (h 1 (by decide))
  · exact absurd rfl (h 2 (by decide))
  · exact absurd rfl (h 3 (by decide))
  · exact absurd rfl (h 4 (by decide))
  · exact h2
theorem own_some {l : List UInt8} (h : ownL l ≠ []) : ∃ j, j < 5 ∧ kN j = l := by
  refine Classical.byContradiction fun hn => h (own_none fun j hj e => hn ⟨j, hj, e⟩)
theorem lit_eq (a : List UInt8) (s : ByteArray) : (a == s.toList) = decide (a = s.data.toList) := by
  rw [Lib.toList_data]
  by_cases h : a = s.data.toList <;> simp [h]

set_option maxHeartbeats 1000000 in
set_option maxRecDepth 100000 in
theorem rflag_any (s : ByteArray) (w : World) :
    Calls Try.prog 17 #[.string s] w fun e w' => e = .returned (.string ⟨(flagL s.data.toList).toArray⟩) ∧ Below w.heap.size w w' := by
  go_enter Try.func17, Try.ntmps17
  go_wp2_with fail
  go_loopw [3] (fun i wr => ∃ k : Nat, k ≤ 5 ∧ i = .int .i64 (k : Int) ∧ Hid (∀ j, j < k → kN j ≠ s.data.toList) ∧ Hid (Below w.heap.size w wr)) (fun i _ => 5 - (intOf i).toNat)
  case atStart => exact ⟨0, Nat.zero_le _, rfl, Lib.hid (fun j h => by omega), Lib.hid (Below.refl _ _)⟩
  case round =>
    obtain ⟨k, hk, rfl, hno, hb⟩ := hrel
    by_cases hlt : k < 5
    · have gk : (k : Int) < 5 := by omega
      have HF := Lib.hid (flag_kN k hlt)
      have HC := Lib.hid (system_any k wr hlt)
      obtain ⟨K, hK⟩ : ∃ K, kN k = K := ⟨_, rfl⟩
      obtain ⟨F, hF⟩ : ∃ F, fN k = F := ⟨_, rfl⟩
      have HK := Lib.hid hK
      rw [hK, hF] at HC HF
      clear hK hF
      by_cases he : K = s.data.toList
      · have g1 : (K == s.toList) = true := by rw [lit_eq]; exact decide_eq_true he
        have HE := Lib.hid he
        clear he
        go_wp2_with fail
        refine HC.out.mono ?_
        rintro e w1 ⟨rfl, hb1⟩
        go_wp2_with fail
        go_ret
        rw [← HE.out, HF.out]
        exact ⟨rfl, hb.out.trans (hb1.mono hb.out.size)⟩
      · have g1 : (K == s.toList) = false := by rw [lit_eq]; exact decide_eq_false he
        have HNX : Hid (∀ j, j < k + 1 → kN j ≠ s.data.toList) := Lib.hid (fun j h => by
          rcases Nat.lt_or_ge j k with h' | h'
          · exact hno.out j h'
          · rw [show j = k by omega, HK.out]
            exact he)
        clear he
        go_wp2_with fail
        refine HC.out.mono ?_
        rintro e w1 ⟨rfl, hb1⟩
        go_wp2_with fail
        go_roundw
        case rel => exact ⟨k + 1, by omega, by go_num, HNX, Lib.hid (hb.out.trans (hb1.mono hb.out.size))⟩
        case measure => simp [intOf]; omega
    · obtain rfl : k = 5 := by omega
      have HN : Hid (flagL s.data.toList = s.data.toList) := Lib.hid (by unfold flagL; rw [if_pos (own_none hno.out)])
      go_wp2_with fail
      go_ret
      rw [HN.out]
      exact ⟨congrArg (fun x => Ending.returned (.string x)) (text_of (s := s) rfl), hb.out⟩

/-! ### Key -/
theorem key_fN : ∀ k : Nat, k < 5 → keyF (Tx.foldL (fN k)) = some (kN k)
  | 0, _ => by decide +kernel
  | 1, _ => by decide +kernel
  | 2, _ => by decide +kernel
  | 3, _ => by decide +kernel
  | 4, _ => by decide +kernel
  | k + 5, h => by omega
theorem fold_fN : ∀ k : Nat, k < 5 → ∃ r, kN k = 36 :: r ∧ Tx.foldL (fN k) = 92 :: r
  | 0, _ => ⟨kAns.tail, by decide +kernel, by decide +kernel⟩
  | 1, _ => ⟨kFlg.tail, by decide +kernel, by decide +kernel⟩
  | 2, _ => ⟨kDel.tail, by decide +kernel, by decide +kernel⟩
  | 3, _ => ⟨kSeen.tail, by decide +kernel, by decide +kernel⟩
  | 4, _ => ⟨kDra.tail, by decide +kernel, by decide +kernel⟩
  | k + 5, h => by omega
theorem fN_len (k : Nat) : (fN k).length ≤ 9 := by
  unfold fN
  split <;> decide
theorem right_bs (r : List UInt8) : rightL (92 :: r) = false := by
  simp [rightL, Tx.atomL, Tx.atomB]
theorem keyF_else {F : List UInt8} (h : ∀ j, j < 5 → Tx.foldL (fN j) ≠ F) : keyF F = if rightL F then some F else none := by
  rcases (show (∃ r, F = 92 :: r) ∨ ∀ r, F ≠ 92 :: r by
    rcases Classical.em (∃ r, F = 92 :: r) with h | h
    · exact Or.inl h
    · exact Or.inr (fun r e => h ⟨r, e⟩)) with ⟨r, rfl⟩ | hno
  · rw [keyF_bs, right_bs, if_pos, if_neg (by decide)]
    refine own_none fun j hj e => ?_
    obtain ⟨q, h1, h2⟩ := fold_fN j hj
    rw [h1] at e
    injection e with _ e
    exact h j hj (by rw [h2, e])
  · exact keyF_other hno

set_option maxHeartbeats 1000000 in
set_option maxRecDepth 100000 in
theorem rkey_any (s : ByteArray) (w : World) (hs : s.size ≤ 1099511627) :
    Calls Try.prog 11 #[.string s] w fun e w' => e = .returned (keyV (keyL s.data.toList)) ∧ Below w.heap.size w w' := by
  have hfl := Tx.foldL_length s.data.toList
  rw [← Lib.size_eq] at hfl
  obtain ⟨F, hF⟩ : ∃ F, Tx.foldL s.data.toList = F := ⟨_, rfl⟩
  have HK : Hid (keyL s.data.toList = keyF F) := Lib.hid (by unfold keyL; rw [hF])
  have HFold : Hid (∀ W, Calls Try.prog 23 #[.string s] W fun e w' => e = .returned (.string ⟨F.toArray⟩) ∧ Below W.heap.size W w') := Lib.hid (fun W => by rw [← hF]; exact rfold_any s W (by omega))
  have HFS : Hid (∀ (k : Nat) (W : World), Calls Try.prog 23 #[.string ⟨(fN k).toArray⟩] W fun e w' => e = .returned (.string ⟨(Tx.foldL (fN k)).toArray⟩) ∧ Below W.heap.size W w') := Lib.hid (fun k W => rfold_any ⟨(fN k).toArray⟩ W (by rw [Lib.size_mk]; have := fN_len k; omega))
  have HRI : Hid (∀ W, Calls Try.prog 15 #[.string ⟨F.toArray⟩] W fun e w' => e = .returned (.bool (rightL F)) ∧ Below W.heap.size W w') := Lib.hid (fun W => rright_any ⟨F.toArray⟩ W (by rw [Lib.size_mk]; rw [hF] at hfl; omega))
  clear hF hfl hs
  go_enter Try.func11, Try.ntmps11
  go_wp2_with fail
  go_loopw [4] (fun i wr => ∃ k : Nat, k ≤ 5 ∧ i = .int .i64 (k : Int) ∧ Hid (∀ j, j < k → Tx.foldL (fN j) ≠ F) ∧ Hid (Below w.heap.size w wr)) (fun i _ => 5 - (intOf i).toNat)
  case atStart => exact ⟨0, Nat.zero_le _, rfl, Lib.hid (fun j h => by omega), Lib.hid (Below.refl _ _)⟩
  case round =>
    obtain ⟨k, hk, rfl, hno, hb⟩ := hrel
    by_cases hlt : k < 5
    · have gk : (k : Int) < 5 := by omega
      have HKF := Lib.hid (key_fN k hlt)
      have HC := Lib.hid (system_any k wr hlt)
      have HFK := Lib.hid (HFS.out k)
      obtain ⟨G, hG⟩ : ∃ G, Tx.foldL (fN k) = G := ⟨_, rfl⟩
      have HG := Lib.hid hG
      rw [hG] at HFK HKF
      clear hG
      obtain ⟨K, hK⟩ : ∃ K, kN k = K := ⟨_, rfl⟩
      obtain ⟨X, hX⟩ : ∃ X, fN k = X := ⟨_, rfl⟩
      rw [hK] at HC HKF
      rw [hX] at HC HFK HG
      have HX := Lib.hid hX
      clear hK hX
      by_cases he : G = F
      · subst he
        go_wp2_with fail
        refine HC.out.mono ?_
        rintro e w1 ⟨rfl, hb1⟩
        have HB1 := Lib.hid (hb.out.trans (hb1.mono hb.out.size))
        go_wp2_with fail
        refine (HFK.out w1).mono ?_
        rintro e w2 ⟨rfl, hb2⟩
        have HB2 := Lib.hid (HB1.out.trans (hb2.mono HB1.out.size))
        go_wp2_with fail
        refine (HFold.out w2).mono ?_
        rintro e w3 ⟨rfl, hb3⟩
        have HB3 := Lib.hid (HB2.out.trans (hb3.mono HB2.out.size))
        clear hb1 hb2 hb3
        go_wp2_with fail
        go_ret2
        refine ⟨?_, HB3.out⟩
        rw [HK.out, HKF.out]
        rfl
      · have g1 : (G == F) = false := by simpa using he
        have HNX : Hid (∀ j, j < k + 1 → Tx.foldL (fN j) ≠ F) := Lib.hid (fun j h => by
          rcases Nat.lt_or_ge j k with h' | h'
          · exact hno.out j h'
          · rw [show j = k by omega, HX.out, HG.out]
            exact he)
        clear he
        go_wp2_with fail
        refine HC.out.mono ?_
        rintro e w1 ⟨rfl, hb1⟩
        have HB1 := Lib.hid (hb.out.trans (hb1.mono hb.out.size))
        go_wp2_with fail
        refine (HFK.out w1).mono ?_
        rintro e w2 ⟨rfl, hb2⟩
        have HB2 := Lib.hid (HB1.out.trans (hb2.mono HB1.out.size))
        go_wp2_with fail
        refine (HFold.out w2).mono ?_
        rintro e w3 ⟨rfl, hb3⟩
        have HB3 := Lib.hid (HB2.out.trans (hb3.mono HB2.out.size))
        clear hb1 hb2 hb3
        go_wp2_with fail
        go_roundw
        case rel => exact ⟨k + 1, by omega, by go_num, HNX, HB3⟩
        case measure => simp [intOf]; omega
    · obtain rfl : k = 5 := by omega
      have HE := Lib.hid (keyF_else hno.out)
      cases hr : rightL F
      · rw [hr] at HE HRI
        clear hr
        go_wp2_with fail
        refine (HFold.out wr).mono ?_
        rintro e w1 ⟨rfl, hb1⟩
        have HB1 := Lib.hid (hb.out.trans (hb1.mono hb.out.size))
        go_wp2_with fail
        refine (HRI.out w1).mono ?_
        rintro e w2 ⟨rfl, hb2⟩
        have HB2 := Lib.hid (HB1.out.trans (hb2.mono HB1.out.size))
        go_wp2_with fail
        go_ret2
        refine ⟨?_, HB2.out⟩
        rw [HK.out, HE.out, if_neg (by decide)]
        rfl
      · rw [hr] at HE HRI
        clear hr
        go_wp2_with fail
        refine (HFold.out wr).mono ?_
        rintro e w1 ⟨rfl, hb1⟩
        have HB1 := Lib.hid (hb.out.trans (hb1.mono hb.out.size))
        go_wp2_with fail
        refine (HRI.out w1).mono ?_
        rintro e w2 ⟨rfl, hb2⟩
        have HB2 := Lib.hid (HB1.out.trans (hb2.mono HB1.out.size))
        go_wp2_with fail
        go_ret2
        refine ⟨?_, HB2.out⟩
        rw [HK.out, HE.out, if_pos trivial]
        rfl
end Go.Proofs.Ytggnkpbadfabcaa.Fg
