/-
  base64.writeFour writes the four signs of one to three bytes behind what a Builder holds; base64.Encode returns a text's base64. Condition: the text has at most 2^40 bytes.
-/
import Derived.Test.YtkgmiookeagfcaaDoorB6Kit
import Derived.Test.YtkgmiookeagfcaaDoorShelf
namespace Go.Proofs.YtkgmiookeagfcaaDoor.B6
open Go Go.RowKit Go.Joins Kit

set_option maxHeartbeats 1000000 in
set_option maxRecDepth 100000 in
theorem writeFour_any (B b : Nat) (l0 : List UInt8) (s : ByteArray) (w : World) (h : Lib.IsBuilder 57 5 B b (Lib.byteCells l0) w) (hl : l0.length ≤ 1099511627776) (hBw : B ≤ w.heap.size) (s1 : 1 ≤ s.size) (s3 : s.size ≤ 3) :
    Calls Tryd.prog 35 #[.pointer (some ⟨b, 0, none⟩), .string s] w fun e w' => e = .returned (.tuple #[]) ∧ (Lib.IsBuilder 57 5 B b (Lib.byteCells (l0 ++ quadL s.data.toList)) w' ∧ Below B w w') := by
  go_enter Tryd.func35, Tryd.ntmps35
  go_wp2_with fail
  go_loop [4, 7] (fun v i => ∃ k : Nat, k ≤ 3 ∧ i = .int .i64 k ∧ v = .int .i64 (bitsL s.data.toList k : Nat)) (fun _ i => 3 - (intOf i).toNat)
  case atStart => exact ⟨0, by omega, rfl, rfl⟩
  case round =>
    obtain ⟨k, hk, rfl, rfl⟩ := hrel
    by_cases hlt : k < 3
    · have g1 : (k : Int) < 3 := by omega
      have hv := bitsL_le s.data.toList k hk
      by_cases hs : k < s.size
      · have hnx : Hid (bitsL s.data.toList (k + 1) = bitsL s.data.toList k * 256 + s[k].toNat) := by show _ = _; rw [bitsL, getD_at s k hs]
        have hc := s[k].toNat_lt
        have e1 := or8 (bitsL s.data.toList k * 256 : Int) (s[k].toNat) (by omega) (by omega) (by omega) (by omega) (by omega)
        go_wp2
        go_round
        case rel => exact ⟨k + 1, by omega, by go_num, by rw [hnx.out]; go_num⟩
        case measure => simp [intOf]; omega
      · have hnx : Hid (bitsL s.data.toList (k + 1) = bitsL s.data.toList k * 256) := by show _ = _; rw [bitsL, getD_end s k (by omega)]; rfl
        have g2 : ¬ (k : Int) < s.size := by omega
        go_wp2
        go_round
        case rel => exact ⟨k + 1, by omega, by go_num, by rw [hnx.out]; go_num⟩
        case measure => simp [intOf]; omega
    · have he : k = 3 := by omega
      subst he
      have hv := bitsL_le s.data.toList 3 hk
      obtain ⟨v, hv'⟩ : ∃ v, bitsL s.data.toList 3 = v := ⟨_, rfl⟩
      rw [hv'] at hv ⊢
      have HV := Lib.hid hv'
      clear hv' hlt hk
      go_wp2_with fail
      have hb0 := Below.refl B w
      have hBw' := hBw
      go_loopw [23] (fun i wr => ∃ k : Nat, k ≤ 4 ∧ i = .int .i64 k ∧ Lib.IsBuilder 57 5 B b (Lib.byteCells (l0 ++ (quadL s.data.toList).take k)) wr ∧ Below B w wr) (fun i _ => 4 - (intOf i).toNat)
      case atStart => exact ⟨0, by omega, rfl, by simpa using h, hb0⟩
      case round =>
        obtain ⟨k, hk, rfl, hI, hb⟩ := hrel
        have hql : ((quadL s.data.toList).take k).length ≤ 4 := by rw [List.length_take]; exact Nat.le_trans (Nat.min_le_right _ _) (Nat.le_refl 4)
        rcases (show k = 0 ∨ k = 1 ∨ k = 2 ∨ k = 3 ∨ k = 4 by omega) with rfl | rfl | rfl | rfl | rfl
        · have hsg : Hid (signL s.data.toList 0 = sg (v / 262144 % 64)) := sign_at HV.out (by rw [← Lib.size_eq]; omega) (by rw [show 64 ^ (3 - 0) = 262144 from rfl])
          have hnx := Lib.hid (cells_sign l0 s.data.toList 0 (by decide))
          have ea := and63 ((v : Int) / 262144) (by omega) (by omega)
          have hsz : B ≤ wr.heap.size := Nat.le_trans hBw' hb.size
          go_wp2_with fail
          rw [alpha_get, ← hsg.out]
          refine (Tryd.Builder_WriteByte B b _ _ _ hI (by rw [Lib.byteCells_length, List.length_append]; omega) hsz).mono ?_
          rintro e w2 ⟨rfl, h2, hb2⟩
          rw [← hnx.out] at h2
          go_wp2
          go_roundw
          case rel => exact ⟨1, by omega, rfl, Or.inr h2, hb.trans hb2⟩
          case measure => simp [intOf]
        · have hsg : Hid (signL s.data.toList 1 = sg (v / 4096 % 64)) := sign_at HV.out (by rw [← Lib.size_eq]; omega) (by rw [show 64 ^ (3 - 1) = 4096 from rfl])
          have hnx := Lib.hid (cells_sign l0 s.data.toList 1 (by decide))
          have ea := and63 ((v : Int) / 4096) (by omega) (by omega)
          have hsz : B ≤ wr.heap.size := Nat.le_trans hBw' hb.size
          go_wp2_with fail
          rw [alpha_get, ← hsg.out]
          refine (Tryd.Builder_WriteByte B b _ _ _ hI (by rw [Lib.byteCells_length, List.length_append]; omega) hsz).mono ?_
          rintro e w2 ⟨rfl, h2, hb2⟩
          rw [← hnx.out] at h2
          go_wp2
          go_roundw
          case rel => exact ⟨2, by omega, rfl, Or.inr h2, hb.trans hb2⟩
          case measure => simp [intOf]
        · by_cases hs : 2 ≤ s.size
          · have g2 : (2 : Int) ≤ s.size := by omega
            have hsg : Hid (signL s.data.toList 2 = sg (v / 64 % 64)) := sign_at HV.out (by rw [← Lib.size_eq]; omega) (by rw [show 64 ^ (3 - 2) = 64 from rfl])
            have hnx := Lib.hid (cells_sign l0 s.data.toList 2 (by decide))
            have ea := and63 ((v : Int) / 64) (by omega) (by omega)
            have hsz : B ≤ wr.heap.size := Nat.le_trans hBw' hb.size
            go_wp2_with fail
            rw [alpha_get, ← hsg.out]
            refine (Tryd.Builder_WriteByte B b _ _ _ hI (by rw [Lib.byteCells_length, List.length_append]; omega) hsz).mono ?_
            rintro e w2 ⟨rfl, h2, hb2⟩
            rw [← hnx.out] at h2
            go_wp2
            go_roundw
            case rel => exact ⟨3, by omega, rfl, Or.inr h2, hb.trans hb2⟩
            case measure => simp [intOf]
          · have g2 : ¬ (2 : Int) ≤ s.size := by omega
            have hsg : Hid (signL s.data.toList 2 = 61) := signL_pad (by rw [← Lib.size_eq]; omega)
            have hnx := Lib.hid (cells_sign l0 s.data.toList 2 (by decide))
            have hsz : B ≤ wr.heap.size := Nat.le_trans hBw' hb.size
            go_wp2_with fail
            refine (Tryd.Builder_WriteByte B b _ 61 _ hI (by rw [Lib.byteCells_length, List.length_append]; omega) hsz).mono ?_
            rintro e w2 ⟨rfl, h2, hb2⟩
            rw [show (61 : Int) = ((signL s.data.toList 2).toNat : Int) by rw [hsg.out]; rfl, ← hnx.out] at h2
            go_wp2
            go_roundw
            case rel => exact ⟨3, by omega, rfl, Or.inr h2, hb.trans hb2⟩
            case measure => simp [intOf]
        · by_cases hs : 3 ≤ s.size
          · have g2 : (3 : Int) ≤ s.size := by omega
            have hsg : Hid (signL s.data.toList 3 = sg (v % 64)) := sign_at HV.out (by rw [← Lib.size_eq]; omega) (by rw [show 64 ^ (3 - 3) = 1 from rfl]; omega)
            have hnx := Lib.hid (cells_sign l0 s.data.toList 3 (by decide))
            have ea := and63 ((v : Int)) (by omega) (by omega)
            have hsz : B ≤ wr.heap.size := Nat.le_trans hBw' hb.size
            go_wp2_with fail
            rw [alpha_get, ← hsg.out]
            refine (Tryd.Builder_WriteByte B b _ _ _ hI (by rw [Lib.byteCells_length, List.length_append]; omega) hsz).mono ?_
            rintro e w2 ⟨rfl, h2, hb2⟩
            rw [← hnx.out] at h2
            go_wp2
            go_roundw
            case rel => exact ⟨4, by omega, rfl, Or.inr h2, hb.trans hb2⟩
            case measure => simp [intOf]
          · have g2 : ¬ (3 : Int) ≤ s.size := by omega
            have hsg : Hid (signL s.data.toList 3 = 61) := signL_pad (by rw [← Lib.size_eq]; omega)
            have hnx := Lib.hid (cells_sign l0 s.data.toList 3 (by decide))
            have hsz : B ≤ wr.heap.size := Nat.le_trans hBw' hb.size
            go_wp2_with fail
            refine (Tryd.Builder_WriteByte B b _ 61 _ hI (by rw [Lib.byteCells_length, List.length_append]; omega) hsz).mono ?_
            rintro e w2 ⟨rfl, h2, hb2⟩
            rw [show (61 : Int) = ((signL s.data.toList 3).toNat : Int) by rw [hsg.out]; rfl, ← hnx.out] at h2
            go_wp2
            go_roundw
            case rel => exact ⟨4, by omega, rfl, Or.inr h2, hb.trans hb2⟩
            case measure => simp [intOf]
        · go_wp2
          go_end0
          exact ⟨rfl, by simpa [quadL] using hI, hb⟩
set_option maxHeartbeats 1000000 in
set_option maxRecDepth 100000 in
theorem encode_any (s : ByteArray) (w : World) (hs : s.size ≤ 1099511627) :
    Calls Tryd.prog 20 #[.string s] w fun e w' => e = .returned (.string ⟨(encL s.data.toList).toArray⟩) ∧ Below w.heap.size w w' := by
  have hlen := Lib.hid (Lib.size_eq s)
  go_enter Tryd.func20, Tryd.ntmps20
  go_wp2_with fail
  refine (Tryd.Builder_Grow_fresh w.heap.size w.heap.size ((s.size + 2) / 3 * 4) _ (Nat.le_refl _) (fresh_block w _ _) (by simp) (by omega)).mono ?_
  rintro e w1 ⟨rfl, hI, hb1⟩
  have hb0 : Below w.heap.size w w1 := ((Below.refl _ w).alloc (Nat.le_refl _) _).trans hb1
  clear hb1
  have hsz : w.heap.size ≤ w1.heap.size := hb0.size
  have hI0 : Lib.IsBuilder 57 5 w.heap.size w.heap.size (Lib.byteCells (encL (s.data.toList.take 0))) w1 := by
    rw [enc_zero]
    exact Or.inr hI
  clear hI
  go_wp2_with fail
  go_loopw [4] (fun i wr => ∃ k : Nat, k % 3 = 0 ∧ k ≤ s.size + 2 ∧ i = .int .i64 k ∧ Lib.IsBuilder 57 5 w.heap.size w.heap.size (Lib.byteCells (encL (s.data.toList.take k))) wr ∧ Below w.heap.size w wr) (fun i _ => s.size + 3 - (intOf i).toNat)
  case atStart => exact ⟨0, rfl, Nat.zero_le _, rfl, hI0, hb0⟩
  case round =>
    obtain ⟨k, h3, hk, rfl, hI, hb⟩ := hrel
    clear hI0 hb0 hsz
    have hsz : w.heap.size ≤ wr.heap.size := hb.size
    have hlen0 : (encL (s.data.toList.take k)).length ≤ 1099511627776 := by
      rw [encL_length, List.length_take, ← hlen.out]
      omega
    by_cases hlt : k < s.size
    · have g1 : (k : Int) < s.size := by omega
      by_cases hm : k + 3 ≤ s.size
      · have hst := enc_step s k h3 hlt _ (extract_three s k (k + 3) (Or.inl rfl))
        obtain ⟨hst, s1, s3⟩ := hst
        have HST := Lib.hid hst
        clear hst
        have g2 : min ((k : Int) + 3) s.size = k + 3 := by omega
        go_wp2_with fail
        refine (writeFour_any w.heap.size w.heap.size _ _ _ hI hlen0 hsz s1 s3).mono ?_
        rintro e w2 ⟨rfl, h2, hb2⟩
        rw [← HST.out] at h2
        go_wp2
        go_roundw
        case rel => exact ⟨k + 3, by omega, by omega, by go_num, h2, hb.trans hb2⟩
        case measure => simp [intOf]; omega
      · have hst := enc_step s k h3 hlt _ (extract_three s k s.size (Or.inr ⟨rfl, by omega⟩))
        obtain ⟨hst, s1, s3⟩ := hst
        have HST := Lib.hid hst
        clear hst
        have g2 : min ((k : Int) + 3) s.size = s.size := by omega
        go_wp2_with fail
        refine (writeFour_any w.heap.size w.heap.size _ _ _ hI hlen0 hsz s1 s3).mono ?_
        rintro e w2 ⟨rfl, h2, hb2⟩
        rw [← HST.out] at h2
        go_wp2
        go_roundw
        case rel => exact ⟨k + 3, by omega, by omega, by go_num, h2, hb.trans hb2⟩
        case measure => simp [intOf]; omega
    · rw [List.take_of_length_le (by rw [← hlen.out]; omega)] at hI
      have g1 : ¬ (k : Int) < s.size := by omega
      go_wp2_with fail
      refine (Tryd.Builder_String_any w.heap.size w.heap.size _ _ hI hsz).mono ?_
      rintro e w2 ⟨rfl, hb2⟩
      go_wp2
      go_ret
      exact ⟨rfl, hb.trans hb2⟩
end Go.Proofs.YtkgmiookeagfcaaDoor.B6
