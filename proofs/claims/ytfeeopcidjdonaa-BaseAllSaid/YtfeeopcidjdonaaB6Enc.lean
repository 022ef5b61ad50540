/-
  base64.writeFour writes the four signs of one to three bytes behind what a Builder holds; base64.Encode returns a text's base64. Condition: the text has at most 2^40 bytes.
-/
import Derived.Test.YtfeeopcidjdonaaB6Plain
import Derived.Test.YtfeeopcidjdonaaKit
import Derived.Test.YtfeeopcidjdonaaShelf
import Derived.IntWalk
namespace Go.Proofs.Ytfeeopcidjdonaa.B6
open Go Go.RowKit Go.Joins Kit

theorem wraps_i64 (n : Int) (h₀ : 0 ≤ n) (h₁ : n < 2 ^ 62) : IntKind.i64.wrap n = n := by rw [IntKind.wrap_i64]; omega
theorem and63 (r : Int) (h0 : 0 ≤ r) (h1 : r < 4611686018427387904) : bits .and .i64 r 63 = r % 64 := bits_mask .i64 62 (by decide) wraps_i64 6 (by decide) r h0 (by omega)
theorem and15 (r : Int) (h0 : 0 ≤ r) (h1 : r < 4611686018427387904) : bits .and .i64 r 15 = r % 16 := bits_mask .i64 62 (by decide) wraps_i64 4 (by decide) r h0 (by omega)
theorem and3 (r : Int) (h0 : 0 ≤ r) (h1 : r < 4611686018427387904) : bits .and .i64 r 3 = r % 4 := bits_mask .i64 62 (by decide) wraps_i64 2 (by decide) r h0 (by omega)
theorem or8 (x y : Int) (h0 : 0 ≤ x) (h1 : x < 4611686018427387904) (h2 : x % 256 = 0) (h3 : 0 ≤ y) (h4 : y < 256) : bits .or .i64 x y = x + y :=
  bits_join .i64 62 (by decide) wraps_i64 8 x y h0 h2 (by omega) h3 h4 (by omega)
theorem or6 (x y : Int) (h0 : 0 ≤ x) (h1 : x < 4611686018427387904) (h2 : x % 64 = 0) (h3 : 0 ≤ y) (h4 : y < 64) : bits .or .i64 x y = x + y :=
  bits_join .i64 62 (by decide) wraps_i64 6 x y h0 h2 (by omega) h3 h4 (by omega)
theorem getD_at (s : ByteArray) (k : Nat) (h : k < s.size) : s.data.toList.getD k 0 = s[k] := by
  have hl : k < s.data.toList.length := by rw [← Lib.size_eq]; exact h
  rw [List.getD_eq_getElem?_getD, List.getElem?_eq_getElem hl, Option.getD_some, byte_get s k h]
theorem getD_end (s : ByteArray) (k : Nat) (h : s.size ≤ k) : s.data.toList.getD k 0 = 0 := by
  rw [List.getD_eq_getElem?_getD, List.getElem?_eq_none (by rw [← Lib.size_eq]; exact h)]
  rfl
theorem bitsL_le (l : List UInt8) (k : Nat) (h : k ≤ 3) : bitsL l k ≤ 16777215 := by
  have h1 := bitsL_lt l k
  rcases (show k = 0 ∨ k = 1 ∨ k = 2 ∨ k = 3 by omega) with rfl | rfl | rfl | rfl <;> simp at h1 <;> omega

theorem alpha_get (k : Nat) (h : k < (ByteArray.mk #[65, 66, 67, 68, 69, 70, 71, 72, 73, 74, 75, 76, 77, 78, 79, 80, 81, 82, 83, 84, 85, 86, 87, 88, 89, 90, 97, 98, 99, 100, 101, 102, 103, 104, 105, 106, 107, 108, 109, 110, 111, 112, 113, 114, 115, 116, 117, 118, 119, 120, 121, 122, 48, 49, 50, 51, 52, 53, 54, 55, 56, 57, 43, 47]).size) : (ByteArray.mk #[65, 66, 67, 68, 69, 70, 71, 72, 73, 74, 75, 76, 77, 78, 79, 80, 81, 82, 83, 84, 85, 86, 87, 88, 89, 90, 97, 98, 99, 100, 101, 102, 103, 104, 105, 106, 107, 108, 109, 110, 111, 112, 113, 114, 115, 116, 117, 118, 119, 120, 121, 122, 48, 49, 50, 51, 52, 53, 54, 55, 56, 57, 43, 47])[k]'h = sg k := by
  have hk : k < 64 := h
  rw [← byte_get]
  unfold sg
  rw [List.getD_eq_getElem?_getD, List.getElem?_eq_getElem (show k < alphaL.length from hk), Option.getD_some]
  rfl
theorem sign_at {l : List UInt8} {i v k : Nat} (hv : bitsL l 3 = v) (h : i ≤ l.length) (hk : v / 64 ^ (3 - i) % 64 = k) : signL l i = sg k := signL_sg h (by rw [hv]; exact hk)
theorem cells_sign (l0 l : List UInt8) (i : Nat) (h : i < 4) : Lib.byteCells (l0 ++ (quadL l).take (i + 1)) = Lib.byteCells (l0 ++ (quadL l).take i) ++ [.int .u8 ((signL l i).toNat : Int)] := by
  rw [quadL_get l i h, ← List.append_assoc, cells_snoc]

set_option maxHeartbeats 1000000 in
set_option maxRecDepth 100000 in
theorem writeFour_any (B b : Nat) (l0 : List UInt8) (s : ByteArray) (w : World) (h : Lib.IsBuilder 38 5 B b (Lib.byteCells l0) w) (hl : l0.length ≤ 1099511627776) (hBw : B ≤ w.heap.size) (s1 : 1 ≤ s.size) (s3 : s.size ≤ 3) :
    Calls Try.prog 17 #[.pointer (some ⟨b, 0, none⟩), .string s] w fun e w' => e = .returned (.tuple #[]) ∧ (Lib.IsBuilder 38 5 B b (Lib.byteCells (l0 ++ quadL s.data.toList)) w' ∧ Below B w w') := by
  go_enter Try.func17, Try.ntmps17
  go_wp2_with fail
  go_loop [4, 7] (fun v i => ∃ k : Nat, k ≤ 3 ∧ i = .int .i64 k ∧ v = .int .i64 (bitsL s.data.toList k : Nat)) (fun _ i => 3 - (intOf i).toNat)
  case atStart => exact ⟨0, by omega, rfl, rfl⟩
  case round =>
    obtain ⟨k, hk, rfl, rfl⟩ := hrel
    by_cases hlt : k < 3
    · have g1 : (k : Int) < 3 := by omega
      have hv := bitsL_le s.data.toList k hk
      by_cases hs : k < s.size
      · have hnx : Hid (bitsL s.data.toList (k + 1) = bitsL s.data.toList k * 256 + s[k].toNat) := by show _ = _; rw [bitsL, getD_at s k hs]
        have hc := s[k].toNat_lt
        have e1 := or8 (bitsL s.data.toList k * 256 : Int) (s[k].toNat) (by omega) (by omega) (by omega) (by omega) (by omega)
        go_wp2
        go_round
        case rel => exact ⟨k + 1, by omega, by go_num, by rw [hnx.out]; go_num⟩
        case measure => simp [intOf]; omega
      · have hnx : Hid (bitsL s.data.toList (k + 1) = bitsL s.data.toList k * 256) := by show _ = _; rw [bitsL, getD_end s k (by omega)]; rfl
        have g2 : ¬ (k : Int) < s.size := by omega
        go_wp2
        go_round
        case rel => exact ⟨k + 1, by omega, by go_num, by rw [hnx.out]; go_num⟩
        case measure => simp [intOf]; omega
    · have he : k = 3 := by omega
      subst he
      have hv := bitsL_le s.data.toList 3 hk
      obtain ⟨v, hv'⟩ : ∃ v, bitsL s.data.toList 3 = v := ⟨_, rfl⟩
      rw [hv'] at hv ⊢
      have HV := Lib.hid hv'
      clear hv' hlt hk
      go_wp2_with fail
      have hb0 := Below.refl B w
      have hBw' := hBw
      go_loopw [23] (fun i wr => ∃ k : Nat, k ≤ 4 ∧ i = .int .i64 k ∧ Lib.IsBuilder 38 5 B b (Lib.byteCells (l0 ++ (quadL s.data.toList).take k)) wr ∧ Below B w wr) (fun i _ => 4 - (intOf i).toNat)
      case atStart => exact ⟨0, by omega, rfl, by simpa using h, hb0⟩
      case round =>
        obtain ⟨k, hk, rfl, hI, hb⟩ := hrel
        have hql : ((quadL s.data.toList).take k).length ≤ 4 := by rw [List.length_take]; exact Nat.le_trans (Nat.min_le_right _ _) (Nat.le_refl 4)
        rcases (show k = 0 ∨ k = 1 ∨ k = 2 ∨ k = 3 ∨ k = 4 by omega) with rfl | rfl | rfl | rfl | rfl
        · have hsg : Hid (signL s.data.toList 0 = sg (v / 262144 % 64)) := sign_at HV.out (by rw [← Lib.size_eq]; omega) (by rw [show 64 ^ (3 - 0) = 262144 from rfl])
          have hnx := Lib.hid (cells_sign l0 s.data.toList 0 (by decide))
          have ea := and63 ((v : Int) / 262144) (by omega) (by omega)
          have hsz : B ≤ wr.heap.size := Nat.le_trans hBw' hb.size
          go_wp2_with fail
          rw [alpha_get, ← hsg.out]
          refine (Try.Builder_WriteByte B b _ _ _ hI (by rw [Lib.byteCells_length, List.length_append]; omega) hsz).mono ?_
          rintro e w2 ⟨rfl, h2, hb2⟩
          rw [← hnx.out] at h2
          go_wp2
          go_roundw
          case rel => exact ⟨1, by omega, rfl, Or.inr h2, hb.trans hb2⟩
          case measure => simp [intOf]
        · have hsg : Hid (signL s.data.toList 1 = sg (v / 4096 % 64)) := sign_at HV.out (by rw [← Lib.size_eq]; omega) (by rw [show 64 ^ (3 - 1) = 4096 from rfl])
          have hnx := Lib.hid (cells_sign l0 s.data.toList 1 (by decide))
          have ea := and63 ((v : Int) / 4096) (by omega) (by omega)
          have hsz : B ≤ wr.heap.size := Nat.le_trans hBw' hb.size
          go_wp2_with fail
          rw [alpha_get, ← hsg.out]
          refine (Try.Builder_WriteByte B b _ _ _ hI (by rw [Lib.byteCells_length, List.length_append]; omega) hsz).mono ?_
          rintro e w2 ⟨rfl, h2, hb2⟩
          rw [← hnx.out] at h2
          go_wp2
          go_roundw
          case rel => exact ⟨2, by omega, rfl, Or.inr h2, hb.trans hb2⟩
          case measure => simp [intOf]
        · by_cases hs : 2 ≤ s.size
          · have g2 : (2 : Int) ≤ s.size := by omega
            have hsg : Hid (signL s.data.toList 2 = sg (v / 64 % 64)) := sign_at HV.out (by rw [← Lib.size_eq]; omega) (by rw [show 64 ^ (3 - 2) = 64 from rfl])
            have hnx := Lib.hid (cells_sign l0 s.data.toList 2 (by decide))
            have ea := and63 ((v : Int) / 64) (by omega) (by omega)
            have hsz : B ≤ wr.heap.size := Nat.le_trans hBw' hb.size
            go_wp2_with fail
            rw [alpha_get, ← hsg.out]
            refine (Try.Builder_WriteByte B b _ _ _ hI (by rw [Lib.byteCells_length, List.length_append]; omega) hsz).mono ?_
            rintro e w2 ⟨rfl, h2, hb2⟩
            rw [← hnx.out] at h2
            go_wp2
            go_roundw
            case rel => exact ⟨3, by omega, rfl, Or.inr h2, hb.trans hb2⟩
            case measure => simp [intOf]
          · have g2 : ¬ (2 : Int) ≤ s.size := by omega
            have hsg : Hid (signL s.data.toList 2 = 61) := signL_pad (by rw [← Lib.size_eq]; omega)
            have hnx := Lib.hid (cells_sign l0 s.data.toList 2 (by decide))
            have hsz : B ≤ wr.heap.size := Nat.le_trans hBw' hb.size
            go_wp2_with fail
            refine (Try.Builder_WriteByte B b _ 61 _ hI (by rw [Lib.byteCells_length, List.length_append]; omega) hsz).mono ?_
            rintro e w2 ⟨rfl, h2, hb2⟩
            rw [show (61 : Int) = ((signL s.data.toList 2).toNat : Int) by rw [hsg.out]; rfl, ← hnx.out] at h2
            go_wp2
            go_roundw
            case rel => exact ⟨3, by omega, rfl, Or.inr h2, hb.trans hb2⟩
            case measure => simp [intOf]
        · by_cases hs : 3 ≤ s.size
          · have g2 : (3 : Int) ≤ s.size := by omega
            have hsg : Hid (signL s.data.toList 3 = sg (v % 64)) := sign_at HV.out (by rw [← Lib.size_eq]; omega) (by rw [show 64 ^ (3 - 3) = 1 from rfl]; omega)
            have hnx := Lib.hid (cells_sign l0 s.data.toList 3 (by decide))
            have ea := and63 ((v : Int)) (by omega) (by omega)
            have hsz : B ≤ wr.heap.size := Nat.le_trans hBw' hb.size
            go_wp2_with fail
            rw [alpha_get, ← hsg.out]
            refine (Try.Builder_WriteByte B b _ _ _ hI (by rw [Lib.byteCells_length, List.length_append]; omega) hsz).mono ?_
            rintro e w2 ⟨rfl, h2, hb2⟩
            rw [← hnx.out] at h2
            go_wp2
            go_roundw
            case rel => exact ⟨4, by omega, rfl, Or.inr h2, hb.trans hb2⟩
            case measure => simp [intOf]
          · have g2 : ¬ (3 : Int) ≤ s.size := by omega
            have hsg : Hid (signL s.data.toList 3 = 61) := signL_pad (by rw [← Lib.size_eq]; omega)
            have hnx := Lib.hid (cells_sign l0 s.data.toList 3 (by decide))
            have hsz : B ≤ wr.heap.size := Nat.le_trans hBw' hb.size
            go_wp2_with fail
            refine (Try.Builder_WriteByte B b _ 61 _ hI (by rw [Lib.byteCells_length, List.length_append]; omega) hsz).mono ?_
            rintro e w2 ⟨rfl, h2, hb2⟩
            rw [show (61 : Int) = ((signL s.data.toList 3).toNat : Int) by rw [hsg.out]; rfl, ← hnx.out] at h2
            go_wp2
            go_roundw
            case rel => exact ⟨4, by omega, rfl, Or.inr h2, hb.trans hb2⟩
            case measure => simp [intOf]
        · go_wp2
          go_end0
          exact ⟨rfl, by simpa [quadL] using hI, hb⟩

theorem enc_zero (l : List UInt8) : encL (l.take 0) = [] := by simp [encL, letL, six, padN]
theorem enc_step (s : ByteArray) (a : Nat) (h : a % 3 = 0) (hlt : a < s.size) (t : ByteArray) (ht : t.data.toList = (s.data.toList.drop a).take 3) :
    encL (s.data.toList.take (a + 3)) = encL (s.data.toList.take a) ++ quadL t.data.toList ∧ 1 ≤ t.size ∧ t.size ≤ 3 := by
  have hl : s.data.toList.length = s.size := (Lib.size_eq s).symm
  have hn : t.size = min 3 (s.size - a) := by rw [Lib.size_eq, ht, List.length_take, List.length_drop, hl]
  have h1 : 1 ≤ t.size := by omega
  have h3 : t.size ≤ 3 := by omega
  refine ⟨?_, h1, h3⟩
  rw [Lib.size_eq] at h1 h3
  rw [List.take_add, encL_append _ _ (by rw [List.length_take, hl]; omega), ← ht, (enc_quad _ h1 h3).1]
theorem extract_three (s : ByteArray) (a b : Nat) (h : b = a + 3 ∨ (b = s.size ∧ s.size ≤ a + 3)) : (s.extract a b).data.toList = (s.data.toList.drop a).take 3 := by
  have hx : (s.extract a b).data.toList = (s.data.toList.drop a).take (b - a) := by rw [← Lib.toList_data, Lib.extract_toList]
  rw [hx]
  rcases h with h | ⟨h, h2⟩
  · rw [show b - a = 3 by omega]
  · have hl : s.data.toList.length = s.size := (Lib.size_eq s).symm
    rw [List.take_of_length_le (by rw [List.length_drop]; omega), List.take_of_length_le (by rw [List.length_drop]; omega)]

set_option maxHeartbeats 1000000 in
set_option maxRecDepth 100000 in
theorem encode_any (s : ByteArray) (w : World) (hs : s.size ≤ 1099511627) :
    Calls Try.prog 11 #[.string s] w fun e w' => e = .returned (.string ⟨(encL s.data.toList).toArray⟩) ∧ Below w.heap.size w w' := by
  have hlen := Lib.hid (Lib.size_eq s)
  go_enter Try.func11, Try.ntmps11
  go_wp2_with fail
  refine (Try.Builder_Grow_fresh w.heap.size w.heap.size ((s.size + 2) / 3 * 4) _ (Nat.le_refl _) (fresh_block w _ _) (by simp) (by omega)).mono ?_
  rintro e w1 ⟨rfl, hI, hb1⟩
  have hb0 : Below w.heap.size w w1 := ((Below.refl _ w).alloc (Nat.le_refl _) _).trans hb1
  clear hb1
  have hsz : w.heap.size ≤ w1.heap.size := hb0.size
  have hI0 : Lib.IsBuilder 38 5 w.heap.size w.heap.size (Lib.byteCells (encL (s.data.toList.take 0))) w1 := by
    rw [enc_zero]
    exact Or.inr hI
  clear hI
  go_wp2_with fail
  go_loopw [4] (fun i wr => ∃ k : Nat, k % 3 = 0 ∧ k ≤ s.size + 2 ∧ i = .int .i64 k ∧ Lib.IsBuilder 38 5 w.heap.size w.heap.size (Lib.byteCells (encL (s.data.toList.take k))) wr ∧ Below w.heap.size w wr) (fun i _ => s.size + 3 - (intOf i).toNat)
  case atStart => exact ⟨0, rfl, Nat.zero_le _, rfl, hI0, hb0⟩
  case round =>
    obtain ⟨k, h3, hk, rfl, hI, hb⟩ := hrel
    clear hI0 hb0 hsz
    have hsz : w.heap.size ≤ wr.heap.size := hb.size
    have hlen0 : (encL (s.data.toList.take k)).length ≤ 1099511627776 := by
      rw [encL_length, List.length_take, ← hlen.out]
      omega
    by_cases hlt : k < s.size
    · have g1 : (k : Int) < s.size := by omega
      by_cases hm : k + 3 ≤ s.size
      · have hst := enc_step s k h3 hlt _ (extract_three s k (k + 3) (Or.inl rfl))
        obtain ⟨hst, s1, s3⟩ := hst
        have HST := Lib.hid hst
        clear hst
        have g2 : min ((k : Int) + 3) s.size = k + 3 := by omega
        go_wp2_with fail
        refine (writeFour_any w.heap.size w.heap.size _ _ _ hI hlen0 hsz s1 s3).mono ?_
        rintro e w2 ⟨rfl, h2, hb2⟩
        rw [← HST.out] at h2
        go_wp2
        go_roundw
        case rel => exact ⟨k + 3, by omega, by omega, by go_num, h2, hb.trans hb2⟩
        case measure => simp [intOf]; omega
      · have hst := enc_step s k h3 hlt _ (extract_three s k s.size (Or.inr ⟨rfl, by omega⟩))
        obtain ⟨hst, s1, s3⟩ := hst
        have HST := Lib.hid hst
        clear hst
        have g2 : min ((k : Int) + 3) s.size = s.size := by omega
        go_wp2_with fail
        refine (writeFour_any w.heap.size w.heap.size _ _ _ hI hlen0 hsz s1 s3).mono ?_
        rintro e w2 ⟨rfl, h2, hb2⟩
        rw [← HST.out] at h2
        go_wp2
        go_roundw
        case rel => exact ⟨k + 3, by omega, by omega, by go_num, h2, hb.trans hb2⟩
        case measure => simp [intOf]; omega
    · rw [List.take_of_length_le (by rw [← hlen.out]; omega)] at hI
      have g1 : ¬ (k : Int) < s.size := by omega
      go_wp2_with fail
      refine (Try.Builder_String_any w.heap.size w.heap.size _ _ hI hsz).mono ?_
      rintro e w2 ⟨rfl, hb2⟩
      go_wp2
      go_ret
      exact ⟨rfl, hb.trans hb2⟩
end Go.Proofs.Ytfeeopcidjdonaa.B6
