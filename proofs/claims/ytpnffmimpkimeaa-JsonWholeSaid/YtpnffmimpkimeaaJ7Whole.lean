/-
  The law JsonWhole returns true, of any number: the walk. Conditions: none.
-/
import Derived.Test.YtpnffmimpkimeaaJ7NumP
import Derived.Test.YtpnffmimpkimeaaJ7EscW
namespace Go.Proofs.Ytpnffmimpkimeaa.J7
open Go Go.RowKit Go.Joins Kit

/-- The eleven texts that are no numbers. -/
def badL (S : ByteArray) : Array Value := #[.string (S ++ ⟨#[46, 48]⟩), .string (S ++ ⟨#[101, 49]⟩), .string (⟨#[43]⟩ ++ S), .string ⟨#[48, 48]⟩, .string ⟨#[48, 49]⟩, .string ⟨#[45, 48]⟩, .string ⟨#[45]⟩, .string ⟨#[57, 48, 48, 55, 49, 57, 57, 50, 53, 52, 55, 52, 48, 57, 57, 50]⟩,
  .string ⟨#[45, 57, 48, 48, 55, 49, 57, 57, 50, 53, 52, 55, 52, 48, 57, 57, 50]⟩, .string ⟨#[49, 46]⟩, .string ⟨#[46, 49]⟩]
theorem badL_bad (S : ByteArray) (k : Int) (hS : S.data.toList = numT k) (k1 : k ≤ 9007199254740991) (k2 : -9007199254740991 ≤ k) : ∀ i, i < 11 → ∃ t, (badL S)[i]? = some (.string t) ∧ parseG numC t.data.toList = .error 3 := by
  intro i hi
  match i, hi with
  | 0, _ => exact ⟨_, rfl, by rw [cat_bS hS (b := ByteArray.mk #[46, 48]) (m := [46, 48]) rfl]; exact parse_numT_bad _ k1 k2 46 [48] (by decide) (by decide) (by decide)⟩
  | 1, _ => exact ⟨_, rfl, by rw [cat_bS hS (b := ByteArray.mk #[101, 49]) (m := [101, 49]) rfl]; exact parse_numT_bad _ k1 k2 101 [49] (by decide) (by decide) (by decide)⟩
  | 2, _ => exact ⟨_, rfl, by rw [cat_bS (a := ByteArray.mk #[43]) (l := [43]) rfl hS]; exact parse_plus (numT k) (by have := numT_short _ k1 k2; omega)⟩
  | 3, _ => exact ⟨_, rfl, by kernel_rfl⟩
  | 4, _ => exact ⟨_, rfl, by kernel_rfl⟩
  | 5, _ => exact ⟨_, rfl, by kernel_rfl⟩
  | 6, _ => exact ⟨_, rfl, by kernel_rfl⟩
  | 7, _ => exact ⟨_, rfl, by kernel_rfl⟩
  | 8, _ => exact ⟨_, rfl, by kernel_rfl⟩
  | 9, _ => exact ⟨_, rfl, by kernel_rfl⟩
  | 10, _ => exact ⟨_, rfl, by kernel_rfl⟩

set_option maxHeartbeats 2000000 in
set_option maxRecDepth 100000 in
theorem jsonWhole_walk (x : Int) (_xl : -9223372036854775808 ≤ x) (_xh : x ≤ 9223372036854775807) (w : World) :
    Calls Try.prog 7 #[.int .i64 x] w fun e w' => e = .returned (.bool true) ∧ Below w.heap.size w w' := by
  obtain ⟨k, hk⟩ : ∃ k, x.tmod 9007199254740992 = k := ⟨_, rfl⟩
  have k1 : k ≤ 9007199254740991 := by have := Int.tmod_lt_of_pos x (b := 9007199254740992) (by decide); omega
  have k2 : -9007199254740991 ≤ k := by have := Int.lt_tmod_of_pos x (b := 9007199254740992) (by decide); omega
  obtain ⟨S, hS⟩ : ∃ S : ByteArray, ⟨(numT k).toArray⟩ = S := ⟨_, rfl⟩
  have hpr := print_any (numJ k) (right_num k k1 k2 24) (by rw [put_num]; have := numT_short k k1 k2; omega) (fun _ => True) w _ _ _ _ _ (node_plain _ _ 4 k ⟨#[]⟩)
  rw [put_num, hS] at hpr
  have hSl : S.data.toList = numT k := by rw [← hS]
  have HS := Lib.hid hSl
  have hsz : (S.size : Int) ≤ 20 := by have := numT_short k k1 k2; rw [Lib.size_eq, hSl]; omega
  have hpk := parse_numT k k1 k2
  have HPK := Lib.hid hpk
  have wk : IntKind.i64.wrap k = k := by rw [IntKind.wrap_i64]; omega
  clear hSl hS hpk
  go_enter Try.func7, Try.ntmps7
  go_wp2_with fail
  refine hpr.mono ?_
  rintro e w1 ⟨rfl, hb1⟩
  clear hpr
  obtain ⟨N1, cap, gg1, w2, hconv, hby, hb2⟩ := conv_text S _ HS.out w1
  have hp := parse_any _ _ w2 hby
  rw [HPK.out] at hp
  clear hby
  go_upto_region 4 with fail
  refine hp.mono ?_
  intro e' w3 hL
  obtain ⟨hb3, x0, x1, x2, a3, l3, m3, a4, l4, m4, c, rfl, rfl, hn3⟩ := parse_forms hL
  have hbx := hb1.trans ((hb2.trans (hb3.mono hb2.size)).mono hb1.size)
  have hb4 := hbx.alloc hbx.size (.cells #[.int .i64 x0, .int .i64 x1, .string x2, .slice a3 l3 m3, .slice a4 l4 m4] 27)
  obtain ⟨t0, t1, -, -, -⟩ := node_cells hn3
  obtain rfl : x0 = 4 := by injection t0
  obtain rfl : x1 = k := by injection t1
  obtain ⟨w4, hw4⟩ : ∃ w4, w3.alloc (.cells #[.int .i64 4, .int .i64 x1, .string x2, .slice a3 l3 m3, .slice a4 l4 m4] 27) = w4 := ⟨_, rfl⟩
  obtain ⟨Gn, hGn⟩ : ∃ Gn, w3.heap.size = Gn := ⟨_, rfl⟩
  have hbk : w4.heap[Gn]? = some (.cells #[.int .i64 4, .int .i64 x1, .string x2, .slice a3 l3 m3, .slice a4 l4 m4] 27 (0, 0)) := by rw [← hw4, ← hGn]; exact fresh_block _ _ _
  have u0 : w4.cell? ⟨Gn, 0, none⟩ = some (.int .i64 4) := by rw [Lib.cell_of_heap hbk]; rfl
  have u1 : w4.cell? ⟨Gn, 1, none⟩ = some (.int .i64 x1) := by rw [Lib.cell_of_heap hbk]; rfl
  rw [hw4] at hb4
  have HW4 := Lib.hid hw4
  clear hL hp hconv hn3 hw4 t0 t1 hbk HPK
  have HBAD : Hid (∀ i, i < 11 → ∃ t, (badL S)[i]? = some (.string t) ∧ parseG numC t.data.toList = .error 3) := Lib.hid (badL_bad S x1 HS.out k1 k2)
  go_upto_region 6 with fail
  rw [HW4.out]
  (try rw [hGn])
  go_wp2_with fail
  refine (L3.num_any 0 _).mono ?_
  rintro e' w5 ⟨rfl, rfl⟩
  go_wp2_with fail
  obtain ⟨W, hW⟩ : ∃ W, w4.alloc (.cells (badL S) 9) = W := ⟨_, rfl⟩
  obtain ⟨Gt, hGt⟩ : ∃ Gt, w4.heap.size = Gt := ⟨_, rfl⟩
  have hbk : W.heap[Gt]? = some (.cells (badL S) 9 (0, 0)) := by rw [← hW, ← hGt]; exact fresh_block _ _ _
  have hgl : Gt < W.heap.size := (Array.getElem?_eq_some_iff.1 hbk).1
  have hb5 : Below w.heap.size w W := by rw [← hW]; exact hb4.alloc hb4.size _
  have HBK := Lib.hid hbk
  unfold badL at hW
  rw [hW, hGt]
  clear hbk hW hGt HW4 u0 u1 hb4 hbx hb1 hb2 hb3 HS hsz
  go_loopg [9] 11 (fun m v wr => ∃ i : Nat, m = 11 - i ∧ v = .int .i64 i ∧ i ≤ 11 ∧ Below W.heap.size W wr)
  case atStart => exact ⟨0, rfl, rfl, Nat.zero_le _, Below.refl _ _⟩
  case round =>
    obtain ⟨i, rfl, rfl, hi, hb⟩ := hrel
    by_cases hlt : i < 11
    · obtain ⟨t, ht1, ht2⟩ := HBAD.out i hlt
      have gi : (i : Int) < 11 := by omega
      have hc : wr.cell? ⟨Gt, i, none⟩ = some (.string t) := by
        rw [← ht1, Lib.cell_of_heap ((hb.block Gt hgl).trans HBK.out)]
      obtain ⟨N2, cap2, gg2, w6, hconv, hby, hb6⟩ := conv_text t _ rfl wr
      have hp := parse_any _ _ w6 hby
      rw [ht2] at hp
      clear hby ht1 ht2
      go_wp2_with fail
      refine hp.mono ?_
      intro e' w7 hL
      obtain ⟨hb7, x0, y1, y2, a5, l5, m5, a6, l6, m6, c, rfl, rfl, -⟩ := parse_forms hL
      have hb8 := (hb.trans ((hb6.trans (hb7.mono hb6.size)).mono hb.size)).alloc (by have := hb.size; have := hb6.size; have := hb7.size; omega) (.cells #[.int .i64 x0, .int .i64 y1, .string y2, .slice a5 l5 m5, .slice a6 l6 m6] 27)
      clear hL hp hconv
      go_wp2_with fail
      refine (L3.num_any 3 _).mono ?_
      rintro e' w8 ⟨rfl, rfl⟩
      go_wp2_with fail
      go_roundg (11 - (i + 1))
      case measure => omega
      case rel => exact ⟨i + 1, rfl, by go_num, by omega, hb8⟩
    · have gi : decide ((i : Int) < 11) = false := by rw [decide_eq_false_iff_not]; omega
      go_wp2_with fail
      refine (awake_any _).mono ?_
      rintro e' w9 ⟨rfl, hb9⟩
      go_wp2_with fail
      go_ret
      exact ⟨rfl, hb5.trans ((hb.trans (hb9.mono hb.size)).mono hb5.size)⟩
end Go.Proofs.Ytpnffmimpkimeaa.J7
