/-
  The law FlagAll returns true, of any text and list of texts. Condition: none of its own.
-/
import Derived.Test.YtggnkpbadfabcaaFgRKeys
import Derived.Test.YtggnkpbadfabcaaL3Num
namespace Go.Proofs.Ytggnkpbadfabcaa.Fg
open Go Go.RowKit Go.Joins Kit

theorem keys_len (zs : List Tl) : (keysL zs).1.length ≤ zs.length := by
  unfold keysL
  split
  · simp
  · split
    · simp
    · exact once_len zs
theorem keyV_form (k : Option (List UInt8)) : ∃ X B, keyV k = .tuple #[.string X, .bool B] := by
  cases k with
  | none => exact ⟨_, _, rfl⟩
  | some k => exact ⟨_, _, rfl⟩

set_option maxHeartbeats 4000000 in
set_option maxRecDepth 100000 in
theorem flagAll_walk (s : ByteArray) (A : Option Addr) (n c : Nat) (ss : List ByteArray) (w : World) (hl : ss.length = n) (hn : n ≤ 9223372036854775807) (hA0 : F0.ListAt w A (ss.map .string)) (hz0 : ∀ s ∈ ss, s.size ≤ 9223372036854775807) :
    Calls Try.prog 3 #[.string s, .slice A n c] w fun e w' => e = .returned (.bool true) ∧ Below w.heap.size w w' := by
  have hA : TsAt w.heap.size w A (textsL ss) := texts_TsAt hA0 (Nat.le_refl _)
  have hz : ∀ z ∈ textsL ss, z.length ≤ 9223372036854775807 := fun z h => by
    obtain ⟨s, hs, rfl⟩ := List.mem_map.1 h
    rw [← Lib.size_eq]
    exact hz0 s hs
  have hln : (textsL ss).length = n := by rw [texts_len, hl]
  obtain ⟨zs, hzs⟩ : ∃ zs, textsL ss = zs := ⟨_, rfl⟩
  rw [hzs] at hA hz hln
  subst hln
  clear hzs hA0 hz0 hl
  by_cases h300 : 300 < s.size
  · have g3 : (300 : Int) < (s.size : Int) := by omega
    clear h300
    go_enter Try.func3, Try.ntmps3
    go_wp2_with fail
    refine (awake_any _).mono ?_
    rintro e w2 ⟨rfl, hb2⟩
    go_wp2_with fail
    go_ret
    exact ⟨rfl, hb2⟩
  have g3 : (s.size : Int) ≤ 300 := by omega
  have HG := Lib.hid (great_any A c zs w hA hn hz)
  have HA := Lib.hid hA
  clear hA hz
  cases hgr : greatL zs
  rotate_left 1
  · rw [hgr] at HG
    clear hgr
    go_enter Try.func3, Try.ntmps3
    go_wp2_with fail
    refine HG.out.mono ?_
    rintro e w1 ⟨rfl, rfl⟩
    go_wp2_with fail
    refine (awake_any _).mono ?_
    rintro e w2 ⟨rfl, hb2⟩
    go_wp2_with fail
    go_ret
    exact ⟨rfl, hb2⟩
  rw [hgr] at HG
  obtain ⟨hl1, hl2⟩ := great_no hgr
  have HKN := Lib.hid (Nat.le_trans (keys_len zs) hl1)
  have HAT : Hid (∀ W, Below w.heap.size w W → TsAt W.heap.size W A zs) := Lib.hid (fun W hb => HA.out.next hb)
  have HK1 : Hid (∀ W, Below w.heap.size w W → Calls Try.prog 12 #[.slice A zs.length c] W fun e w' => ∃ v, e = .returned (.tuple #[v, .int .i64 ((keysL zs).2 : Int)]) ∧ RowT W.heap.size v (keysL zs).1 w' ∧ Below W.heap.size W w') := Lib.hid (fun W hb => keys_any A c zs W (HAT.out W hb) (by omega) (fun z h => by have := hl2 z h; omega))
  have HK2 : Hid (∀ W, Below w.heap.size w W → Calls Try.prog 13 #[.slice A zs.length c] W fun e w' => ∃ v, e = .returned (.tuple #[v, .int .i64 ((keysL zs).2 : Int)]) ∧ RowT W.heap.size v (keysL zs).1 w' ∧ Below W.heap.size W w') := Lib.hid (fun W hb => rkeys_any A c zs W (HAT.out W hb) hl1 hl2)
  have HL1 : Hid (∀ W, Below w.heap.size w W → Calls Try.prog 20 #[.slice A zs.length c] W fun e w' => e = .returned (.string ⟨(listL zs).toArray⟩) ∧ Below W.heap.size W w') := Lib.hid (fun W hb => list_any A c zs W (HAT.out W hb) hl1 hl2)
  have HL2 : Hid (∀ W, Below w.heap.size w W → Calls Try.prog 21 #[.slice A zs.length c] W fun e w' => e = .returned (.string ⟨(listL zs).toArray⟩) ∧ Below W.heap.size W w') := Lib.hid (fun W hb => rflags_any A c zs W (HAT.out W hb) hl1 hl2)
  have HY1 : Hid (∀ W, Calls Try.prog 10 #[.string s] W fun e w' => e = .returned (keyV (keyL s.data.toList)) ∧ Below W.heap.size W w') := Lib.hid (fun W => key_any s W (by omega))
  have HY2 : Hid (∀ W, Calls Try.prog 11 #[.string s] W fun e w' => e = .returned (keyV (keyL s.data.toList)) ∧ Below W.heap.size W w') := Lib.hid (fun W => rkey_any s W (by omega))
  have HR1 : Hid (∀ W, Calls Try.prog 14 #[.string s] W fun e w' => e = .returned (.bool (rightL s.data.toList)) ∧ Below W.heap.size W w') := Lib.hid (fun W => right_any s W (by omega))
  have HR2 : Hid (∀ W, Calls Try.prog 15 #[.string s] W fun e w' => e = .returned (.bool (rightL s.data.toList)) ∧ Below W.heap.size W w') := Lib.hid (fun W => rright_any s W (by omega))
  have HF1 : Hid (∀ W, Calls Try.prog 16 #[.string s] W fun e w' => e = .returned (.string ⟨(flagL s.data.toList).toArray⟩) ∧ Below W.heap.size W w') := Lib.hid (fun W => flag_any s W (by omega))
  have HF2 : Hid (∀ W, Calls Try.prog 17 #[.string s] W fun e w' => e = .returned (.string ⟨(flagL s.data.toList).toArray⟩) ∧ Below W.heap.size W w') := Lib.hid (fun W => rflag_any s W)
  obtain ⟨X, B, hXB⟩ := keyV_form (keyL s.data.toList)
  rw [hXB] at HY1 HY2
  obtain ⟨R, hR⟩ : ∃ R, rightL s.data.toList = R := ⟨_, rfl⟩
  rw [hR] at HR1 HR2
  obtain ⟨F, hF⟩ : ∃ F : ByteArray, ⟨(flagL s.data.toList).toArray⟩ = F := ⟨_, rfl⟩
  rw [hF] at HF1 HF2
  obtain ⟨T, hT⟩ : ∃ T : ByteArray, ⟨(listL zs).toArray⟩ = T := ⟨_, rfl⟩
  rw [hT] at HL1 HL2
  obtain ⟨N, hN⟩ : ∃ N : Int, ((keysL zs).2 : Int) = N := ⟨_, rfl⟩
  rw [hN] at HK1 HK2
  obtain ⟨ks, hks⟩ : ∃ ks, (keysL zs).1 = ks := ⟨_, rfl⟩
  rw [hks] at HK1 HK2 HKN
  clear hXB hR hF hT hN hks hgr hl2
  go_enter Try.func3, Try.ntmps3
  go_wp2_with fail
  refine HG.out.mono ?_
  rintro e w1 ⟨rfl, rfl⟩
  go_wp2_with fail
  refine (HY1.out _).mono ?_
  rintro e w2 ⟨rfl, hb2⟩
  have HB2 := Lib.hid hb2
  clear hb2
  go_wp2_with fail
  refine (HY2.out _).mono ?_
  rintro e w3 ⟨rfl, hb3⟩
  have HB3 := Lib.hid (HB2.out.trans (hb3.mono HB2.out.size))
  clear hb3
  go_wp2_with fail
  refine (HK1.out _ HB3.out).mono ?_
  rintro e w4 ⟨v4, rfl, hr4, hb4⟩
  have HB4 := Lib.hid (HB3.out.trans (hb4.mono HB3.out.size))
  obtain ⟨a4, c4, rfl⟩ := RowT.form hr4
  have HT4 := Lib.hid (RowT.ts hr4)
  clear hb4 hr4
  go_wp2_with fail
  refine (HK2.out _ HB4.out).mono ?_
  rintro e w5 ⟨v5, rfl, hr5, hb5⟩
  have HB5 := Lib.hid (HB4.out.trans (hb5.mono HB4.out.size))
  obtain ⟨a5, c5, rfl⟩ := RowT.form hr5
  have HT5 := Lib.hid (RowT.ts hr5)
  have HT45 := Lib.hid (HT4.out.next hb5)
  clear hb5 hr5
  go_wp2_with fail
  refine (HR1.out _).mono ?_
  rintro e w6 ⟨rfl, hb6⟩
  have HB6 := Lib.hid (HB5.out.trans (hb6.mono HB5.out.size))
  have HT6 := Lib.hid (And.intro (HT45.out.next hb6) (HT5.out.next hb6))
  clear hb6
  go_wp2_with fail
  refine (HR2.out _).mono ?_
  rintro e w7 ⟨rfl, hb7⟩
  have HB7 := Lib.hid (HB6.out.trans (hb7.mono HB6.out.size))
  have HT7 := Lib.hid (And.intro (HT6.out.1.next hb7) (HT6.out.2.next hb7))
  clear hb7
  go_wp2_with fail
  refine (HF1.out _).mono ?_
  rintro e w8 ⟨rfl, hb8⟩
  have HB8 := Lib.hid (HB7.out.trans (hb8.mono HB7.out.size))
  have HT8 := Lib.hid (And.intro (HT7.out.1.next hb8) (HT7.out.2.next hb8))
  clear hb8
  go_wp2_with fail
  refine (HF2.out _).mono ?_
  rintro e w9 ⟨rfl, hb9⟩
  have HB9 := Lib.hid (HB8.out.trans (hb9.mono HB8.out.size))
  have HT9 := Lib.hid (And.intro (HT8.out.1.next hb9) (HT8.out.2.next hb9))
  clear hb9
  go_wp2_with fail
  refine (same_any a4 a5 c4 c5 ks w9 HT9.out.1 HT9.out.2 (by have := HKN.out; omega)).mono ?_
  rintro e w10 ⟨rfl, hb10⟩
  have HB10 := Lib.hid (HB9.out.trans (hb10.mono HB9.out.size))
  clear hb10
  go_wp2_with fail
  refine (L3.num_any N w10).mono ?_
  rintro e w11 ⟨rfl, rfl⟩
  go_wp2_with fail
  refine (HL1.out _ HB10.out).mono ?_
  rintro e w12 ⟨rfl, hb12⟩
  have HB12 := Lib.hid (HB10.out.trans (hb12.mono HB10.out.size))
  clear hb12
  go_wp2_with fail
  refine (HL2.out _ HB12.out).mono ?_
  rintro e w13 ⟨rfl, hb13⟩
  have HB13 := Lib.hid (HB12.out.trans (hb13.mono HB12.out.size))
  clear hb13
  go_wp2_with fail
  refine (awake_any _).mono ?_
  rintro e w14 ⟨rfl, hb14⟩
  go_wp2_with fail
  go_ret
  exact ⟨rfl, HB13.out.trans (hb14.mono HB13.out.size)⟩
end Go.Proofs.Ytggnkpbadfabcaa.Fg
