/-
  word.meaning returns what a word of three parts says, or that they make none. Conditions: the texts have at most 2^30 bytes; the bound of the library's search is some number.
-/
import Derived.Test.YtigamkdomdglhaaDoorWdSwap
import Derived.Test.YtigamkdomdglhaaDoorB6Loose
import Derived.Test.YtigamkdomdglhaaDoorQ4Decode
import Derived.Test.YtigamkdomdglhaaDoorU8Valid
import Derived.Test.YtigamkdomdglhaaDoorTxFold
import Derived.Test.YtigamkdomdglhaaDoorWdEnds
namespace Go.Proofs.YtigamkdomdglhaaDoor.Wd
open Go Go.RowKit Go.Joins Kit

set_option maxHeartbeats 4000000 in
set_option maxRecDepth 100000 in
theorem meaning_any (a k t : ByteArray) (w : World) (ha : a.size ≤ 1099511627) (ht : t.size ≤ 1099511627) (hE : Srch.Env w) :
    Calls Tryd.prog 37 #[.string a, .string k, .string t] w fun e w' => ∃ x : ByteArray, e = .returned (.tuple #[.string x, .bool (saysL a.data.toList k.data.toList t.data.toList).isSome]) ∧ (∀ y, saysL a.data.toList k.data.toList t.data.toList = some y → x.data.toList = y) ∧ Below w.heap.size w w' := by
  have HE := Lib.hid hE
  clear hE
  have hf0 := Lib.hid (Tx.fold_any a)
  obtain ⟨F, hF⟩ : ∃ F : ByteArray, (⟨(Tx.foldL a.data.toList).toArray⟩ : ByteArray) = F := ⟨_, rfl⟩
  have HFD : Hid (F.data.toList = Tx.foldL a.data.toList) := Lib.hid (by rw [← hF])
  rw [hF] at hf0
  clear hF
  have HC : Hid ((Tx.foldL a.data.toList = utfN ∧ (F.toList == [117, 116, 102, 45, 56]) = true) ∨ (Tx.foldL a.data.toList = ascN ∧ (F.toList == [117, 116, 102, 45, 56]) = false ∧ (F.toList == [117, 115, 45, 97, 115, 99, 105, 105]) = true) ∨ (Tx.foldL a.data.toList = latN ∧ (F.toList == [117, 116, 102, 45, 56]) = false ∧ (F.toList == [117, 115, 45, 97, 115, 99, 105, 105]) = false ∧ (F.toList == [105, 115, 111, 45, 56, 56, 53, 57, 45, 49]) = true) ∨ ((Tx.foldL a.data.toList ≠ utfN ∧ Tx.foldL a.data.toList ≠ ascN ∧ Tx.foldL a.data.toList ≠ latN) ∧ (F.toList == [117, 116, 102, 45, 56]) = false ∧ (F.toList == [117, 115, 45, 97, 115, 99, 105, 105]) = false ∧ (F.toList == [105, 115, 111, 45, 56, 56, 53, 57, 45, 49]) = false)) := Lib.hid (by
    rw [beq_list, beq_list, beq_list, HFD.out]
    by_cases h1 : Tx.foldL a.data.toList = utfN
    · exact Or.inl ⟨h1, by rw [h1]; decide⟩
    · by_cases h2 : Tx.foldL a.data.toList = ascN
      · exact Or.inr (Or.inl ⟨h2, by rw [h2]; decide, by rw [h2]; decide⟩)
      · by_cases h3 : Tx.foldL a.data.toList = latN
        · exact Or.inr (Or.inr (Or.inl ⟨h3, by rw [h3]; decide, by rw [h3]; decide, by rw [h3]; decide⟩))
        · exact Or.inr (Or.inr (Or.inr ⟨⟨h1, h2, h3⟩, decide_eq_false h1, decide_eq_false h2, decide_eq_false h3⟩)))
  by_cases h0 : k = ⟨#[66]⟩
  · subst h0
    have HO : Hid (octL [66] t.data.toList = some (B6.looseL t.data.toList)) := Lib.hid rfl
    have hol := oct_len HO.out
    rw [← Lib.size_eq] at hol
    have HS : Hid (saysL a.data.toList [66] t.data.toList = setL a.data.toList (B6.looseL t.data.toList)) := Lib.hid (says_oct HO.out)
    obtain ⟨O, hO⟩ : ∃ O : ByteArray, (⟨(B6.looseL t.data.toList).toArray⟩ : ByteArray) = O := ⟨_, rfl⟩
    have HD : Hid ((B6.looseL t.data.toList) = O.data.toList) := Lib.hid (by rw [← hO])
    rw [HD.out] at hol
    rw [← Lib.size_eq] at hol
    have HX := Lib.hid (fun w1 hw1 => B6.loose_any t w1 (by omega) hw1)
    rw [hO] at HX
    clear hO
    rw [show (ByteArray.mk #[66]).data.toList = [66] from rfl]
    rw [HS.out, HD.out]
    go_enter Tryd.func37, Tryd.ntmps37
    go_wp2_with fail
    refine (HX.out w ⟨HE.out.max⟩).mono ?_
    rintro e w1 ⟨rfl, hb1⟩
    go_wp2_with fail
    refine (hf0.out w1 (by omega)).mono ?_
    rintro e w2 ⟨rfl, hb2⟩
    replace hb2 := hb1.trans (hb2.mono hb1.size)
    rcases HC.out with ⟨c0, g0⟩ | ⟨c0, g0, g1⟩ | ⟨c0, g0, g1, g2⟩ | ⟨c0, g0, g1, g2⟩
    · have HZ := Lib.hid (ends_utf (o := O.data.toList) (x := O) (Or.inl c0) rfl)
      clear c0
      go_wp2_with fail
      refine (U8.valid_any O (by omega) w2).mono ?_
      rintro e w3 ⟨rfl, rfl⟩
      go_wp2
      go_ret2
      exact ⟨O, ret_two HZ.out.1, HZ.out.2, hb2⟩
    · have HZ := Lib.hid (ends_utf (o := O.data.toList) (x := O) (Or.inr c0) rfl)
      clear c0
      go_wp2_with fail
      refine (U8.valid_any O (by omega) w2).mono ?_
      rintro e w3 ⟨rfl, rfl⟩
      go_wp2
      go_ret2
      exact ⟨O, ret_two HZ.out.1, HZ.out.2, hb2⟩
    · have HZ := Lib.hid (ends_lat (o := O.data.toList) (x := ⟨(latinL O.data.toList).toArray⟩) c0 rfl)
      clear c0
      go_wp2_with fail
      refine (latin_any O w2 (by omega)).mono ?_
      rintro e w3 ⟨rfl, hb3⟩
      go_wp2
      go_ret2
      exact ⟨_, ret_two HZ.out.1, HZ.out.2, hb2.trans (hb3.mono hb2.size)⟩
    · have HZ := Lib.hid (ends_none (o := O.data.toList) (x := ⟨#[]⟩) c0.1 c0.2.1 c0.2.2)
      clear c0
      go_wp2
      go_ret2
      exact ⟨_, ret_two HZ.out.1, HZ.out.2, hb2⟩
  · by_cases h1 : k = ⟨#[98]⟩
    · subst h1
      have HO : Hid (octL [98] t.data.toList = some (B6.looseL t.data.toList)) := Lib.hid rfl
      have hol := oct_len HO.out
      rw [← Lib.size_eq] at hol
      have HS : Hid (saysL a.data.toList [98] t.data.toList = setL a.data.toList (B6.looseL t.data.toList)) := Lib.hid (says_oct HO.out)
      obtain ⟨O, hO⟩ : ∃ O : ByteArray, (⟨(B6.looseL t.data.toList).toArray⟩ : ByteArray) = O := ⟨_, rfl⟩
      have HD : Hid ((B6.looseL t.data.toList) = O.data.toList) := Lib.hid (by rw [← hO])
      rw [HD.out] at hol
      rw [← Lib.size_eq] at hol
      have HX := Lib.hid (fun w1 hw1 => B6.loose_any t w1 (by omega) hw1)
      rw [hO] at HX
      clear hO
      rw [show (ByteArray.mk #[98]).data.toList = [98] from rfl]
      rw [HS.out, HD.out]
      go_enter Tryd.func37, Tryd.ntmps37
      go_wp2_with fail
      refine (HX.out w ⟨HE.out.max⟩).mono ?_
      rintro e w1 ⟨rfl, hb1⟩
      go_wp2_with fail
      refine (hf0.out w1 (by omega)).mono ?_
      rintro e w2 ⟨rfl, hb2⟩
      replace hb2 := hb1.trans (hb2.mono hb1.size)
      rcases HC.out with ⟨c0, g0⟩ | ⟨c0, g0, g1⟩ | ⟨c0, g0, g1, g2⟩ | ⟨c0, g0, g1, g2⟩
      · have HZ := Lib.hid (ends_utf (o := O.data.toList) (x := O) (Or.inl c0) rfl)
        clear c0
        go_wp2_with fail
        refine (U8.valid_any O (by omega) w2).mono ?_
        rintro e w3 ⟨rfl, rfl⟩
        go_wp2
        go_ret2
        exact ⟨O, ret_two HZ.out.1, HZ.out.2, hb2⟩
      · have HZ := Lib.hid (ends_utf (o := O.data.toList) (x := O) (Or.inr c0) rfl)
        clear c0
        go_wp2_with fail
        refine (U8.valid_any O (by omega) w2).mono ?_
        rintro e w3 ⟨rfl, rfl⟩
        go_wp2
        go_ret2
        exact ⟨O, ret_two HZ.out.1, HZ.out.2, hb2⟩
      · have HZ := Lib.hid (ends_lat (o := O.data.toList) (x := ⟨(latinL O.data.toList).toArray⟩) c0 rfl)
        clear c0
        go_wp2_with fail
        refine (latin_any O w2 (by omega)).mono ?_
        rintro e w3 ⟨rfl, hb3⟩
        go_wp2
        go_ret2
        exact ⟨_, ret_two HZ.out.1, HZ.out.2, hb2.trans (hb3.mono hb2.size)⟩
      · have HZ := Lib.hid (ends_none (o := O.data.toList) (x := ⟨#[]⟩) c0.1 c0.2.1 c0.2.2)
        clear c0
        go_wp2
        go_ret2
        exact ⟨_, ret_two HZ.out.1, HZ.out.2, hb2⟩
    · by_cases h2 : k = ⟨#[81]⟩
      · subst h2
        have HO : Hid (octL [81] t.data.toList = some (Q4.plainL (blankU t.data.toList))) := Lib.hid rfl
        have hol := oct_len HO.out
        rw [← Lib.size_eq] at hol
        have HS : Hid (saysL a.data.toList [81] t.data.toList = setL a.data.toList (Q4.plainL (blankU t.data.toList))) := Lib.hid (says_oct HO.out)
        obtain ⟨O, hO⟩ : ∃ O : ByteArray, (⟨(Q4.plainL (blankU t.data.toList)).toArray⟩ : ByteArray) = O := ⟨_, rfl⟩
        have HD : Hid ((Q4.plainL (blankU t.data.toList)) = O.data.toList) := Lib.hid (by rw [← hO])
        rw [HD.out] at hol
        rw [← Lib.size_eq] at hol
        obtain ⟨U, hU⟩ : ∃ U : ByteArray, (⟨(blankU t.data.toList).toArray⟩ : ByteArray) = U := ⟨_, rfl⟩
        have HUZ : Hid (U.size ≤ 1099511627) := Lib.hid (by rw [← hU, Lib.size_mk, blankU_length, ← Lib.size_eq]; exact ht)
        have HV := Lib.hid (fun w1 hw1 => under_any t w1 ht hw1)
        rw [hU] at HV
        have HX := Lib.hid (fun w1 hw1 => Q4.decode_any U w1 HUZ.out hw1)
        rw [show (⟨(Q4.plainL U.data.toList).toArray⟩ : ByteArray) = O by rw [← hO, ← hU]] at HX
        clear hU
        clear hO
        rw [show (ByteArray.mk #[81]).data.toList = [81] from rfl]
        rw [HS.out, HD.out]
        go_enter Tryd.func37, Tryd.ntmps37
        go_wp2_with fail
        refine (HV.out w HE.out).mono ?_
        rintro e w0 ⟨rfl, hb0⟩
        go_wp2_with fail
        refine (HX.out w0 (HE.out.next hb0)).mono ?_
        rintro e w1 ⟨rfl, hb1⟩
        replace hb1 := hb0.trans (hb1.mono hb0.size)
        clear hb0
        go_wp2_with fail
        refine (hf0.out w1 (by omega)).mono ?_
        rintro e w2 ⟨rfl, hb2⟩
        replace hb2 := hb1.trans (hb2.mono hb1.size)
        rcases HC.out with ⟨c0, g0⟩ | ⟨c0, g0, g1⟩ | ⟨c0, g0, g1, g2⟩ | ⟨c0, g0, g1, g2⟩
        · have HZ := Lib.hid (ends_utf (o := O.data.toList) (x := O) (Or.inl c0) rfl)
          clear c0
          go_wp2_with fail
          refine (U8.valid_any O (by omega) w2).mono ?_
          rintro e w3 ⟨rfl, rfl⟩
          go_wp2
          go_ret2
          exact ⟨O, ret_two HZ.out.1, HZ.out.2, hb2⟩
        · have HZ := Lib.hid (ends_utf (o := O.data.toList) (x := O) (Or.inr c0) rfl)
          clear c0
          go_wp2_with fail
          refine (U8.valid_any O (by omega) w2).mono ?_
          rintro e w3 ⟨rfl, rfl⟩
          go_wp2
          go_ret2
          exact ⟨O, ret_two HZ.out.1, HZ.out.2, hb2⟩
        · have HZ := Lib.hid (ends_lat (o := O.data.toList) (x := ⟨(latinL O.data.toList).toArray⟩) c0 rfl)
          clear c0
          go_wp2_with fail
          refine (latin_any O w2 (by omega)).mono ?_
          rintro e w3 ⟨rfl, hb3⟩
          go_wp2
          go_ret2
          exact ⟨_, ret_two HZ.out.1, HZ.out.2, hb2.trans (hb3.mono hb2.size)⟩
        · have HZ := Lib.hid (ends_none (o := O.data.toList) (x := ⟨#[]⟩) c0.1 c0.2.1 c0.2.2)
          clear c0
          go_wp2
          go_ret2
          exact ⟨_, ret_two HZ.out.1, HZ.out.2, hb2⟩
      · by_cases h3 : k = ⟨#[113]⟩
        · subst h3
          have HO : Hid (octL [113] t.data.toList = some (Q4.plainL (blankU t.data.toList))) := Lib.hid rfl
          have hol := oct_len HO.out
          rw [← Lib.size_eq] at hol
          have HS : Hid (saysL a.data.toList [113] t.data.toList = setL a.data.toList (Q4.plainL (blankU t.data.toList))) := Lib.hid (says_oct HO.out)
          obtain ⟨O, hO⟩ : ∃ O : ByteArray, (⟨(Q4.plainL (blankU t.data.toList)).toArray⟩ : ByteArray) = O := ⟨_, rfl⟩
          have HD : Hid ((Q4.plainL (blankU t.data.toList)) = O.data.toList) := Lib.hid (by rw [← hO])
          rw [HD.out] at hol
          rw [← Lib.size_eq] at hol
          obtain ⟨U, hU⟩ : ∃ U : ByteArray, (⟨(blankU t.data.toList).toArray⟩ : ByteArray) = U := ⟨_, rfl⟩
          have HUZ : Hid (U.size ≤ 1099511627) := Lib.hid (by rw [← hU, Lib.size_mk, blankU_length, ← Lib.size_eq]; exact ht)
          have HV := Lib.hid (fun w1 hw1 => under_any t w1 ht hw1)
          rw [hU] at HV
          have HX := Lib.hid (fun w1 hw1 => Q4.decode_any U w1 HUZ.out hw1)
          rw [show (⟨(Q4.plainL U.data.toList).toArray⟩ : ByteArray) = O by rw [← hO, ← hU]] at HX
          clear hU
          clear hO
          rw [show (ByteArray.mk #[113]).data.toList = [113] from rfl]
          rw [HS.out, HD.out]
          go_enter Tryd.func37, Tryd.ntmps37
          go_wp2_with fail
          refine (HV.out w HE.out).mono ?_
          rintro e w0 ⟨rfl, hb0⟩
          go_wp2_with fail
          refine (HX.out w0 (HE.out.next hb0)).mono ?_
          rintro e w1 ⟨rfl, hb1⟩
          replace hb1 := hb0.trans (hb1.mono hb0.size)
          clear hb0
          go_wp2_with fail
          refine (hf0.out w1 (by omega)).mono ?_
          rintro e w2 ⟨rfl, hb2⟩
          replace hb2 := hb1.trans (hb2.mono hb1.size)
          rcases HC.out with ⟨c0, g0⟩ | ⟨c0, g0, g1⟩ | ⟨c0, g0, g1, g2⟩ | ⟨c0, g0, g1, g2⟩
          · have HZ := Lib.hid (ends_utf (o := O.data.toList) (x := O) (Or.inl c0) rfl)
            clear c0
            go_wp2_with fail
            refine (U8.valid_any O (by omega) w2).mono ?_
            rintro e w3 ⟨rfl, rfl⟩
            go_wp2
            go_ret2
            exact ⟨O, ret_two HZ.out.1, HZ.out.2, hb2⟩
          · have HZ := Lib.hid (ends_utf (o := O.data.toList) (x := O) (Or.inr c0) rfl)
            clear c0
            go_wp2_with fail
            refine (U8.valid_any O (by omega) w2).mono ?_
            rintro e w3 ⟨rfl, rfl⟩
            go_wp2
            go_ret2
            exact ⟨O, ret_two HZ.out.1, HZ.out.2, hb2⟩
          · have HZ := Lib.hid (ends_lat (o := O.data.toList) (x := ⟨(latinL O.data.toList).toArray⟩) c0 rfl)
            clear c0
            go_wp2_with fail
            refine (latin_any O w2 (by omega)).mono ?_
            rintro e w3 ⟨rfl, hb3⟩
            go_wp2
            go_ret2
            exact ⟨_, ret_two HZ.out.1, HZ.out.2, hb2.trans (hb3.mono hb2.size)⟩
          · have HZ := Lib.hid (ends_none (o := O.data.toList) (x := ⟨#[]⟩) c0.1 c0.2.1 c0.2.2)
            clear c0
            go_wp2
            go_ret2
            exact ⟨_, ret_two HZ.out.1, HZ.out.2, hb2⟩
        · have HN : Hid (saysL a.data.toList k.data.toList t.data.toList = none) := Lib.hid (by
            unfold saysL octL wayB wayQ
            have e : ∀ b : UInt8, k ≠ ⟨#[b]⟩ → (k.data.toList == [b]) = false := fun b hb => by
              rw [beq_eq_false_iff_ne]
              intro e
              exact hb (Kit.bytes_ext (by rw [e]))
            rw [e 66 h0, e 98 h1, e 81 h2, e 113 h3]
            rfl)
          have f : ∀ b : UInt8, k ≠ ⟨#[b]⟩ → (k.toList == [b]) = false := fun b hb => by
            rw [beq_list, decide_eq_false_iff_not]
            intro e
            exact hb (Kit.bytes_ext (by rw [e]))
          have g0 := f 66 h0
          have g1 := f 98 h1
          have g2 := f 81 h2
          have g3 := f 113 h3
          clear h0 h1 h2 h3 f
          go_enter Tryd.func37, Tryd.ntmps37
          go_wp2
          go_ret2
          rw [HN.out]
          exact ⟨_, rfl, (fun y hy => by cases hy), Below.refl _ w⟩
end Go.Proofs.YtigamkdomdglhaaDoor.Wd
