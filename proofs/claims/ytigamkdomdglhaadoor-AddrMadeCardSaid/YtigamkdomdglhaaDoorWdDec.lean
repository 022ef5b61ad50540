/-
  word.Decode returns its text with its words turned into what they say. Conditions: the text has at most 2^30 bytes; the bound of the library's search is some number.
-/
import Derived.Test.YtigamkdomdglhaaDoorWdNext
import Derived.Test.YtigamkdomdglhaaDoorWdTrim
import Derived.Shelf.Strings.SlTrimAscii
namespace Go.Proofs.YtigamkdomdglhaaDoor.Wd
open Go Go.RowKit Go.Joins Kit

theorem trim_any (s : ByteArray) (w : World) (hs : s.size ≤ 2147483648) :
    Calls Tryd.prog 31 #[.string s, .string ⟨#[32, 9]⟩] w fun e w' => e = .returned (.string ⟨(Lib.trimS s.data.toList [32, 9]).toArray⟩) ∧ Below w.heap.size w w' :=
  Any.strings_Trim_laid Tryd.lays160 (by kernel_rfl) s ⟨#[32, 9]⟩ w (by omega) (by decide) (ascii_of_all (by decide))
/-- What the next word makes of a list. -/
theorem dec_found {s x : ByteArray} {a k n : Nat} (hak : a ≤ k) (hk : k < s.size) (h : ∀ j, a ≤ j → j < k → oneL (s.data.toList.drop j) = none) (h1 : oneL (s.data.toList.drop k) = some (x.data.toList, n)) (b : Bool) :
    decW b (s.data.toList.drop a) = (if b || !blankL (s.extract a k).data.toList then (s.extract a k).data.toList else []) ++ (x.data.toList ++ decW false (s.data.toList.drop (k + n))) := by
  have hl : s.data.toList.length = s.size := (Lib.size_eq s).symm
  have hf : findL (s.data.toList.drop a) = some ((s.data.toList.drop a).take (k - a), x.data.toList, (s.data.toList.drop a).drop (k - a + n)) := by
    refine find_some (by rw [List.length_drop, hl]; omega) (fun j hj => ?_) ?_
    · rw [List.drop_drop]; exact h _ (by omega) (by omega)
    · rw [List.drop_drop, show a + (k - a) = k by omega]; exact h1
  rw [decW_some b hf, Lib.extract_data, List.drop_drop, show a + (k - a + n) = k + n by omega]
theorem dec_rest {s : ByteArray} {a : Nat} (h : ∀ j, a ≤ j → j < s.size → oneL (s.data.toList.drop j) = none) (b : Bool) : decW b (s.data.toList.drop a) = s.data.toList.drop a := by
  refine decW_none b (find_none _ fun j hj => ?_)
  rw [List.length_drop, ← Lib.size_eq] at hj
  rw [List.drop_drop]
  exact h _ (by omega) (by omega)

set_option maxHeartbeats 4000000 in
set_option maxRecDepth 100000 in
theorem decode_any (s : ByteArray) (w : World) (hs : s.size ≤ 1099511627) (hE : Srch.Env w) :
    Calls Tryd.prog 23 #[.string s] w fun e w' => e = .returned (.string ⟨(decW true s.data.toList).toArray⟩) ∧ Below w.heap.size w w' := by
  have HE := Lib.hid hE
  clear hE
  go_enter Tryd.func23, Tryd.ntmps23
  go_wp2_with fail
  refine (Tryd.Builder_Grow_fresh w.heap.size w.heap.size s.size _ (Nat.le_refl _) (fresh_block w _ _) (by simp) (by omega)).mono ?_
  rintro e w1 ⟨rfl, hI, hb1⟩
  have hb0 : Below w.heap.size w w1 := ((Below.refl _ w).alloc (Nat.le_refl _) _).trans hb1
  have hB0 : Lib.IsBuilderF 35 5 w.heap.size w.heap.size (Lib.byteCells []) w1 := Lib.IsBuilderF.of (Or.inr hI)
  clear hI hb1
  go_wp2_with fail
  go_loopw [4] (fun d wr => ∃ (a : Nat) (out : List UInt8), d = .int .i64 a ∧ a ≤ s.size ∧ out.length ≤ 2 * a ∧ Hid (out ++ decW (decide (a = 0)) (s.data.toList.drop a) = decW true s.data.toList) ∧ Lib.IsBuilderF 35 5 w.heap.size w.heap.size (Lib.byteCells out) wr ∧ Below w.heap.size w wr) (fun d _ => s.size - (intOf d).toNat)
  case atStart => exact ⟨0, [], rfl, by omega, by simp, Lib.hid rfl, hB0, hb0⟩
  case round =>
    clear hB0 hb0
    obtain ⟨a, out, rfl, ha, hlen, hq, hB, hb⟩ := hrel
    go_wp2_with fail
    refine (next_any s a wr hs ha (HE.out.next hb)).mono ?_
    rintro e w2 ⟨hn, hb2⟩
    have hB2 := Bld.below hB hb2
    have hbb := hb.trans (hb2.mono hb.size)
    clear hB hb2 hb
    rcases hn with ⟨rfl, hno⟩ | ⟨k, n, x, rfl, hak, hks, hno, h1⟩
    · have hz : (s.extract a s.size).size = s.size - a := by rw [ByteArray.size_extract]; omega
      have hend := Lib.hid (show out ++ (s.extract a s.size).data.toList = decW true s.data.toList by rw [Q4.ext_drop, ← hq.out, dec_rest hno])
      clear hno
      obtain ⟨G, hG⟩ : ∃ G, s.extract a s.size = G := ⟨_, rfl⟩
      rw [hG] at hz hend
      unfold encV
      go_wp2_with fail
      have hB3 := Lib.IsBuilderF.alloc hB2 (.cells #[.int .i64 0, .int .i64 0, .string ⟨#[]⟩] 53)
      have hb3 : Below w.heap.size w (w2.alloc (.cells #[.int .i64 0, .int .i64 0, .string ⟨#[]⟩] 53)) := hbb.alloc hbb.size _
      refine (Tryd.Builder_WriteString_k w.heap.size w.heap.size _ G _ hB3 (by rw [Lib.byteCells_length]; omega) hb3.size).mono ?_
      rintro e w4 ⟨rfl, h4, hb4, _⟩
      rw [Bld.str_cells, hend.out] at h4
      replace hb4 := hb3.trans hb4
      clear hB2 hbb hB3 hb3
      go_wp2_with fail
      refine (Tryd.Builder_String_any_k w.heap.size w.heap.size _ _ (Or.inr h4) hb4.size).mono ?_
      rintro e w5 ⟨rfl, _, hb5, _⟩
      go_wp2
      go_ret
      exact ⟨rfl, hb4.trans hb5⟩
    · have ho := one_back h1
      rw [List.length_drop, ← Lib.size_eq, ← Lib.size_eq] at ho
      have hf := Lib.hid (dec_found hak hks hno h1 (decide (a = 0)))
      clear hno h1
      have hz : (s.extract a k).size = k - a := by rw [ByteArray.size_extract]; omega
      obtain ⟨G, hG⟩ : ∃ G, s.extract a k = G := ⟨_, rfl⟩
      rw [hG] at hz hf
      have hB3 := Lib.IsBuilderF.alloc hB2 (.cells #[.int .i64 k, .int .i64 ((k : Int) + (n : Int)), .string x] 53)
      have hb3 : Below w.heap.size w (w2.alloc (.cells #[.int .i64 k, .int .i64 ((k : Int) + (n : Int)), .string x] 53)) := hbb.alloc hbb.size _
      have hE3 := Kit.fresh_block w2 #[.int .i64 k, .int .i64 ((k : Int) + (n : Int)), .string x] 53
      obtain ⟨E, hEE⟩ : ∃ E, w2.heap.size = E := ⟨_, rfl⟩
      have hEne : E ≠ w.heap.size := by
        have h6 : w.heap.size < w2.heap.size := hB2.elim (fun x => x.lt) (fun x => x.lt)
        omega
      rw [hEE] at hE3
      clear hB2 hbb
      have HQ : Hid (∀ T : List UInt8, T = (if decide (a = 0) || !blankL G.data.toList then G.data.toList else []) → (out ++ T ++ x.data.toList) ++ decW (decide (k + n = 0)) (s.data.toList.drop (k + n)) = decW true s.data.toList) := Lib.hid (by
        intro T hT
        rw [← hq.out, hf.out, ← hT, show decide (k + n = 0) = false from decide_eq_false (by omega)]
        simp only [List.append_assoc])
      clear hq hf
      by_cases h0 : a = 0
      · subst h0
        have HT := Lib.hid (HQ.out G.data.toList (by simp))
        unfold encV
        go_wp2_with fail
        have HZT : Hid (G.data.toList.length = k) := Lib.hid (by rw [← Lib.size_eq]; omega)
        refine (Tryd.Builder_WriteString_k w.heap.size w.heap.size _ G _ hB3 (by rw [Lib.byteCells_length]; omega) hb3.size).mono ?_
        rintro e w4 ⟨rfl, h4, hb4, hk4⟩
        rw [Bld.str_cells] at h4
        have hE4 := hk4 E _ hE3 (fun e => hEne (Option.some.inj e)) (fun _ _ e => by cases e)
        replace hb4 := hb3.trans hb4
        replace h4 : Lib.IsBuilderF 35 5 w.heap.size w.heap.size _ w4 := Or.inr h4
        clear hk4 hE3 hB3 hb3
        have c2 : w4.cell? ⟨E, 2, none⟩ = some (.string x) := by rw [Lib.cell_of_heap hE4]; rfl
        go_wp2_with fail
        refine (Tryd.Builder_WriteString_k w.heap.size w.heap.size _ x _ h4 (by rw [Lib.byteCells_length, List.length_append, HZT.out]; omega) hb4.size).mono ?_
        rintro e w6 ⟨rfl, h6, hb6, hk6⟩
        rw [Bld.str_cells] at h6
        have hE6 := hk6 E _ hE4 (fun e => hEne (Option.some.inj e)) (fun _ _ e => by cases e)
        replace hb6 := hb4.trans hb6
        have c1 : w6.cell? ⟨E, 1, none⟩ = some (.int .i64 ((k : Int) + (n : Int))) := by rw [Lib.cell_of_heap hE6]; rfl
        clear c2 hk6 hE4 h4 hb4
        go_wp2
        go_roundw
        case rel => exact ⟨k + n, _, by go_num, by omega, by rw [List.length_append, List.length_append, ← Lib.size_eq x, HZT.out]; omega, HT, Or.inr h6, hb6⟩
        case measure => simp [intOf]; omega
      · have g0 : ((a : Int) == 0) = false := by rw [beq_eq_false_iff_ne]; omega
        have hda : decide (a = 0) = false := decide_eq_false h0
        unfold encV
        go_wp2_with fail
        refine (trim_any G _ (by omega)).mono ?_
        rintro e w3 ⟨rfl, hb0⟩
        have hsz3 : E < (w2.alloc (.cells #[.int .i64 k, .int .i64 ((k : Int) + (n : Int)), .string x] 53)).heap.size := (Array.getElem?_eq_some_iff.1 hE3).1
        replace hE3 := (hb0.block E hsz3).trans hE3
        replace hB3 := Bld.below hB3 hb0
        replace hb3 := hb3.trans (hb0.mono hb3.size)
        clear hb0 hsz3 hEE
        have htb := trim_blank G.data.toList
        obtain ⟨T, hT⟩ : ∃ T : ByteArray, (⟨(Lib.trimS G.data.toList [32, 9]).toArray⟩ : ByteArray) = T := ⟨_, rfl⟩
        have hTd : T.data.toList = Lib.trimS G.data.toList [32, 9] := by rw [← hT]
        rw [← hTd] at htb
        rw [hT]
        clear hT hTd
        cases hbl : blankL G.data.toList
        · have HT := Lib.hid (HQ.out G.data.toList (by simp [hbl]))
          have HZT : Hid (G.data.toList.length = k - a) := Lib.hid (by rw [← Lib.size_eq]; omega)
          rw [hbl, decide_eq_false_iff_not] at htb
          have g1 : T.toList.isEmpty = false := by rw [Lib.toList_data]; cases h : T.data.toList with | nil => exact absurd h htb | cons _ _ => rfl
          clear hbl htb
          go_wp2_with fail
          refine (Tryd.Builder_WriteString_k w.heap.size w.heap.size _ G _ hB3 (by rw [Lib.byteCells_length]; omega) hb3.size).mono ?_
          rintro e w4 ⟨rfl, h4, hb4, hk4⟩
          rw [Bld.str_cells] at h4
          have hE4 := hk4 E _ hE3 (fun e => hEne (Option.some.inj e)) (fun _ _ e => by cases e)
          replace hb4 := hb3.trans hb4
          replace h4 : Lib.IsBuilderF 35 5 w.heap.size w.heap.size _ w4 := Or.inr h4
          clear hk4 hE3 hB3 hb3
          have c2 : w4.cell? ⟨E, 2, none⟩ = some (.string x) := by rw [Lib.cell_of_heap hE4]; rfl
          go_wp2_with fail
          refine (Tryd.Builder_WriteString_k w.heap.size w.heap.size _ x _ h4 (by rw [Lib.byteCells_length, List.length_append, HZT.out]; omega) hb4.size).mono ?_
          rintro e w6 ⟨rfl, h6, hb6, hk6⟩
          rw [Bld.str_cells] at h6
          have hE6 := hk6 E _ hE4 (fun e => hEne (Option.some.inj e)) (fun _ _ e => by cases e)
          replace hb6 := hb4.trans hb6
          have c1 : w6.cell? ⟨E, 1, none⟩ = some (.int .i64 ((k : Int) + (n : Int))) := by rw [Lib.cell_of_heap hE6]; rfl
          clear c2 hk6 hE4 h4 hb4
          go_wp2
          go_roundw
          case rel => exact ⟨k + n, _, by go_num, by omega, by rw [List.length_append, List.length_append, ← Lib.size_eq x, HZT.out]; omega, HT, Or.inr h6, hb6⟩
          case measure => simp [intOf]; omega
        · have HT : Hid ((out ++ x.data.toList) ++ decW (decide (k + n = 0)) (s.data.toList.drop (k + n)) = decW true s.data.toList) := Lib.hid (by
            have h := HQ.out [] (by simp [hbl, hda])
            rwa [List.append_nil] at h)
          rw [hbl, decide_eq_true_iff] at htb
          have g1 : T.toList = [] := by rw [Lib.toList_data]; exact htb
          clear hbl htb
          have c2 : w3.cell? ⟨E, 2, none⟩ = some (.string x) := by rw [Lib.cell_of_heap hE3]; rfl
          go_wp2_with fail
          refine (Tryd.Builder_WriteString_k w.heap.size w.heap.size _ x _ hB3 (by rw [Lib.byteCells_length]; omega) hb3.size).mono ?_
          rintro e w6 ⟨rfl, h6, hb6, hk6⟩
          rw [Bld.str_cells] at h6
          have hE6 := hk6 E _ hE3 (fun e => hEne (Option.some.inj e)) (fun _ _ e => by cases e)
          replace hb6 := hb3.trans hb6
          have c1 : w6.cell? ⟨E, 1, none⟩ = some (.int .i64 ((k : Int) + (n : Int))) := by rw [Lib.cell_of_heap hE6]; rfl
          clear c2 hk6 hE3 hB3 hb3
          go_wp2
          go_roundw
          case rel => exact ⟨k + n, _, by go_num, by omega, by rw [List.length_append, ← Lib.size_eq x]; omega, HT, Or.inr h6, hb6⟩
          case measure => simp [intOf]; omega
end Go.Proofs.YtigamkdomdglhaaDoor.Wd
