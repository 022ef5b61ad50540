/-
  The program's nextParam, where a sign of equality stands: a value between quotes, or up to the next semicolon. Conditions: the text has at most 2^30 bytes; the bound of the library's search is some number.
-/
import Derived.Test.YtnnbbjdidbggmaaGreatDoorPtNext
namespace Go.Proofs.YtnnbbjdidbggmaaGreatDoor.Pt
open Go Go.RowKit Go.Joins Kit F0

set_option maxHeartbeats 4000000 in
set_option maxRecDepth 100000 in
/-- A value between quotes. -/
theorem next_quoted (s : ByteArray) (w : World) (hs : s.size ≤ 1073741824) (hE : Srch.Env w) (a r : List UInt8) (he : s.data.toList = a ++ 61 :: r) (h : ∀ c ∈ a, isEq c = false) (q : List UInt8) (hq : ltrL r = 34 :: q) :
    Calls Tryz.prog 128 #[.string s] w fun e w' => e = .returned (nextV (nextL s.data.toList)) ∧ Below w.heap.size w w' := by
  have HN : Hid (nextL s.data.toList = ((smallL a, (unqL q).1), (cutL 59 (unqL q).2).map (·.2))) := Lib.hid (by rw [he]; exact next_quote h hq)
  have HE := Lib.hid hE
  have HQ := Lib.hid hq
  clear hE hq
  have hn : a.length < s.size := by rw [Lib.size_eq, he]; simp
  have h61 : s[a.length] = 61 := by
    rw [← byte_get s a.length hn]
    simp only [he]
    simp
  have HI : Hid (Lib.indexAny s.data.toList [61, 59] = (a.length : Int)) := Lib.hid (Lib.indexAny_hit (x := 61) (fun j b hj hb => by
    rw [he, List.getElem?_append_left hj] at hb
    have := h b (List.mem_of_getElem? hb)
    unfold isEq at this
    simpa [List.contains_cons] using this) (by rw [he]; simp) (by decide))
  have g0 : ¬ (a.length : Int) < 0 := by omega
  have g1 : (a.length : Int) < (s.size : Int) := by omega
  have g2 : (a.length : Int) ≤ (s.size : Int) := by omega
  have g3 : (a.length : Int) + 1 ≤ (s.size : Int) := by omega
  have hA1 : (s.extract 0 a.length).data.toList = a := by rw [ext_head, he]; simp
  have hA2 : (s.extract 0 a.length).size ≤ 1073741824 := by rw [Lib.size_eq, hA1]; omega
  have hR1 : (s.extract (a.length + 1) s.size).data.toList = r := by rw [ext_end, he]; simp
  have hR2 : (s.extract (a.length + 1) s.size).size ≤ 1073741824 := by rw [ByteArray.size_extract]; omega
  have hT2 : (ltrL r).length ≤ 1073741824 := by
    have := ltr_le r
    rw [← hR1, ← Lib.size_eq] at this
    rw [← hR1]
    omega
  have HX := Lib.hid (And.intro hA1 (And.intro hA2 (And.intro hR1 hR2)))
  clear hA1 hA2 hR1 hR2
  have HB0 := Lib.hid (And.intro (Kit.fresh_block w #[.string ⟨#[]⟩, .string ⟨#[]⟩] 74) (show Below w.heap.size w (w.alloc (.cells #[.string ⟨#[]⟩, .string ⟨#[]⟩] 74)) from (Below.refl _ w).alloc (Nat.le_refl _) _))
  go_enter Tryz.func128, Tryz.ntmps128
  go_wp2_with fail
  refine (any_any s _ (by omega)).mono ?_
  rintro e w1 ⟨rfl, hb1⟩
  rw [HI.out]
  have hblk1 := (hb1.block w.heap.size (by simp)).trans HB0.out.1
  have HB1 := Lib.hid (And.intro hblk1 (HB0.out.2.trans (hb1.mono (by simp))))
  clear hblk1 hb1
  go_wp2_with fail
  refine (small_any (s.extract 0 a.length) w1 (by have := HX.out.2.1; omega)).mono ?_
  rintro e w2 ⟨rfl, hb2⟩
  rw [HX.out.1]
  unfold sV
  have hblk := (hb2.block w.heap.size ((Array.getElem?_eq_some_iff.1 HB1.out.1).1)).trans HB1.out.1
  have hbb := HB1.out.2.trans (hb2.mono HB1.out.2.size)
  have c0 : w2.cell? ⟨w.heap.size, 0, none⟩ = some (.string ⟨#[]⟩) := by rw [Lib.cell_of_heap hblk]; rfl
  have c1 : w2.cell? ⟨w.heap.size, 1, none⟩ = some (.string ⟨#[]⟩) := by rw [Lib.cell_of_heap hblk]; rfl
  have f0 := Lib.frozen_of_heap hblk 0
  have f1 := Lib.frozen_of_heap hblk 1
  have HB2 := Lib.hid (And.intro (set0 (.string ⟨(smallL a).toArray⟩) hblk) (hbb.setCell (p := ⟨w.heap.size, 0, none⟩) (Nat.le_refl _) (.string ⟨(smallL a).toArray⟩)))
  clear hblk hbb hb2
  go_wp2_with fail
  clear c0 c1 f0 f1
  obtain ⟨W2, hW2⟩ : ∃ W2, w2.setCell ⟨w.heap.size, 0, none⟩ (.string ⟨(smallL a).toArray⟩) = W2 := ⟨_, rfl⟩
  rw [hW2] at HB2 ⊢
  clear hW2
  refine (trimLeft_any (s.extract (a.length + 1) s.size) W2).mono ?_
  rintro e w3 ⟨rfl, hb3⟩
  rw [HX.out.2.2.1]
  unfold sV
  have HB3 := Lib.hid (And.intro ((hb3.block w.heap.size ((Array.getElem?_eq_some_iff.1 HB2.out.1).1)).trans HB2.out.1) (HB2.out.2.trans (hb3.mono HB2.out.2.size)))
  clear hb3
  go_wp2_with fail
  refine (Tryz.strings_CutPrefix ⟨(ltrL r).toArray⟩ ⟨#[34]⟩ w3).mono ?_
  rintro e w4 ⟨rfl, rfl⟩
  rw [show (ByteArray.mk (ltrL r).toArray).data.toList = ltrL r from rfl, show (ByteArray.mk #[34]).data.toList = [34] from rfl]
  have hp : Lib.hasPrefix (ltrL r) [34] = true := by rw [HQ.out]; unfold Lib.hasPrefix; simp
  have ht : Lib.trimPrefix (ltrL r) [34] = q := by rw [HQ.out]; unfold Lib.trimPrefix; rw [if_pos (by unfold Lib.hasPrefix; simp)]; rfl
  have hql : q.length ≤ 1073741823 := by rw [HQ.out] at hT2; simp at hT2; omega
  rw [hp, ht]
  clear hp ht hT2
  go_wp2_with fail
  refine (unquote_any ⟨q.toArray⟩ w4 (by rw [Lib.size_mk]; omega)).mono ?_
  rintro e w5 ⟨rfl, hb5⟩
  rw [show (ByteArray.mk q.toArray).data.toList = q from rfl]
  have hul := unq_len _ q (Nat.le_refl _)
  obtain ⟨V, hV⟩ : ∃ V, (unqL q).1 = V := ⟨_, rfl⟩
  obtain ⟨U, hU⟩ : ∃ U, (unqL q).2 = U := ⟨_, rfl⟩
  rw [hV, hU] at hul
  rw [hV, hU] at HN
  rw [hV, hU]
  clear hV hU
  unfold sV
  have hblk := (hb5.block w.heap.size ((Array.getElem?_eq_some_iff.1 HB3.out.1).1)).trans HB3.out.1
  have hbb := HB3.out.2.trans (hb5.mono HB3.out.2.size)
  have c0 : w5.cell? ⟨w.heap.size, 0, none⟩ = some (.string ⟨(smallL a).toArray⟩) := by rw [Lib.cell_of_heap hblk]; rfl
  have c1 : w5.cell? ⟨w.heap.size, 1, none⟩ = some (.string ⟨#[]⟩) := by rw [Lib.cell_of_heap hblk]; rfl
  have f0 := Lib.frozen_of_heap hblk 0
  have f1 := Lib.frozen_of_heap hblk 1
  have HB5 := Lib.hid (And.intro (set1 (.string ⟨V.toArray⟩) hblk) (hbb.setCell (p := ⟨w.heap.size, 1, none⟩) (Nat.le_refl _) (.string ⟨V.toArray⟩)))
  clear hblk hbb hb5
  go_wp2_with fail
  clear c0 c1 f0 f1
  obtain ⟨W5, hW5⟩ : ∃ W5, w5.setCell ⟨w.heap.size, 1, none⟩ (.string ⟨V.toArray⟩) = W5 := ⟨_, rfl⟩
  rw [hW5] at HB5 ⊢
  clear hW5
  refine (Srch.cut_any 59 ⟨U.toArray⟩ W5 (by rw [Lib.size_mk]; omega) (HE.out.next HB5.out.2)).mono ?_
  rintro e w6 ⟨hcut, hb6, hh6⟩
  have hblk : w6.heap[w.heap.size]? = some (.cells #[.string ⟨(smallL a).toArray⟩, .string ⟨V.toArray⟩] 74 (0, 0)) := by rw [← hh6]; exact HB5.out.1
  have hbb : Below w.heap.size w w6 := HB5.out.2.trans (hb6.mono HB5.out.2.size)
  have c0 : w6.cell? ⟨w.heap.size, 0, none⟩ = some (.string ⟨(smallL a).toArray⟩) := by rw [Lib.cell_of_heap hblk]; rfl
  have c1 : w6.cell? ⟨w.heap.size, 1, none⟩ = some (.string ⟨V.toArray⟩) := by rw [Lib.cell_of_heap hblk]; rfl
  have f0 := Lib.frozen_of_heap hblk 0
  have f1 := Lib.frozen_of_heap hblk 1
  have HBE := Lib.hid (And.intro (set1 (.string ⟨V.toArray⟩) (set0 (.string ⟨(smallL a).toArray⟩) hblk)) ((hbb.setCell (p := ⟨w.heap.size, 0, none⟩) (Nat.le_refl _) (.string ⟨(smallL a).toArray⟩)).setCell (p := ⟨w.heap.size, 1, none⟩) (Nat.le_refl _) (.string ⟨V.toArray⟩)))
  clear hblk hbb hb6 hh6
  rcases hcut with ⟨rfl, hno⟩ | ⟨X, Y, hl, hX, rfl⟩
  · have HC : Hid (cutL 59 U = none) := Lib.hid (cutL_none hno)
    rw [HC.out] at HN
    clear hno HC
    go_wp2_with fail
    refine bodyPost_ret (result3 rfl _ rfl HBE.out.1) rfl ?_
    refine ⟨?_, HBE.out.2⟩
    rw [HN.out]
    rfl
  · have HC : Hid (cutL 59 U = some (X.data.toList, Y.data.toList)) := Lib.hid (by
      have e : U = X.data.toList ++ 59 :: Y.data.toList := hl
      rw [e]
      exact cutL_some _ hX)
    rw [HC.out] at HN
    clear hl hX HC
    go_wp2_with fail
    refine bodyPost_ret (result3 rfl _ rfl HBE.out.1) rfl ?_
    refine ⟨?_, HBE.out.2⟩
    rw [HN.out]
    rfl
set_option maxHeartbeats 4000000 in
set_option maxRecDepth 100000 in
/-- A value, or none. -/
theorem next_valued (s : ByteArray) (w : World) (hs : s.size ≤ 1073741824) (hE : Srch.Env w) (a r : List UInt8) (he : s.data.toList = a ++ 61 :: r) (h : ∀ c ∈ a, isEq c = false) (hq : ∀ q, ltrL r ≠ 34 :: q) :
    Calls Tryz.prog 128 #[.string s] w fun e w' => e = .returned (nextV (nextL s.data.toList)) ∧ Below w.heap.size w w' := by
  have HN0 : Hid ((∀ c ∈ ltrL r, c ≠ 59) → nextL s.data.toList = ((smallL a, trimL (ltrL r)), none)) := Lib.hid (fun h59 => by
    rw [he]
    cases hl : ltrL r with
    | nil => rw [next_empty h hl]; rfl
    | cons d q => exact next_last h hl (fun e => hq q (by rw [hl, e])) (by rw [← hl]; exact h59))
  have HN1 : Hid (∀ v r2, ltrL r = v ++ 59 :: r2 → (∀ c ∈ v, c ≠ 59) → nextL s.data.toList = ((smallL a, trimL v), some r2)) := Lib.hid (fun v r2 e h59 => by
    rw [he]
    cases hl : ltrL r with
    | nil => rw [hl] at e; simp at e
    | cons d q => exact next_value h hl (fun e => hq q (by rw [hl, e])) (by rw [← hl]; exact e) h59)
  have HE := Lib.hid hE
  clear hE
  have hn : a.length < s.size := by rw [Lib.size_eq, he]; simp
  have h61 : s[a.length] = 61 := by
    rw [← byte_get s a.length hn]
    simp only [he]
    simp
  have HI : Hid (Lib.indexAny s.data.toList [61, 59] = (a.length : Int)) := Lib.hid (Lib.indexAny_hit (x := 61) (fun j b hj hb => by
    rw [he, List.getElem?_append_left hj] at hb
    have := h b (List.mem_of_getElem? hb)
    unfold isEq at this
    simpa [List.contains_cons] using this) (by rw [he]; simp) (by decide))
  have g0 : ¬ (a.length : Int) < 0 := by omega
  have g1 : (a.length : Int) < (s.size : Int) := by omega
  have g2 : (a.length : Int) ≤ (s.size : Int) := by omega
  have g3 : (a.length : Int) + 1 ≤ (s.size : Int) := by omega
  have hA1 : (s.extract 0 a.length).data.toList = a := by rw [ext_head, he]; simp
  have hA2 : (s.extract 0 a.length).size ≤ 1073741824 := by rw [Lib.size_eq, hA1]; omega
  have hR1 : (s.extract (a.length + 1) s.size).data.toList = r := by rw [ext_end, he]; simp
  have hR2 : (s.extract (a.length + 1) s.size).size ≤ 1073741824 := by rw [ByteArray.size_extract]; omega
  have hT2 : (ltrL r).length ≤ 1073741824 := by
    have := ltr_le r
    rw [← hR1, ← Lib.size_eq] at this
    rw [← hR1]
    omega
  have HX := Lib.hid (And.intro hA1 (And.intro hA2 (And.intro hR1 hR2)))
  clear hA1 hA2 hR1 hR2
  have HB0 := Lib.hid (And.intro (Kit.fresh_block w #[.string ⟨#[]⟩, .string ⟨#[]⟩] 74) (show Below w.heap.size w (w.alloc (.cells #[.string ⟨#[]⟩, .string ⟨#[]⟩] 74)) from (Below.refl _ w).alloc (Nat.le_refl _) _))
  go_enter Tryz.func128, Tryz.ntmps128
  go_wp2_with fail
  refine (any_any s _ (by omega)).mono ?_
  rintro e w1 ⟨rfl, hb1⟩
  rw [HI.out]
  have hblk1 := (hb1.block w.heap.size (by simp)).trans HB0.out.1
  have HB1 := Lib.hid (And.intro hblk1 (HB0.out.2.trans (hb1.mono (by simp))))
  clear hblk1 hb1
  go_wp2_with fail
  refine (small_any (s.extract 0 a.length) w1 (by have := HX.out.2.1; omega)).mono ?_
  rintro e w2 ⟨rfl, hb2⟩
  rw [HX.out.1]
  unfold sV
  have hblk := (hb2.block w.heap.size ((Array.getElem?_eq_some_iff.1 HB1.out.1).1)).trans HB1.out.1
  have hbb := HB1.out.2.trans (hb2.mono HB1.out.2.size)
  have c0 : w2.cell? ⟨w.heap.size, 0, none⟩ = some (.string ⟨#[]⟩) := by rw [Lib.cell_of_heap hblk]; rfl
  have c1 : w2.cell? ⟨w.heap.size, 1, none⟩ = some (.string ⟨#[]⟩) := by rw [Lib.cell_of_heap hblk]; rfl
  have f0 := Lib.frozen_of_heap hblk 0
  have f1 := Lib.frozen_of_heap hblk 1
  have HB2 := Lib.hid (And.intro (set0 (.string ⟨(smallL a).toArray⟩) hblk) (hbb.setCell (p := ⟨w.heap.size, 0, none⟩) (Nat.le_refl _) (.string ⟨(smallL a).toArray⟩)))
  clear hblk hbb hb2
  go_wp2_with fail
  clear c0 c1 f0 f1
  obtain ⟨W2, hW2⟩ : ∃ W2, w2.setCell ⟨w.heap.size, 0, none⟩ (.string ⟨(smallL a).toArray⟩) = W2 := ⟨_, rfl⟩
  rw [hW2] at HB2 ⊢
  clear hW2
  refine (trimLeft_any (s.extract (a.length + 1) s.size) W2).mono ?_
  rintro e w3 ⟨rfl, hb3⟩
  rw [HX.out.2.2.1]
  unfold sV
  have HB3 := Lib.hid (And.intro ((hb3.block w.heap.size ((Array.getElem?_eq_some_iff.1 HB2.out.1).1)).trans HB2.out.1) (HB2.out.2.trans (hb3.mono HB2.out.2.size)))
  clear hb3
  go_wp2_with fail
  refine (Tryz.strings_CutPrefix ⟨(ltrL r).toArray⟩ ⟨#[34]⟩ w3).mono ?_
  rintro e w4 ⟨rfl, rfl⟩
  rw [show (ByteArray.mk (ltrL r).toArray).data.toList = ltrL r from rfl, show (ByteArray.mk #[34]).data.toList = [34] from rfl]
  have hp : Lib.hasPrefix (ltrL r) [34] = false := by
    cases hl : ltrL r with
    | nil => rfl
    | cons d q =>
      have : d ≠ 34 := fun e => hq q (by rw [hl, e])
      unfold Lib.hasPrefix
      simp [List.isPrefixOf, Ne.symm this]
  have ht : Lib.trimPrefix (ltrL r) [34] = ltrL r := by unfold Lib.trimPrefix; rw [if_neg (by rw [hp]; decide)]
  rw [hp, ht]
  clear hp ht hq
  obtain ⟨T, hT⟩ : ∃ T, ltrL r = T := ⟨_, rfl⟩
  rw [hT] at hT2 HN0 HN1 ⊢
  clear hT
  go_wp2_with fail
  refine (Srch.cut_any 59 ⟨T.toArray⟩ w4 (by rw [Lib.size_mk]; omega) (HE.out.next HB3.out.2)).mono ?_
  rintro e w5 ⟨hcut, hb5, hh5⟩
  have hblk : w5.heap[w.heap.size]? = some (.cells #[.string ⟨(smallL a).toArray⟩, .string ⟨#[]⟩] 74 (0, 0)) := by rw [← hh5]; exact HB3.out.1
  have HB5 := Lib.hid (And.intro hblk (HB3.out.2.trans (hb5.mono HB3.out.2.size)))
  clear hblk hb5 hh5
  rcases hcut with ⟨rfl, hno⟩ | ⟨X, Y, hl, hX, rfl⟩
  · have HN := Lib.hid (HN0.out hno)
    clear hno HN0 HN1
    obtain ⟨S, hS⟩ : ∃ S, ByteArray.mk T.toArray = S := ⟨_, rfl⟩
    have hSl : S.data.toList = T := by rw [← hS]
    have hSz : S.size ≤ 1073741824 := by rw [Lib.size_eq, hSl]; exact hT2
    rw [hS]
    rw [← hSl] at HN
    clear hS hSl
    go_wp2_with fail
    refine (trim_any S w5 (by omega)).mono ?_
    rintro e w6 ⟨rfl, hb6⟩
    unfold sV
    have htz := trimL_le S.data.toList
    rw [← Lib.size_eq] at htz
    go_wp2_with fail
    refine (U8.clone_any ⟨(trimL S.data.toList).toArray⟩ w6 (by rw [Lib.size_mk]; omega)).mono ?_
    rintro e w7 ⟨rfl, hb7⟩
    have hb67 := hb6.trans (hb7.mono hb6.size)
    have hblk := (hb67.block w.heap.size ((Array.getElem?_eq_some_iff.1 HB5.out.1).1)).trans HB5.out.1
    have hbb := HB5.out.2.trans (hb67.mono HB5.out.2.size)
    have c0 : w7.cell? ⟨w.heap.size, 0, none⟩ = some (.string ⟨(smallL a).toArray⟩) := by rw [Lib.cell_of_heap hblk]; rfl
    have c1 : w7.cell? ⟨w.heap.size, 1, none⟩ = some (.string ⟨#[]⟩) := by rw [Lib.cell_of_heap hblk]; rfl
    have f0 := Lib.frozen_of_heap hblk 0
    have f1 := Lib.frozen_of_heap hblk 1
    have HB7 := Lib.hid (And.intro (set1 (.string ⟨(trimL S.data.toList).toArray⟩) hblk) (hbb.setCell (p := ⟨w.heap.size, 1, none⟩) (Nat.le_refl _) (.string ⟨(trimL S.data.toList).toArray⟩)))
    have d0 : (w7.setCell ⟨w.heap.size, 1, none⟩ (.string ⟨(trimL S.data.toList).toArray⟩)).cell? ⟨w.heap.size, 0, none⟩ = some (.string ⟨(smallL a).toArray⟩) := by rw [Lib.cell_of_heap HB7.out.1]; rfl
    have d1 : (w7.setCell ⟨w.heap.size, 1, none⟩ (.string ⟨(trimL S.data.toList).toArray⟩)).cell? ⟨w.heap.size, 1, none⟩ = some (.string ⟨(trimL S.data.toList).toArray⟩) := by rw [Lib.cell_of_heap HB7.out.1]; rfl
    have HBE := Lib.hid (And.intro (set1 (.string ⟨(trimL S.data.toList).toArray⟩) (set0 (.string ⟨(smallL a).toArray⟩) HB7.out.1)) ((HB7.out.2.setCell (p := ⟨w.heap.size, 0, none⟩) (Nat.le_refl _) (.string ⟨(smallL a).toArray⟩)).setCell (p := ⟨w.heap.size, 1, none⟩) (Nat.le_refl _) (.string ⟨(trimL S.data.toList).toArray⟩)))
    clear hblk hbb hb6 hb7 hb67
    go_wp2_with fail
    refine bodyPost_ret (result3 rfl _ rfl HBE.out.1) rfl ?_
    refine ⟨?_, HBE.out.2⟩
    rw [HN.out]
    rfl
  · have HN := Lib.hid (HN1.out _ _ hl hX)
    have hXz : X.size ≤ 1073741824 := by
      have := congrArg List.length hl
      rw [List.length_append, List.length_cons] at this
      have e2 := Lib.size_eq X
      have e : (ByteArray.mk T.toArray).data.toList.length = T.length := rfl
      omega
    clear hl hX HN0 HN1
    go_wp2_with fail
    refine (trim_any X w5 (by omega)).mono ?_
    rintro e w6 ⟨rfl, hb6⟩
    unfold sV
    have htz := trimL_le X.data.toList
    rw [← Lib.size_eq] at htz
    go_wp2_with fail
    refine (U8.clone_any ⟨(trimL X.data.toList).toArray⟩ w6 (by rw [Lib.size_mk]; omega)).mono ?_
    rintro e w7 ⟨rfl, hb7⟩
    have hb67 := hb6.trans (hb7.mono hb6.size)
    have hblk := (hb67.block w.heap.size ((Array.getElem?_eq_some_iff.1 HB5.out.1).1)).trans HB5.out.1
    have hbb := HB5.out.2.trans (hb67.mono HB5.out.2.size)
    have c0 : w7.cell? ⟨w.heap.size, 0, none⟩ = some (.string ⟨(smallL a).toArray⟩) := by rw [Lib.cell_of_heap hblk]; rfl
    have c1 : w7.cell? ⟨w.heap.size, 1, none⟩ = some (.string ⟨#[]⟩) := by rw [Lib.cell_of_heap hblk]; rfl
    have f0 := Lib.frozen_of_heap hblk 0
    have f1 := Lib.frozen_of_heap hblk 1
    have HB7 := Lib.hid (And.intro (set1 (.string ⟨(trimL X.data.toList).toArray⟩) hblk) (hbb.setCell (p := ⟨w.heap.size, 1, none⟩) (Nat.le_refl _) (.string ⟨(trimL X.data.toList).toArray⟩)))
    have d0 : (w7.setCell ⟨w.heap.size, 1, none⟩ (.string ⟨(trimL X.data.toList).toArray⟩)).cell? ⟨w.heap.size, 0, none⟩ = some (.string ⟨(smallL a).toArray⟩) := by rw [Lib.cell_of_heap HB7.out.1]; rfl
    have d1 : (w7.setCell ⟨w.heap.size, 1, none⟩ (.string ⟨(trimL X.data.toList).toArray⟩)).cell? ⟨w.heap.size, 1, none⟩ = some (.string ⟨(trimL X.data.toList).toArray⟩) := by rw [Lib.cell_of_heap HB7.out.1]; rfl
    have HBE := Lib.hid (And.intro (set1 (.string ⟨(trimL X.data.toList).toArray⟩) (set0 (.string ⟨(smallL a).toArray⟩) HB7.out.1)) ((HB7.out.2.setCell (p := ⟨w.heap.size, 0, none⟩) (Nat.le_refl _) (.string ⟨(smallL a).toArray⟩)).setCell (p := ⟨w.heap.size, 1, none⟩) (Nat.le_refl _) (.string ⟨(trimL X.data.toList).toArray⟩)))
    clear hblk hbb hb6 hb7 hb67
    go_wp2_with fail
    refine bodyPost_ret (result3 rfl _ rfl HBE.out.1) rfl ?_
    refine ⟨?_, HBE.out.2⟩
    rw [HN.out]
    rfl
theorem next_any (s : ByteArray) (w : World) (hs : s.size ≤ 1073741824) (hE : Srch.Env w) :
    Calls Tryz.prog 128 #[.string s] w fun e w' => e = .returned (nextV (nextL s.data.toList)) ∧ Below w.heap.size w w' := by
  rcases any_cases s.data.toList with ⟨_, h⟩ | ⟨a, c, r, he, hc, h, _⟩
  · exact next_alone s w hs hE h
  · unfold isEq at hc
    rw [Bool.or_eq_true, beq_iff_eq, beq_iff_eq] at hc
    rcases hc with rfl | rfl
    · by_cases hq : ∃ q, ltrL r = 34 :: q
      · obtain ⟨q, hq⟩ := hq
        exact next_quoted s w hs hE a r he h q hq
      · exact next_valued s w hs hE a r he h (fun q e => hq ⟨q, e⟩)
    · exact next_named s w hs hE a r he h
end Go.Proofs.YtnnbbjdidbggmaaGreatDoor.Pt
