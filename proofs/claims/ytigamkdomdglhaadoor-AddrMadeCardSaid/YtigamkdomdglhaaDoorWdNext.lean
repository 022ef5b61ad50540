/-
  word.next returns the first word of a text from a place on, or that there is none. Conditions: the text has at most 2^30 bytes, the place lies in it; the bound of the library's search is some number.
-/
import Derived.Test.YtigamkdomdglhaaDoorWdMean
import Derived.Test.YtigamkdomdglhaaDoorWdVis
import Derived.Test.YtigamkdomdglhaaDoorWdBits
import Derived.Deep.LoopGhost
namespace Go.Proofs.YtigamkdomdglhaaDoor.Wd
open Go Go.RowKit Go.Joins Kit

theorem set3 {W : World} {P i : Nat} {cs : Array Value} {T : TypeId} (v : Value) (h : W.heap[P]? = some (.cells cs T (0, 0))) : (W.setCell ⟨P, i, none⟩ v).heap[P]? = some (.cells (cs.setIfInBounds i v) T (0, 0)) := by
  simp [World.setCell, Array.getElem?_modify, h]
/-- What a word is in memory. -/
def encV (k t : Int) (x : ByteArray) : Value := .agg #[.int .i64 k, .int .i64 t, .string x]
theorem enc_result {fn : Func} {p u : Tmp} (h : fn.results = #[.cell p 53, .tmp u]) (tmps : Array Value) {w : World} {G : Nat} {k t : Int} {x : ByteArray}
    (hp : tmps.getD p undef = .pointer (some ⟨G, 0, none⟩)) (hb : w.heap[G]? = some (.cells #[.int .i64 k, .int .i64 t, .string x] 53 (0, 0))) : (results fn tmps).run Tryd.prog w = .ok (.tuple #[encV k t x, tmps.getD u undef]) w := by
  rw [results_cell_tmp h, hp]
  simp only [asAddr, Sem.run_pure, Result.andThen_ok]
  rw [run_loadVar_row w G 53 _ _ _ _ hb Tryd.underlying53 rfl (by kernel_rfl)]
  rfl
/-- What next returns. -/
def NextLeft (s : ByteArray) (a : Nat) (w : World) (e : Ending) (w' : World) : Prop :=
  ((e = .returned (.tuple #[encV 0 0 ⟨#[]⟩, .bool false]) ∧ ∀ j, a ≤ j → j < s.size → oneL (s.data.toList.drop j) = none) ∨
    ∃ (k n : Nat) (x : ByteArray), e = .returned (.tuple #[encV k ((k : Int) + (n : Int)) x, .bool true]) ∧ a ≤ k ∧ k < s.size ∧ (∀ j, a ≤ j → j < k → oneL (s.data.toList.drop j) = none) ∧ oneL (s.data.toList.drop k) = some (x.data.toList, n)) ∧ Below w.heap.size w w'

theorem pre_two (a b : UInt8) (l : List UInt8) : Lib.hasPrefix l [a, b] = decide (l.take 2 = [a, b]) := by
  rw [Bool.eq_iff_iff, decide_eq_true_iff]
  unfold Lib.hasPrefix
  rw [List.isPrefixOf_iff_prefix]
  constructor
  · rintro ⟨t, rfl⟩; rfl
  · intro h; exact ⟨l.drop 2, by rw [← h, List.take_append_drop]⟩
theorem pre_one (a : UInt8) (l : List UInt8) : Lib.hasPrefix l [a] = decide (l.head? = some a) := by
  rw [Bool.eq_iff_iff, decide_eq_true_iff]
  unfold Lib.hasPrefix
  rw [List.isPrefixOf_iff_prefix]
  constructor
  · rintro ⟨t, rfl⟩; rfl
  · intro h
    cases l with
    | nil => cases h
    | cons x r => exact ⟨r, by rw [List.head?_cons] at h; rw [Option.some.inj h]; rfl⟩
theorem more_none {l : List UInt8} {a k : Nat} (h : ∀ j, a ≤ j → j < k → oneL (l.drop j) = none) (h1 : oneL (l.drop k) = none) : ∀ j, a ≤ j → j < k + 1 → oneL (l.drop j) = none := by
  intro j hj hk
  by_cases e : j = k
  · rw [e]; exact h1
  · exact h j hj (by omega)

set_option maxHeartbeats 4000000 in
set_option maxRecDepth 100000 in
theorem next_any (s : ByteArray) (a : Nat) (w : World) (hs : s.size ≤ 1099511627) (ha : a ≤ s.size) (hE : Srch.Env w) :
    Calls Tryd.prog 29 #[.string s, .int .i64 a] w fun e w' => NextLeft s a w e w' := by
  have HE := Lib.hid hE
  clear hE
  go_enter Tryd.func29, Tryd.ntmps29
  go_wp2
  go_step3
  go_wp2
  go_step3
  go_wp2
  have hb0 : Below w.heap.size w (w.alloc (.cells #[.int .i64 0, .int .i64 0, .string ⟨#[]⟩] 53)) := (Below.refl _ w).alloc (Nat.le_refl _) _
  have hblk0 := Kit.fresh_block w #[.int .i64 0, .int .i64 0, .string ⟨#[]⟩] 53
  go_loopg [6] (s.size - a) (fun g f wr => ∃ k : Nat, k + g = s.size ∧ a ≤ k ∧ f = .int .i64 k ∧ Hid (∀ j, a ≤ j → j < k → oneL (s.data.toList.drop j) = none) ∧ wr.heap[w.heap.size]? = some (.cells #[.int .i64 0, .int .i64 0, .string ⟨#[]⟩] 53 (0, 0)) ∧ Below w.heap.size w wr)
  case atStart => exact ⟨a, by omega, Nat.le_refl _, rfl, Lib.hid (fun j h1 h2 => by omega), hblk0, hb0⟩
  case round =>
    clear hb0 hblk0
    obtain ⟨k, hkg, hak, rfl, HI, hblk, hb⟩ := hrel
    cases gk with
    | zero =>
      obtain rfl : k = s.size := by omega
      have c0 : wr.cell? ⟨w.heap.size, 0, none⟩ = some (.int .i64 0) := by rw [Lib.cell_of_heap hblk]; rfl
      have c1 : wr.cell? ⟨w.heap.size, 1, none⟩ = some (.int .i64 0) := by rw [Lib.cell_of_heap hblk]; rfl
      have c2 : wr.cell? ⟨w.heap.size, 2, none⟩ = some (.string ⟨#[]⟩) := by rw [Lib.cell_of_heap hblk]; rfl
      have f0 := Lib.frozen_of_heap hblk 0
      have f1 := Lib.frozen_of_heap hblk 1
      have f2 := Lib.frozen_of_heap hblk 2
      go_wp2
      rw [Exit.noGoto_ret]
      refine bodyPost_ret (enc_result (k := 0) (t := 0) (x := ⟨#[]⟩) rfl _ rfl (set3 _ (set3 _ (set3 _ hblk)))) rfl ?_
      exact ⟨Or.inl ⟨rfl, HI.out⟩, ((hb.setCell (p := ⟨w.heap.size, 0, none⟩) (Nat.le_refl _) _).setCell (p := ⟨w.heap.size, 1, none⟩) (Nat.le_refl _) _).setCell (p := ⟨w.heap.size, 2, none⟩) (Nat.le_refl _) _⟩
    | succ g =>
      have hlt : k < s.size := by omega
      have gk : (k : Int) < (s.size : Int) := by omega
      have hwl : w.heap.size < wr.heap.size := (Array.getElem?_eq_some_iff.1 hblk).1
      have hz : (s.extract k s.size).size = s.size - k := by rw [ByteArray.size_extract]; omega
      have hd := Q4.ext_drop s k
      obtain ⟨X, hX⟩ : ∃ X, s.extract k s.size = X := ⟨_, rfl⟩
      rw [hX] at hz hd
      go_wp2_with fail
      clear hX
      have HX := Lib.hid hd
      clear hd
      refine (Tryd.strings_CutPrefix X ⟨#[61, 63]⟩ wr).mono ?_
      rintro e wq ⟨rfl, hwq⟩
      subst hwq
      rw [show (ByteArray.mk #[61, 63]).data.toList = [61, 63] from rfl]
      have HPX := Lib.hid (pre_two 61 63 X.data.toList)
      by_cases h2 : X.data.toList.take 2 = [61, 63]
      rotate_left 1
      · have HNO : Hid (oneL (s.data.toList.drop k) = none) := Lib.hid (by rw [← HX.out]; exact one_no h2)
        have HF : Hid (Lib.hasPrefix X.data.toList [61, 63] = false) := Lib.hid (by rw [HPX.out]; exact decide_eq_false h2)
        rw [HF.out]
        clear h2
        go_wp2
        go_roundg g
        case measure => omega
        case rel => exact ⟨k + 1, by omega, by omega, by go_num, Lib.hid (more_none HI.out HNO.out), hblk, hb⟩
      have HT : Hid (Lib.hasPrefix X.data.toList [61, 63] = true) := Lib.hid (by rw [HPX.out]; exact decide_eq_true h2)
      obtain ⟨R0, hR0⟩ : ∃ R : ByteArray, (⟨(Lib.trimPrefix X.data.toList [61, 63]).toArray⟩ : ByteArray) = R := ⟨_, rfl⟩
      have HR0 : Hid (s.data.toList.drop k = 61 :: 63 :: R0.data.toList) := Lib.hid (by
        rw [← hR0, ← HX.out]
        show _ = 61 :: 63 :: Lib.trimPrefix X.data.toList [61, 63]
        unfold Lib.trimPrefix
        rw [HT.out, if_pos rfl]
        show _ = [61, 63] ++ X.data.toList.drop 2
        rw [← h2, List.take_append_drop])
      have HO : Hid (oneL (s.data.toList.drop k) = tailL R0.data.toList) := Lib.hid (by rw [HR0.out, one_yes])
      have hz0 : R0.size + 2 + k = s.size := by
        have := congrArg List.length HR0.out
        rw [List.length_drop, List.length_cons, List.length_cons, ← Lib.size_eq, ← Lib.size_eq] at this
        omega
      rw [HT.out, hR0]
      clear hR0 h2 hz
      have hP0 := Kit.fresh_block wq #[.string ⟨#[]⟩, .string ⟨#[]⟩, .string ⟨#[]⟩] 61
      have hE0 : (wq.alloc (.cells #[.string ⟨#[]⟩, .string ⟨#[]⟩, .string ⟨#[]⟩] 61)).heap[w.heap.size]? = _ := (Lib.alloc_old wq _ w.heap.size hwl).trans hblk
      have hB0 : Below w.heap.size w (wq.alloc (.cells #[.string ⟨#[]⟩, .string ⟨#[]⟩, .string ⟨#[]⟩] 61)) := hb.alloc hb.size _
      obtain ⟨P, hP⟩ : ∃ P, wq.heap.size = P := ⟨_, rfl⟩
      have hne : w.heap.size ≠ P := by omega
      have hPl : w.heap.size ≤ P := by omega
      go_wp2_with fail
      obtain ⟨W0, hW0⟩ : ∃ W, wq.alloc (.cells #[.string ⟨#[]⟩, .string ⟨#[]⟩, .string ⟨#[]⟩] 61) = W := ⟨_, rfl⟩
      rw [hW0] at hP0 hE0 hB0 ⊢
      rw [hP] at hP0
      clear hW0 hblk hb hwl
      refine wp_loop_rounds 4 ?_
      rw [rounds_succ]
      go_wp2_with fail
      refine (Srch.cut_any 63 R0 W0 (by omega) (HE.out.next hB0)).mono ?_
      rintro e V0 ⟨hc, hbc, hwc⟩
      rw [hwc] at hP0 hE0
      have hC0 := hB0.trans (hbc.mono hB0.size)
      clear hbc hwc hB0
      have c0 : V0.cell? ⟨P, 0, none⟩ = some (.string ⟨#[]⟩) := by rw [Lib.cell_of_heap hP0]; rfl
      have f0 := Lib.frozen_of_heap hP0 0
      rcases hc with ⟨rfl, hno⟩ | ⟨A0, R1, hl, hno, rfl⟩
      · have HNO : Hid (oneL (s.data.toList.drop k) = none) := Lib.hid (by rw [HO.out]; exact tail_no0 hno)
        have hE' := (Below.heap_setCell V0 ⟨P, 0, none⟩ (.string R0) w.heap.size hne).trans hE0
        have hB' := hC0.setCell (p := ⟨P, 0, none⟩) hPl (.string R0)
        clear hno
        go_wp2
        go_roundg g
        case measure => omega
        case rel => exact ⟨k + 1, by omega, by omega, by go_num, Lib.hid (more_none HI.out HNO.out), hE', hB'⟩
      have HL0 := Lib.hid hl
      have HN0 := Lib.hid hno
      have hz1 : A0.size + 1 + R1.size = R0.size := by rw [Lib.size_eq R0, hl, List.length_append, List.length_cons, ← Lib.size_eq, ← Lib.size_eq]; omega
      clear hl hno
      have hE1 := (Below.heap_setCell V0 ⟨P, 0, none⟩ (.string A0) w.heap.size hne).trans hE0
      have hB1 := hC0.setCell (p := ⟨P, 0, none⟩) hPl (.string A0)
      have hP1 := set3 (i := 0) (.string A0) hP0
      have c1 : (V0.setCell ⟨P, 0, none⟩ (.string A0)).cell? ⟨P, 0, none⟩ = some (.string A0) := by rw [Lib.cell_of_heap hP1]; rfl
      go_wp2_with fail
      refine (vis_any A0 _ (by omega)).mono ?_
      rintro e w' ⟨rfl, rfl⟩
      cases hv : visL A0.data.toList
      · have HNO : Hid (oneL (s.data.toList.drop k) = none) := Lib.hid (by rw [HO.out, HL0.out]; exact tail_bad0 HN0.out hv)
        clear hv
        go_wp2
        go_roundg g
        case measure => omega
        case rel => exact ⟨k + 1, by omega, by omega, by go_num, Lib.hid (more_none HI.out HNO.out), hE1, hB1⟩
      have HV0 := Lib.hid hv
      clear hv c0 c1 f0 hP0 hE0 hC0
      go_wp2_with fail
      obtain ⟨W1, hW⟩ : ∃ W, V0.setCell ⟨P, 0, none⟩ (.string A0) = W := ⟨_, rfl⟩
      rw [hW] at hP1 hE1 hB1 ⊢
      clear hW
      rw [show (#[.string ⟨#[]⟩, .string ⟨#[]⟩, .string ⟨#[]⟩] : Array Value).setIfInBounds 0 (.string A0) = #[.string A0, .string ⟨#[]⟩, .string ⟨#[]⟩] from rfl] at hP1
      rw [rounds_succ]
      go_wp2_with fail
      refine (Srch.cut_any 63 R1 W1 (by omega) (HE.out.next hB1)).mono ?_
      rintro e V1 ⟨hc, hbc, hwc⟩
      rw [hwc] at hP1 hE1
      have hC1 := hB1.trans (hbc.mono hB1.size)
      clear hbc hwc hB1
      have c0 : V1.cell? ⟨P, 1, none⟩ = some (.string ⟨#[]⟩) := by rw [Lib.cell_of_heap hP1]; rfl
      have f0 := Lib.frozen_of_heap hP1 1
      rcases hc with ⟨rfl, hno⟩ | ⟨A1, R2, hl, hno, rfl⟩
      · have HNO : Hid (oneL (s.data.toList.drop k) = none) := Lib.hid (by rw [HO.out, HL0.out]; exact tail_no1 HN0.out hno)
        have hE' := (Below.heap_setCell V1 ⟨P, 1, none⟩ (.string R1) w.heap.size hne).trans hE1
        have hB' := hC1.setCell (p := ⟨P, 1, none⟩) hPl (.string R1)
        clear hno
        go_wp2
        go_roundg g
        case measure => omega
        case rel => exact ⟨k + 1, by omega, by omega, by go_num, Lib.hid (more_none HI.out HNO.out), hE', hB'⟩
      have HL1 := Lib.hid hl
      have HN1 := Lib.hid hno
      have hz2 : A1.size + 1 + R2.size = R1.size := by rw [Lib.size_eq R1, hl, List.length_append, List.length_cons, ← Lib.size_eq, ← Lib.size_eq]; omega
      clear hl hno
      have hE2 := (Below.heap_setCell V1 ⟨P, 1, none⟩ (.string A1) w.heap.size hne).trans hE1
      have hB2 := hC1.setCell (p := ⟨P, 1, none⟩) hPl (.string A1)
      have hP2 := set3 (i := 1) (.string A1) hP1
      have c1 : (V1.setCell ⟨P, 1, none⟩ (.string A1)).cell? ⟨P, 1, none⟩ = some (.string A1) := by rw [Lib.cell_of_heap hP2]; rfl
      go_wp2_with fail
      refine (vis_any A1 _ (by omega)).mono ?_
      rintro e w' ⟨rfl, rfl⟩
      cases hv : visL A1.data.toList
      · have HNO : Hid (oneL (s.data.toList.drop k) = none) := Lib.hid (by rw [HO.out, HL0.out, HL1.out]; exact tail_bad1 HN0.out HN1.out hv)
        clear hv
        go_wp2
        go_roundg g
        case measure => omega
        case rel => exact ⟨k + 1, by omega, by omega, by go_num, Lib.hid (more_none HI.out HNO.out), hE2, hB2⟩
      have HV1 := Lib.hid hv
      clear hv c0 c1 f0 hP1 hE1 hC1
      go_wp2_with fail
      obtain ⟨W2, hW⟩ : ∃ W, V1.setCell ⟨P, 1, none⟩ (.string A1) = W := ⟨_, rfl⟩
      rw [hW] at hP2 hE2 hB2 ⊢
      clear hW
      rw [show (#[.string A0, .string ⟨#[]⟩, .string ⟨#[]⟩] : Array Value).setIfInBounds 1 (.string A1) = #[.string A0, .string A1, .string ⟨#[]⟩] from rfl] at hP2
      rw [rounds_succ]
      go_wp2_with fail
      refine (Srch.cut_any 63 R2 W2 (by omega) (HE.out.next hB2)).mono ?_
      rintro e V2 ⟨hc, hbc, hwc⟩
      rw [hwc] at hP2 hE2
      have hC2 := hB2.trans (hbc.mono hB2.size)
      clear hbc hwc hB2
      have c0 : V2.cell? ⟨P, 2, none⟩ = some (.string ⟨#[]⟩) := by rw [Lib.cell_of_heap hP2]; rfl
      have f0 := Lib.frozen_of_heap hP2 2
      rcases hc with ⟨rfl, hno⟩ | ⟨A2, R3, hl, hno, rfl⟩
      · have HNO : Hid (oneL (s.data.toList.drop k) = none) := Lib.hid (by rw [HO.out, HL0.out, HL1.out]; exact tail_no2 HN0.out HN1.out hno)
        have hE' := (Below.heap_setCell V2 ⟨P, 2, none⟩ (.string R2) w.heap.size hne).trans hE2
        have hB' := hC2.setCell (p := ⟨P, 2, none⟩) hPl (.string R2)
        clear hno
        go_wp2
        go_roundg g
        case measure => omega
        case rel => exact ⟨k + 1, by omega, by omega, by go_num, Lib.hid (more_none HI.out HNO.out), hE', hB'⟩
      have HL2 := Lib.hid hl
      have HN2 := Lib.hid hno
      have hz3 : A2.size + 1 + R3.size = R2.size := by rw [Lib.size_eq R2, hl, List.length_append, List.length_cons, ← Lib.size_eq, ← Lib.size_eq]; omega
      clear hl hno
      have hE3 := (Below.heap_setCell V2 ⟨P, 2, none⟩ (.string A2) w.heap.size hne).trans hE2
      have hB3 := hC2.setCell (p := ⟨P, 2, none⟩) hPl (.string A2)
      have hP3 := set3 (i := 2) (.string A2) hP2
      have c1 : (V2.setCell ⟨P, 2, none⟩ (.string A2)).cell? ⟨P, 2, none⟩ = some (.string A2) := by rw [Lib.cell_of_heap hP3]; rfl
      go_wp2_with fail
      refine (vis_any A2 _ (by omega)).mono ?_
      rintro e w' ⟨rfl, rfl⟩
      cases hv : visL A2.data.toList
      · have HNO : Hid (oneL (s.data.toList.drop k) = none) := Lib.hid (by rw [HO.out, HL0.out, HL1.out, HL2.out]; exact tail_bad2 HN0.out HN1.out HN2.out hv)
        clear hv
        go_wp2
        go_roundg g
        case measure => omega
        case rel => exact ⟨k + 1, by omega, by omega, by go_num, Lib.hid (more_none HI.out HNO.out), hE3, hB3⟩
      have HV2 := Lib.hid hv
      clear hv c0 c1 f0 hP2 hE2 hC2
      go_wp2_with fail
      obtain ⟨W3, hW⟩ : ∃ W, V2.setCell ⟨P, 2, none⟩ (.string A2) = W := ⟨_, rfl⟩
      rw [hW] at hP3 hE3 hB3 ⊢
      clear hW
      rw [show (#[.string A0, .string A1, .string ⟨#[]⟩] : Array Value).setIfInBounds 2 (.string A2) = #[.string A0, .string A1, .string A2] from rfl] at hP3
      rw [rounds_succ]
      go_wp2_with fail
      refine (Tryd.strings_CutPrefix R3 ⟨#[61]⟩ W3).mono ?_
      rintro e w' ⟨rfl, hw'⟩
      subst hw'
      rw [show (ByteArray.mk #[61]).data.toList = [61] from rfl]
      have HPR := Lib.hid (pre_one 61 R3.data.toList)
      by_cases h3 : R3.data.toList.head? = some 61
      rotate_left 1
      · have HNO : Hid (oneL (s.data.toList.drop k) = none) := Lib.hid (by rw [HO.out, HL0.out, HL1.out, HL2.out]; exact tail_open HN0.out HN1.out HN2.out h3)
        have HF : Hid (Lib.hasPrefix R3.data.toList [61] = false) := Lib.hid (by rw [HPR.out]; exact decide_eq_false h3)
        rw [HF.out]
        clear h3
        go_wp2
        go_roundg g
        case measure => omega
        case rel => exact ⟨k + 1, by omega, by omega, by go_num, Lib.hid (more_none HI.out HNO.out), hE3, hB3⟩
      have HF : Hid (Lib.hasPrefix R3.data.toList [61] = true) := Lib.hid (by rw [HPR.out]; exact decide_eq_true h3)
      obtain ⟨R4, hR4⟩ : ∃ R : ByteArray, (⟨(Lib.trimPrefix R3.data.toList [61]).toArray⟩ : ByteArray) = R := ⟨_, rfl⟩
      have HR4 : Hid (R3.data.toList = 61 :: R4.data.toList) := Lib.hid (by
        rw [← hR4]
        show _ = 61 :: Lib.trimPrefix R3.data.toList [61]
        unfold Lib.trimPrefix
        rw [HF.out, if_pos rfl]
        cases hr : R3.data.toList with
        | nil => rw [hr] at h3; cases h3
        | cons x q => rw [hr, List.head?_cons] at h3; rw [Option.some.inj h3]; rfl)
      have hz4 : R4.size + 1 = R3.size := by
        have := congrArg List.length HR4.out
        rw [List.length_cons, ← Lib.size_eq, ← Lib.size_eq] at this
        omega
      have HW : Hid (oneL (s.data.toList.drop k) = (saysL A0.data.toList A1.data.toList A2.data.toList).map (fun x => (x, A0.data.toList.length + A1.data.toList.length + A2.data.toList.length + 6))) := Lib.hid (by
        rw [HO.out, HL0.out, HL1.out, HL2.out, HR4.out]
        exact tail_full _ HN0.out HN1.out HN2.out HV0.out HV1.out HV2.out)
      rw [HF.out, hR4]
      clear hR4 h3
      have c0 : w'.cell? ⟨P, 0, none⟩ = some (.string A0) := by rw [Lib.cell_of_heap hP3]; rfl
      have c1 : w'.cell? ⟨P, 1, none⟩ = some (.string A1) := by rw [Lib.cell_of_heap hP3]; rfl
      have c2 : w'.cell? ⟨P, 2, none⟩ = some (.string A2) := by rw [Lib.cell_of_heap hP3]; rfl
      go_wp2_with fail
      refine (meaning_any A0 A1 A2 w' (by omega) (by omega) (HE.out.next hB3)).mono ?_
      rintro e w5 ⟨x, rfl, hx, hb5⟩
      have hwl : w.heap.size < w'.heap.size := (Array.getElem?_eq_some_iff.1 hE3).1
      have hE5 := (hb5.block _ hwl).trans hE3
      have hB5 := hB3.trans (hb5.mono hB3.size)
      clear c0 c1 c2 hb5 hP3 hE3 hB3 hwl
      cases hsay : saysL A0.data.toList A1.data.toList A2.data.toList with
      | none =>
        have HNO : Hid (oneL (s.data.toList.drop k) = none) := Lib.hid (by rw [HW.out, hsay]; rfl)
        clear hsay hx
        rw [show (none : Option (List UInt8)).isSome = false from rfl]
        go_wp2
        go_roundg g
        case measure => omega
        case rel => exact ⟨k + 1, by omega, by omega, by go_num, Lib.hid (more_none HI.out HNO.out), hE5, hB5⟩
      | some y =>
        have hy := hx y hsay
        have HY : Hid (oneL (s.data.toList.drop k) = some (x.data.toList, A0.size + A1.size + A2.size + 6)) := Lib.hid (by rw [HW.out, hsay, hy, Lib.size_eq, Lib.size_eq, Lib.size_eq]; rfl)
        rw [show (some y).isSome = true from rfl]
        clear hsay hx hy
        have d0 : w5.cell? ⟨w.heap.size, 0, none⟩ = some (.int .i64 0) := by rw [Lib.cell_of_heap hE5]; rfl
        have d1 : w5.cell? ⟨w.heap.size, 1, none⟩ = some (.int .i64 0) := by rw [Lib.cell_of_heap hE5]; rfl
        have d2 : w5.cell? ⟨w.heap.size, 2, none⟩ = some (.string ⟨#[]⟩) := by rw [Lib.cell_of_heap hE5]; rfl
        have f0 := Lib.frozen_of_heap hE5 0
        have f1 := Lib.frozen_of_heap hE5 1
        have f2 := Lib.frozen_of_heap hE5 2
        have hto : (s.size : Int) - (R4.size : Int) = (k : Int) + ((A0.size + A1.size + A2.size + 6 : Nat) : Int) := by omega
        have HTO := Lib.hid hto
        clear hto
        go_wp2
        rw [Exit.noGoto_ret]
        refine bodyPost_ret (enc_result (k := k) (t := (s.size : Int) - (R4.size : Int)) (x := x) rfl _ rfl (set3 _ (set3 _ (set3 _ hE5)))) rfl ?_
        exact ⟨Or.inr ⟨k, A0.size + A1.size + A2.size + 6, x, by rw [HTO.out]; rfl, hak, hlt, HI.out, HY.out⟩, ((hB5.setCell (p := ⟨w.heap.size, 0, none⟩) (Nat.le_refl _) _).setCell (p := ⟨w.heap.size, 1, none⟩) (Nat.le_refl _) _).setCell (p := ⟨w.heap.size, 2, none⟩) (Nat.le_refl _) _⟩
end Go.Proofs.YtigamkdomdglhaaDoor.Wd
