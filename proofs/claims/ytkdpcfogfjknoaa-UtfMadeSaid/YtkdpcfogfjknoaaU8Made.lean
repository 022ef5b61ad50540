/-
  The law UtfMade returns true: code points put one behind the other are valid; cut to some they are those. Conditions: the slice's cells below its length are uint32 and lie below the call's new memory; the number is a byte.
-/
import Derived.Test.YtkdpcfogfjknoaaU8Spoilt
namespace Go.Proofs.Ytkdpcfogfjknoaa.U8
open Go Go.RowKit Go.Joins Kit

/-! ### Code points one behind the other -/
def isPt (r : Int) : Bool := sizeN r != 0
def putsL (l : List Int) : List UInt8 := l.flatMap putL
theorem putsL_nil : putsL [] = [] := rfl
theorem putsL_cons (r : Int) (l : List Int) : putsL (r :: l) = putL r ++ putsL l := by simp [putsL]
theorem putsL_append (a b : List Int) : putsL (a ++ b) = putsL a ++ putsL b := by simp [putsL]
theorem isPt_iff (r : Int) : isPt r = true ↔ sizeN r ≠ 0 := by simp [isPt]
theorem putsL_pts (l : List Int) : putsL (l.filter isPt) = putsL l := by
  induction l with
  | nil => rfl
  | cons r l ih =>
    by_cases h : sizeN r = 0
    · rw [List.filter_cons_of_neg (by rw [isPt_iff]; exact fun e => e h), putsL_cons, putL_none h, ih]; rfl
    · rw [List.filter_cons_of_pos ((isPt_iff r).2 h), putsL_cons, putsL_cons, ih]
theorem validL_puts (l : List Int) : validL (putsL l) = true := by
  induction l with
  | nil => rfl
  | cons r l ih => rw [putsL_cons, validL_append _ _ (validL_put r)]; exact ih
theorem cut_puts : ∀ (l : List Int) (_ : ∀ r ∈ l, sizeN r ≠ 0) (m : Nat), (putsL l).take (cutN m (putsL l)) = putsL (l.take m)
  | [], _, m => by rw [putsL_nil, cutN_none decL_nil, List.take_nil, List.take_nil, putsL_nil]
  | r :: l, h, 0 => rfl
  | r :: l, h, m + 1 => by
    have hd := decL_put r (h r List.mem_cons_self) (putsL l)
    have hl := putL_length r
    rw [putsL_cons, cutN_some hd, List.take_succ_cons, putsL_cons, ← hl, List.drop_left, List.take_length_add_append, cut_puts l (fun x hx => h x (List.mem_cons_of_mem _ hx)) m]
/-- The code points among numbers, some at most. -/
def fewL (m : Nat) (l : List Int) : List Int := (l.filter isPt).take m
theorem cutB_few {s : ByteArray} {l : List Int} (hs : s.data.toList = putsL l) (m : Nat) {t : ByteArray} (ht : t.data.toList = putsL (fewL m l)) : cutB s m = t := by
  apply Kit.bytes_ext
  unfold cutB
  show s.data.toList.take (cutN m s.data.toList) = _
  rw [hs, ht, ← putsL_pts l, cut_puts _ (fun r hr => (isPt_iff r).1 (List.mem_filter.1 hr).2)]
  rfl
theorem few_all {m : Nat} {l : List Int} (h : l.length ≤ m) : putsL (fewL m l) = putsL l := by
  unfold fewL
  rw [List.take_of_length_le (Nat.le_trans (List.length_filter_le _ _) h), putsL_pts]
def ptsN (l : List Int) : Nat := (l.filter isPt).length
theorem snoc_take (l : List Int) (i : Nat) (h : i < l.length) : l.take (i + 1) = l.take i ++ [l[i]] := List.take_succ_eq_append_getElem h
theorem few_no {m : Nat} {l : List Int} {r : Int} (h : sizeN r = 0) : fewL m (l ++ [r]) = fewL m l ∧ ptsN (l ++ [r]) = ptsN l := by
  unfold fewL ptsN
  rw [List.filter_append, List.filter_cons_of_neg (by rw [isPt_iff]; exact fun e => e h)]
  simp
theorem few_yes {m : Nat} {l : List Int} {r : Int} (h : sizeN r ≠ 0) : ptsN (l ++ [r]) = ptsN l + 1 ∧ fewL m (l ++ [r]) = if ptsN l < m then fewL m l ++ [r] else fewL m l := by
  unfold fewL ptsN
  rw [List.filter_append, List.filter_cons_of_pos ((isPt_iff r).2 h)]
  refine ⟨by simp, ?_⟩
  rw [List.take_append]
  split
  · rename_i hl
    obtain ⟨j, hj⟩ : ∃ j, m - (l.filter isPt).length = j + 1 := ⟨m - (l.filter isPt).length - 1, by omega⟩
    rw [hj]
    simp
  · rename_i hl
    rw [show m - (l.filter isPt).length = 0 by omega]
    simp
def modL (xs : List Int) : List Int := xs.map (· % 1114112)
theorem modL_get (xs : List Int) (i : Nat) (h : i < xs.length) : ∃ h' : i < (modL xs).length, (modL xs)[i] = xs.getD i 0 % 1114112 := by
  refine ⟨by simpa [modL] using h, ?_⟩
  simp [modL, h]

set_option maxHeartbeats 2000000 in
set_option maxRecDepth 100000 in
theorem utfMade_walk (A : Option Addr) (n cap : Nat) (xs : List Int) (m : Int) (w : World) (hn : n ≤ 9223372036854775807) (m0 : 0 ≤ m) (m1 : m ≤ 255) (hlen : xs.length = n)
    (hR : ∀ k, k < n → ∃ b off, A = some ⟨b, off, none⟩ ∧ b < w.heap.size ∧ w.cell? ⟨b, off + k, none⟩ = some (.int .u32 (xs.getD k 0)))
    (hB : ∀ k, 0 ≤ xs.getD k 0 ∧ xs.getD k 0 ≤ 4294967295) :
    Calls Try.prog 5 #[.slice A n cap, .int .u8 m] w fun e w' => e = .returned (.bool true) ∧ Below w.heap.size w w' := by
  have HR := Lib.hid hR
  have HBD := Lib.hid hB
  have HLEN := Lib.hid hlen
  clear hR hB hlen
  by_cases h : 200 < n
  · have g : (200 : Int) < n := by omega
    go_enter Try.func5, Try.ntmps5
    go_wp2_with fail
    refine (awake_any w).mono ?_
    rintro e w1 ⟨rfl, hb1⟩
    go_wp2
    go_ret
    exact ⟨rfl, hb1⟩
  have g : (n : Int) ≤ 200 := by omega
  have hb0 := Below.refl w.heap.size w
  go_enter Try.func5, Try.ntmps5
  go_wp2_with fail
  go_loopw [5, 6, 7, 8] (fun s t c i wr => ∃ (k : Nat) (S T : ByteArray) (C : Nat), k ≤ n ∧ S.size ≤ 4 * k ∧ T.size ≤ 4 * k ∧ C ≤ k ∧ s = .string S ∧ t = .string T ∧ c = .int .i64 C ∧ i = .int .i64 k ∧ Hid (S.data.toList = putsL ((modL xs).take k) ∧ T.data.toList = putsL (fewL m.toNat ((modL xs).take k)) ∧ C = min m.toNat (ptsN ((modL xs).take k))) ∧ Below w.heap.size w wr) (fun _ _ _ i _ => n - (intOf i).toNat)
  case atStart => exact ⟨0, ⟨#[]⟩, ⟨#[]⟩, 0, by omega, Nat.le_refl _, Nat.le_refl _, by omega, rfl, rfl, rfl, rfl, by show _ ∧ _; exact ⟨rfl, by simp [fewL, putsL], by simp [ptsN]⟩, hb0⟩
  case round =>
    clear hb0
    obtain ⟨k, S, T, C, hk, hS, hT, hC, rfl, rfl, rfl, rfl, hinv, hb⟩ := hrel
    by_cases hlt : k < n
    · obtain ⟨b, off, rfl, hbl, hcell⟩ := HR.out k hlt
      have hc : wr.cell? ⟨b, off + k, none⟩ = some (.int .u32 (xs.getD k 0)) := (hb.cell (p := ⟨b, off + k, none⟩) hbl).trans hcell
      have hbd := HBD.out k
      obtain ⟨hml, hmg⟩ := modL_get xs k (by have := HLEN.out; omega)
      have hsn := snoc_take (modL xs) k hml
      rw [hmg] at hsn
      clear hcell hmg
      generalize xs.getD k 0 = x at hc hbd hsn
      obtain ⟨x0, x1⟩ := hbd
      obtain ⟨y, hy⟩ : ∃ y : Int, x % 1114112 = y := ⟨_, rfl⟩
      rw [hy] at hsn
      have HY := Lib.hid hy
      have HSN := Lib.hid hsn
      clear hy hsn
      have gS : S.size ≤ 800 := by omega
      have gT : T.size ≤ 800 := by omega
      by_cases hz : sizeN y = 0
      · have hp := Lib.hid (putB_none hz)
        obtain ⟨f1, f2⟩ := few_no (m := m.toNat) (l := (modL xs).take k) hz
        have hnx : Hid ((S ++ ⟨#[]⟩).data.toList = putsL ((modL xs).take (k + 1)) ∧ T.data.toList = putsL (fewL m.toNat ((modL xs).take (k + 1))) ∧ C = min m.toNat (ptsN ((modL xs).take (k + 1)))) := by
          show _ ∧ _
          obtain ⟨i1, i2, i3⟩ := hinv.out
          rw [HSN.out, f1, f2, app_data, putsL_append, putsL_cons, putL_none hz, putsL_nil]
          exact ⟨by simpa using i1, i2, i3⟩
        clear f1 f2 hz
        go_wp2_with fail
        rw [HY.out]
        refine (put_any y wr).mono ?_
        rintro e w1 ⟨rfl, hb1⟩
        rw [hp.out]
        replace hb1 := hb.trans (hb1.mono hb.size)
        go_wp2
        go_roundw
        case rel => exact ⟨k + 1, S ++ ⟨#[]⟩, T, C, by omega, by rw [ByteArray.size_append]; show S.size + 0 ≤ _; omega, by omega, by omega, rfl, rfl, rfl, by go_num, hnx, hb1⟩
        case measure => simp [intOf]; omega
      · have hp1 := putB_size y
        have hp2 := sizeN_le y
        have hpe := Lib.hid (toList_isEmpty (s := putB y) (by omega))
        have hpd := Lib.hid (putB_data y)
        have hps := Lib.hid (show (putB y).size ≤ 4 by omega)
        obtain ⟨f1, f2⟩ := few_yes (m := m.toNat) (l := (modL xs).take k) hz
        have F1 := Lib.hid f1
        have F2 := Lib.hid f2
        clear f1 f2 hz hp1 hp2
        by_cases hcm : (C : Int) < m
        · have hnx : Hid ((S ++ putB y).data.toList = putsL ((modL xs).take (k + 1)) ∧ (T ++ putB y).data.toList = putsL (fewL m.toNat ((modL xs).take (k + 1))) ∧ C + 1 = min m.toNat (ptsN ((modL xs).take (k + 1)))) := by
            show _ ∧ _
            obtain ⟨i1, i2, i3⟩ := hinv.out
            rw [HSN.out, F1.out, F2.out, if_pos (by omega), app_data, app_data, i1, i2, putsL_append, putsL_append, putsL_cons, putsL_nil, List.append_nil, putB_data]
            exact ⟨rfl, rfl, by omega⟩
          go_wp2_with fail
          rw [HY.out]
          refine (put_any y wr).mono ?_
          rintro e w1 ⟨rfl, hb1⟩
          generalize putB y = q at hpe hpd hps hnx ⊢
          replace hb1 := hb.trans (hb1.mono hb.size)
          have qe := hpe.out
          have qs := hps.out
          go_wp2
          go_roundw
          case rel => exact ⟨k + 1, S ++ q, T ++ q, C + 1, by omega, by rw [ByteArray.size_append]; omega, by rw [ByteArray.size_append]; omega, by omega, rfl, rfl, by go_num, by go_num, hnx, hb1⟩
          case measure => simp [intOf]; omega
        · have hnx : Hid ((S ++ putB y).data.toList = putsL ((modL xs).take (k + 1)) ∧ T.data.toList = putsL (fewL m.toNat ((modL xs).take (k + 1))) ∧ C = min m.toNat (ptsN ((modL xs).take (k + 1)))) := by
            show _ ∧ _
            obtain ⟨i1, i2, i3⟩ := hinv.out
            rw [HSN.out, F1.out, F2.out, if_neg (by omega), app_data, i1, putsL_append, putsL_cons, putsL_nil, List.append_nil, putB_data]
            exact ⟨rfl, i2, by omega⟩
          go_wp2_with fail
          rw [HY.out]
          refine (put_any y wr).mono ?_
          rintro e w1 ⟨rfl, hb1⟩
          generalize putB y = q at hpe hpd hps hnx ⊢
          replace hb1 := hb.trans (hb1.mono hb.size)
          have qe := hpe.out
          have qs := hps.out
          go_wp2
          go_roundw
          case rel => exact ⟨k + 1, S ++ q, T, C, by omega, by rw [ByteArray.size_append]; omega, by omega, by omega, rfl, rfl, rfl, by go_num, hnx, hb1⟩
          case measure => simp [intOf]; omega
    · have he : k = n := by omega
      subst he
      have hfull : Hid ((modL xs).take k = modL xs) := by
        show _ = _
        exact List.take_of_length_le (by rw [modL, List.length_map, HLEN.out]; exact Nat.le_refl _)
      have v1 : Hid (validL S.data.toList = true) := by show _ = _; rw [hinv.out.1]; exact validL_puts _
      have c1 : Hid (cutB S m.toNat = T) := cutB_few hinv.out.1 m.toNat hinv.out.2.1
      have c2 : Hid (cutB S k = S) := cutB_few hinv.out.1 k (by rw [few_all (by rw [List.length_take]; omega)]; exact hinv.out.1)
      have c3 : Hid (cutB S 0 = ⟨#[]⟩) := by show _ = _; rfl
      have gS : S.size ≤ 800 := by omega
      have gS2 : S.size ≤ 140737488355328 := by omega
      go_wp2_with fail
      refine (valid_any S gS2 wr).mono ?_
      rintro e w1 ⟨rfl, rfl⟩
      rw [v1.out]
      go_wp2_with fail
      refine (cut_any S m (by omega) gS2 wr).mono ?_
      rintro e w1 ⟨rfl, hb1⟩
      rw [c1.out]
      replace hb1 := hb.trans (hb1.mono hb.size)
      go_wp2_with fail
      refine (cut_any S k (by omega) gS2 w1).mono ?_
      rintro e w2 ⟨rfl, hb2⟩
      rw [show ((k : Nat) : Int).toNat = k from rfl, c2.out]
      replace hb2 := hb1.trans (hb2.mono hb1.size)
      go_wp2_with fail
      refine (cut_any S (-1) (by omega) gS2 w2).mono ?_
      rintro e w3 ⟨rfl, hb3⟩
      rw [show (-1 : Int).toNat = 0 from rfl, c3.out]
      replace hb3 := hb2.trans (hb3.mono hb2.size)
      go_wp2_with fail
      refine (awake_tail w w3 hb3).mono ?_
      rintro e w4 ⟨rfl, hb4⟩
      go_wp2
      go_ret
      exact ⟨rfl, hb4⟩
end Go.Proofs.Ytkdpcfogfjknoaa.U8
