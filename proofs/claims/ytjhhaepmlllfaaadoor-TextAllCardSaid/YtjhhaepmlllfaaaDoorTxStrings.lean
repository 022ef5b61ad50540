/-
  The law TextStrings returns true: a text that IMAP is told, without its signs, is the text again: quoted, or with its length ahead. Condition: the library's table reads as the program's text lays it.
-/
import Derived.Test.YtjhhaepmlllfaaaDoorTxLong
namespace Go.Proofs.YtjhhaepmlllfaaaDoor.Tx
open Go Go.RowKit Go.Joins

theorem strB_data (s : ByteArray) : (strB s).data.toList = strL s.data.toList := rfl
theorem strB_lit (s : ByteArray) (h : plainL s.data.toList = false) : strB s = (({ data := #[123] } : ByteArray) ++ digs s.size ++ { data := #[125, 13, 10] } ++ s) := by
  refine bytes_ext ?_
  rw [strB_data]
  unfold strL
  rw [h]
  exact (lit_bytes s).symm

theorem run_nil (W : World) : (convert 33 9 (.slice none 0 0)).run Tryd.prog W = .ok (.string ⟨#[]⟩) W := by kernel_rfl
theorem escL_cons (c : UInt8) (r : List UInt8) : escL (c :: r) = escB c ++ escL r := rfl
/-- A slice of the call's own, as a text. -/
theorem run_row (l : List UInt8) (n : Nat) (v : Value) (W : World) (base : Nat) (h : W.ownsRow base 5 1 v n (Lib.byteCells l)) :
    (convert 33 9 v).run Tryd.prog W = .ok (.string ⟨l.toArray⟩) W := by
  have hn : l.length = n := by have := h.1; rw [Lib.byteCells_length] at this; omega
  rcases h.2 with ⟨rfl, h0⟩ | ⟨g, cap, cur, rfl, _⟩
  · have : l = [] := by rw [← List.length_eq_zero_iff]; omega
    subst this
    exact run_nil W
  · have := run_convert_bytes_back (P := Tryd.prog) W 33 9 5 ⟨g, 0, none⟩ cap l Tryd.underlying33 Tryd.underlying5 Tryd.underlying9 (fun j hj => by
      have e : (⟨g, 0, none⟩ : Addr).add j = ⟨g, j, none⟩ := by
        simp [Addr.add]
        omega
      rw [e, h.cellAt j (by omega)]
      simp [Lib.byteCells, hj])
    rw [hn] at this
    exact this

/-- What stands at the places of a quoted text. -/
theorem quoted_at (l : List UInt8) (k : Nat) (h : k < l.length) (t : List UInt8) (ht : t = 34 :: escL l ++ [34]) :
    t.drop (1 + (escL (l.take k)).length) = escB l[k] ++ (escL (l.drop (k + 1)) ++ [34]) := by
  have e : l = l.take k ++ (l[k] :: l.drop (k + 1)) := by rw [← List.drop_eq_getElem_cons h, List.take_append_drop]
  have e2 : escL l = escL (l.take k) ++ (escB l[k] ++ escL (l.drop (k + 1))) := by
    conv => lhs; rw [e]
    rw [escL_append, escL_cons]
  rw [ht, e2, Nat.add_comm, List.cons_append, List.drop_succ_cons, List.append_assoc, List.drop_left, List.append_assoc]
theorem get_of_drop {t : ByteArray} {i : Nat} {c : UInt8} {r : List UInt8} (h : t.data.toList.drop i = c :: r) : ∃ h : i < t.size, t[i] = c := by
  have hl : i < t.data.toList.length := by
    rcases Nat.lt_or_ge i t.data.toList.length with h' | h'
    · exact h'
    · rw [List.drop_of_length_le h'] at h; cases h
  refine ⟨by rw [Lib.size_eq]; exact hl, ?_⟩
  rw [← byte_get _ i (by rw [Lib.size_eq]; exact hl)]
  rw [List.drop_eq_getElem_cons hl] at h
  exact (List.cons.inj h).1

set_option maxHeartbeats 1000000 in
set_option maxRecDepth 100000 in
theorem textStrings_lit (s : ByteArray) (w : World) (hE : Env w) (hs : s.size ≤ 3000) (hp : plainL s.data.toList = false) :
    Calls Tryd.prog 5 #[.string s] w fun e w' => e = .returned (.bool true) ∧ Below w.heap.size w w' := by
  have g : (s.size : Int) ≤ 3000 := by omega
  obtain ⟨h0, h1⟩ := strB_head s
  rw [hp] at h1
  have h1' : (((strB s)[0].toNat : Int) == 123) = true := by rw [h1]; rfl
  have hlit := Lib.hid (strB_lit s hp)
  have hsz : (2 : Int) ≤ (strB s).size := by
    rw [hlit.out, ByteArray.size_append, ByteArray.size_append]
    have : (ByteArray.mk #[125, 13, 10]).size = 3 := rfl
    omega
  have hds := digs_short (n := (s.size : Int)) (by omega)
  clear hp h1
  go_enter Tryd.func5, Tryd.ntmps5
  go_wp2_with fail
  refine (strB_call s w (by omega) hE).mono ?_
  rintro e w1 ⟨rfl, hb1⟩
  generalize strB s = t at h0 h1' hlit hsz ⊢
  go_wp2_with fail
  refine (digs_call _ (by omega) (by omega) _ (hE.next hb1)).mono ?_
  rintro e w2 ⟨rfl, hb2⟩
  replace hb2 := hb1.trans (hb2.mono hb1.size)
  have heq := hlit.out.symm
  go_wp2_with fail
  refine (awake_tail w w2 hE hb2).mono ?_
  rintro e w3 ⟨rfl, hb3⟩
  go_wp2
  go_ret
  exact ⟨rfl, hb3⟩

theorem cell_new (w : World) (v : Value) (T : TypeId) : ∀ (j : Nat) (u : Value), [v][j]? = some u → (w.alloc (Obj.cells #[v] T)).cell? ((⟨w.heap.size, 0, none⟩ : Addr).add j) = some u := by
  intro j u hj
  cases j with
  | zero =>
    simp only [List.getElem?_cons_zero, Option.some.injEq] at hj
    subst hj
    rw [show (⟨w.heap.size, 0, none⟩ : Addr).add 0 = ⟨w.heap.size, 0, none⟩ from rfl, Lib.cell_of_heap (fresh_block w _ _)]
    rfl
  | succ j => simp at hj
theorem quoted_size (l : List UInt8) (k : Nat) (h : k < l.length) : (escL (l.take k)).length + 1 ≤ (escL l).length := by
  have := congrArg List.length (quoted_at l k h _ rfl)
  have h1 := (escB_length l[k]).1
  simp only [List.length_drop, List.length_append, List.length_cons, List.length_nil] at this
  omega

set_option maxHeartbeats 2000000 in
set_option maxRecDepth 100000 in
theorem textStrings_quoted (s : ByteArray) (w : World) (hE : Env w) (hs : s.size ≤ 3000) (hp : plainL s.data.toList = true) :
    Calls Tryd.prog 5 #[.string s] w fun e w' => e = .returned (.bool true) ∧ Below w.heap.size w w' := by
  have g : (s.size : Int) ≤ 3000 := by omega
  have hs200 : (s.size : Int) ≤ 200 := by
    have := hp
    unfold plainL at this
    simp only [Bool.and_eq_true, decide_eq_true_eq, ← Lib.size_eq] at this
    omega
  obtain ⟨i0, hi, hz0, hz1, hz2⟩ := info_parts info5
  have hd : Hid ((strB s).data.toList = 34 :: escL s.data.toList ++ [34]) := by
    show _ = _
    rw [strB_data]; unfold strL; rw [hp]; rfl
  have hlen : (strB s).size = (escL s.data.toList).length + 2 := by
    rw [Lib.size_eq, hd.out]; simp
  obtain ⟨h0, h1⟩ := strB_quote s true hp
  have hel := escL_length s.data.toList
  have hsd := Lib.size_eq s
  have hlast : ∃ h : (strB s).size - 1 < (strB s).size, (strB s)[(strB s).size - 1] = 34 := by
    refine get_of_drop (r := []) ?_
    rw [hd.out, hlen, show (escL s.data.toList).length + 2 - 1 = (34 :: escL s.data.toList).length by simp, List.drop_left]
  obtain ⟨hl0, hl1⟩ := hlast
  have hl2 : (((strB s)[(strB s).size - 1].toNat : Int) == 34) = true := by rw [hl1]; rfl
  have h123 : (((strB s)[0].toNat : Int) == 123) = false := by
    have := h1
    rw [beq_iff_eq] at this
    rw [this]; rfl
  have hsz : (2 : Int) ≤ (strB s).size := by omega
  have hsz2 : ((strB s).size : Int) ≤ 10000 := by omega
  have HL := Lib.hid hlen
  have HSD := Lib.hid hsd
  clear hl1 hp hlen hsd hel
  go_enter Tryd.func5, Tryd.ntmps5
  go_wp2_with fail
  refine (strB_call s w (by omega) hE).mono ?_
  rintro e w1 ⟨rfl, hb1⟩
  generalize strB s = t at h0 h1 hd HL hsz hsz2 hl0 hl2 h123 ⊢
  go_wp2_with fail
  go_loopw [5, 6] (fun v i wr => ∃ k q : Nat, k ≤ s.size ∧ Hid (q = 1 + (escL (s.data.toList.take k)).length) ∧ i = .int .i64 q ∧ q ≤ 10000 ∧ wr.ownsRow w.heap.size 5 1 v k (Lib.byteCells (s.data.toList.take k)) ∧ Below w.heap.size w wr) (fun _ i _ => t.size - (intOf i).toNat)
  case atStart => exact ⟨0, 1, by omega, rfl, rfl, by omega, World.ownsRow_nil _ _ _ _, hb1⟩
  case round =>
    clear hb1
    obtain ⟨k, q, hk, hq, rfl, hq4, hown, hb⟩ := hrel
    have hbz := hb.size
    by_cases hlt : k < s.size
    · have hl : k < s.data.toList.length := by rw [← HSD.out]; exact hlt
      have hqd := quoted_at s.data.toList k hl _ hd.out
      rw [← hq.out, byte_get s k hlt] at hqd
      have hqs := quoted_size s.data.toList k hl
      have hql : (q : Int) < t.size - 1 := by rw [HL.out]; have := hq.out; omega
      have hq3 : q + 1 < t.size := by omega
      have hcells : Hid (Lib.byteCells (s.data.toList.take (k + 1)) = Lib.byteCells (s.data.toList.take k) ++ [.int .u8 (s[k].toNat : Int)]) := by
        show _ = _
        rw [List.take_succ_eq_append_getElem hl, cells_snoc, byte_get s k hlt]
      have hesc := escL_take_succ s.data.toList k hl
      rw [byte_get s k hlt] at hesc
      have HESC := Lib.hid hesc
      clear hesc hqs
      cases hsg : signB s[k]
      · have he : escB s[k] = [s[k]] := by unfold escB; rw [hsg]; rfl
        rw [he] at hqd
        obtain ⟨hq0, hq1⟩ := get_of_drop hqd
        have hn : ¬ (s[k].toNat = 34 ∨ s[k].toNat = 92) := fun h => by rw [(signB_iff _).2 h] at hsg; cases hsg
        have g1 : ((t[q].toNat : Int) == 92) = false := by rw [hq1, beq_eq_false_iff_ne]; omega
        have g2 : ((t[q].toNat : Int) == 34) = false := by rw [hq1, beq_eq_false_iff_ne]; omega
        have HQ := Lib.hid hq1
        have HE := Lib.hid he
        clear hqd he hq1 hn hsg
        go_wp2_with (at_builtin; refine wpList_append_own _ rfl _ _ 33 rfl w.heap.size 5 i0 (.int .u8 0) 1 1 Tryd.underlying33 hi hz0 hz1 hz2 rfl (by decide) _ _ _ rfl (hown.alloc _) ⟨wr.heap.size, 0, none⟩ 1 1 [.int .u8 (t[q].toNat : Int)] rfl rfl ?c1 ?c2 ?c3 ?c4 ?c5 ?_)
        case c1 => exact cell_new wr _ _
        case c2 => intro u hu; simp at hu; subst hu; rfl
        case c3 => unfold maxLen; omega
        case c4 => omega
        case c5 => simp; omega
        intro v' w2 hown' hgrow _
        have hb2 := (hb.alloc hbz (Obj.cells #[Value.int IntKind.u8 (t[q].toNat : Int)] 5)).grown hgrow (by simp; omega) (fun j hj => (hown.lt j hj).1)
        rw [HQ.out, ← hcells.out] at hown'
        clear hgrow hown
        go_wp2
        go_roundw
        case rel =>
          refine ⟨k + 1, q + 1, by omega, ?_, by go_num, by omega, hown', hb2⟩
          show _ = _
          rw [HESC.out, List.length_append, HE.out, hq.out]
          simp
          omega
        case measure => simp [intOf]; omega
      · have he : escB s[k] = [92, s[k]] := by unfold escB; rw [hsg]; rfl
        rw [he] at hqd
        obtain ⟨hq0, hq1⟩ := get_of_drop hqd
        have hqd2 : t.data.toList.drop (q + 1) = s[k] :: (escL (s.data.toList.drop (k + 1)) ++ [34]) := by
          rw [← List.drop_drop, hqd]; rfl
        obtain ⟨hq0', hq1'⟩ := get_of_drop hqd2
        have g1 : ((t[q].toNat : Int) == 92) = true := by rw [hq1]; rfl
        have HQ := Lib.hid hq1'
        have HE := Lib.hid he
        clear hqd hqd2 he hq1 hq1' hsg
        go_wp2_with (at_builtin; refine wpList_append_own _ rfl _ _ 33 rfl w.heap.size 5 i0 (.int .u8 0) 1 1 Tryd.underlying33 hi hz0 hz1 hz2 rfl (by decide) _ _ _ rfl (hown.alloc _) ⟨wr.heap.size, 0, none⟩ 1 1 [.int .u8 (t[q + 1].toNat : Int)] rfl rfl ?d1 ?d2 ?d3 ?d4 ?d5 ?_)
        case d1 => exact cell_new wr _ _
        case d2 => intro u hu; simp at hu; subst hu; rfl
        case d3 => unfold maxLen; omega
        case d4 => omega
        case d5 => simp; omega
        intro v' w2 hown' hgrow _
        have hb2 := (hb.alloc hbz (Obj.cells #[Value.int IntKind.u8 (t[q + 1].toNat : Int)] 5)).grown hgrow (by simp; omega) (fun j hj => (hown.lt j hj).1)
        rw [HQ.out, ← hcells.out] at hown'
        clear hgrow hown
        go_wp2
        go_roundw
        case rel =>
          refine ⟨k + 1, q + 1 + 1, by omega, ?_, by go_num, by omega, hown', hb2⟩
          show _ = _
          rw [HESC.out, List.length_append, HE.out, hq.out]
          simp
          omega
        case measure => simp [intOf]; omega
    · have he : k = s.size := by omega
      subst he
      have hend : q + 1 = t.size := by
        have h1 := hq.out
        rw [List.take_of_length_le (by rw [← HSD.out]; exact Nat.le_refl _)] at h1
        rw [HL.out]; omega
      rw [List.take_of_length_le (by rw [← HSD.out]; exact Nat.le_refl _)] at hown
      have hrun := run_row s.data.toList _ _ wr _ hown
      rw [Lib.mk_data] at hrun
      have hend' : ¬ ((q : Int) < t.size - 1) := by omega
      clear hend hown hq hlt
      go_wp2_with fail
      refine (awake_tail w wr hE hb).mono ?_
      rintro e w3 ⟨rfl, hb3⟩
      go_wp2
      go_ret
      first | exact ⟨rfl, hb3⟩ | exact ⟨ret_bool (by simp; omega), hb3⟩

theorem textStrings_walk (s : ByteArray) (w : World) (hE : Env w) :
    Calls Tryd.prog 5 #[.string s] w fun e w' => e = .returned (.bool true) ∧ Below w.heap.size w w' := by
  by_cases hs : 3000 < s.size
  · have g : (3000 : Int) < s.size := by omega
    go_enter Tryd.func5, Tryd.ntmps5
    go_wp2_with fail
    refine (awake_any w hE).mono ?_
    rintro e w1 ⟨rfl, hb1⟩
    go_wp2
    go_ret
    exact ⟨rfl, hb1⟩
  · cases hp : plainL s.data.toList
    · exact textStrings_lit s w hE (by omega) hp
    · exact textStrings_quoted s w hE (by omega) hp
end Go.Proofs.YtjhhaepmlllfaaaDoor.Tx
