/-
  text.String returns its text as IMAP tells it: in quotes, or with its length ahead. Condition: the text has at most 2^40 bytes; the library's table reads as the program's text lays it.
-/
import Derived.Test.YtjhhaepmlllfaaaDoorTxEnv
import Derived.Test.YtjhhaepmlllfaaaDoorTxNum
import Derived.Lib.SmallJoins
namespace Go.Proofs.YtjhhaepmlllfaaaDoor.Tx
open Go Go.RowKit Go.Joins

theorem plainB_iff (c : UInt8) : plainB c = true ↔ 32 ≤ c.toNat ∧ c.toNat ≤ 126 := by simp [plainB]
theorem signB_iff (c : UInt8) : signB c = true ↔ c.toNat = 34 ∨ c.toNat = 92 := by simp [signB]
theorem all_take_succ (p : UInt8 → Bool) (l : List UInt8) (k : Nat) (h : k < l.length) : (l.take (k + 1)).all p = ((l.take k).all p && p l[k]) := by
  rw [List.take_succ_eq_append_getElem h, List.all_append]
  simp

set_option maxHeartbeats 400000 in
theorem quotable_any (s : ByteArray) (w : World) (hs : s.size ≤ 140737488355328) :
    Calls Tryd.prog 29 #[.string s] w fun e w' => e = .returned (.bool (plainL s.data.toList)) ∧ w = w' := by
  have hlen : Hid (s.data.toList.length = s.size) := (Lib.size_eq s).symm
  by_cases h0 : 200 < s.size
  · have g : (200 : Int) < s.size := by omega
    go_enter Tryd.func29, Tryd.ntmps29
    go_wp2
    go_ret
    exact ⟨ret_bool (by unfold plainL; rw [hlen.out]; simp; omega), rfl⟩
  · have g : (s.size : Int) ≤ 200 := by omega
    go_enter Tryd.func29, Tryd.ntmps29
    go_wp2_with fail
    go_loop [9] (fun i => ∃ k : Nat, k ≤ s.size ∧ Hid ((s.data.toList.take k).all plainB = true) ∧ i = .int .i64 k) (fun i => s.size - (intOf i).toNat)
    case atStart => exact ⟨0, by omega, rfl, rfl⟩
    case round =>
      obtain ⟨k, hk, hall, rfl⟩ := hrel
      by_cases hlt : k < s.size
      · have hl : k < s.data.toList.length := by rw [← Lib.size_eq]; exact hlt
        have hst := all_take_succ plainB s.data.toList k hl
        rw [byte_get s k hlt] at hst
        have HST := Lib.hid hst
        clear hst
        by_cases hb : 32 ≤ s[k].toNat ∧ s[k].toNat ≤ 126
        · have hyes : Hid (plainB s[k] = true) := (plainB_iff _).2 hb
          obtain ⟨b1, b2⟩ := hb
          have g2 : (32 : Int) ≤ s[k].toNat := by omega
          have g3 : (s[k].toNat : Int) ≤ 126 := by omega
          go_wp2
          go_round
          case rel =>
            refine ⟨k + 1, by omega, ?_, by go_num⟩
            show _ = _
            rw [HST.out, hall.out, hyes.out]; rfl
          case measure => simp [intOf]; omega
        · have hno : Hid (plainL s.data.toList = false) := by
            show _ = _
            unfold plainL
            rw [Bool.and_eq_false_iff]
            right
            rw [List.all_eq_false]
            exact ⟨s[k], by rw [← byte_get s k hlt]; exact List.getElem_mem hl, fun h => hb ((plainB_iff _).1 h)⟩
          rcases (show (s[k].toNat : Int) < 32 ∨ ((32 : Int) ≤ s[k].toNat ∧ (126 : Int) < s[k].toNat) by omega) with g2 | ⟨g2, g3⟩
          all_goals
            clear hb
            go_wp2
            go_ret
            exact ⟨ret_bool hno.out.symm, rfl⟩
      · have he : k = s.size := by omega
        subst he
        go_wp2
        go_ret
        refine ⟨ret_bool (a := true) ?_, rfl⟩
        have hfull : s.data.toList.all plainB = true := by
          have := hall.out
          rwa [List.take_of_length_le (by rw [← Lib.size_eq]; exact Nat.le_refl _)] at this
        unfold plainL
        rw [hfull, hlen.out]
        simp
        omega

theorem bytes_ext {a b : ByteArray} (h : a.data.toList = b.data.toList) : a = b := by
  obtain ⟨⟨x⟩⟩ := a
  obtain ⟨⟨y⟩⟩ := b
  simp only at h
  rw [h]
theorem ret_bytes {a : ByteArray} {l : List UInt8} (h : a.data.toList = l) : Ending.returned (.string a) = Ending.returned (.string ⟨l.toArray⟩) := by
  rw [show a = ⟨l.toArray⟩ from bytes_ext (by rw [h])]
theorem digits_short {u : Nat} (h : u ≤ 1099511627776) : (Lib.decDigits u).length ≤ 13 := by
  rw [Lib.decDigits_length]
  exact nDigits_le (k := 12) (by omega)
theorem lit_bytes (s : ByteArray) : ((({ data := #[123] } : ByteArray) ++ { data := (Lib.decDigits s.size).toArray } ++ { data := #[125, 13, 10] } ++ s)).data.toList = litL s.data.toList := by
  simp only [data_append]
  unfold litL
  rw [← Lib.size_eq]
  simp

set_option maxHeartbeats 400000 in
theorem string_lit (s : ByteArray) (w : World) (hs : s.size ≤ 1099511627776) (hE : Env w) (hp : plainL s.data.toList = false) :
    Calls Tryd.prog 20 #[.string s] w fun e w' => e = .returned (.string ⟨(strL s.data.toList).toArray⟩) ∧ Below w.heap.size w w' := by
  have hres : Hid (litL s.data.toList = strL s.data.toList) := by show _ = _; unfold strL; rw [hp]; rfl
  have HP := Lib.hid hp
  have hd := digits_short hs
  clear hp
  go_enter Tryd.func20, Tryd.ntmps20
  go_wp2_with fail
  refine (quotable_any s w (by omega)).mono ?_
  rintro e w' ⟨rfl, rfl⟩
  rw [HP.out]
  go_wp2_with fail
  refine (digits_any s.size (by omega) (by omega) w hE).mono ?_
  rintro e w1 ⟨rfl, hb⟩
  go_wp2_with fail
  go_ret
  exact ⟨ret_bytes ((lit_bytes s).trans hres.out), hb⟩

theorem cells_one (l : List UInt8) : Lib.byteCells (l ++ [34]) = Lib.byteCells l ++ [.int .u8 34] := cells_snoc l 34
theorem cells_back (l : List UInt8) : Lib.byteCells (l ++ [92]) = Lib.byteCells l ++ [.int .u8 92] := cells_snoc l 92

theorem cells_two (l : List UInt8) (c : UInt8) : Lib.byteCells (l ++ [92, c]) = Lib.byteCells l ++ [.int .u8 92] ++ [.int .u8 (c.toNat : Int)] := by
  rw [show l ++ [92, c] = (l ++ [92]) ++ [c] by simp, cells_snoc, cells_back]

set_option maxHeartbeats 1000000 in
set_option maxRecDepth 100000 in
theorem string_quoted (s : ByteArray) (w : World) (hs : s.size ≤ 1099511627776) (hp : plainL s.data.toList = true) :
    Calls Tryd.prog 20 #[.string s] w fun e w' => e = .returned (.string ⟨(strL s.data.toList).toArray⟩) ∧ Below w.heap.size w w' := by
  have hres : Hid (34 :: escL s.data.toList ++ [34] = strL s.data.toList) := by show _ = _; unfold strL; rw [hp]; rfl
  have HP := Lib.hid hp
  clear hp
  have hb0 : Below w.heap.size w (w.alloc (Obj.cells #[Value.pointer none, Value.slice none 0 0] 42)) := (Below.refl _ w).alloc (Nat.le_refl _) _
  have hfresh := Lib.fresh_isBuilder 42 5 w
  go_enter Tryd.func20, Tryd.ntmps20
  go_wp2_with fail
  refine (quotable_any s w (by omega)).mono ?_
  rintro e w' ⟨rfl, rfl⟩
  rw [HP.out]
  go_wp2_with fail
  refine (Tryd.Builder_WriteByte w.heap.size w.heap.size _ 34 _ hfresh (by simp) (by simp)).mono ?_
  rintro e w1 ⟨rfl, h1, hb1⟩
  have hb : Below w.heap.size w w1 := hb0.trans hb1
  have hI0 : Lib.IsBuilder 42 5 w.heap.size w.heap.size (Lib.byteCells (34 :: escL (s.data.toList.take 0))) w1 := Or.inr h1
  clear hfresh hb0 h1 hb1
  go_wp2_with fail
  go_loopw [19] (fun i wr => ∃ k : Nat, k ≤ s.size ∧ i = .int .i64 k ∧ Lib.IsBuilder 42 5 w.heap.size w.heap.size (Lib.byteCells (34 :: escL (s.data.toList.take k))) wr ∧ Below w.heap.size w wr) (fun i _ => s.size - (intOf i).toNat)
  case atStart => exact ⟨0, Nat.zero_le _, rfl, hI0, hb⟩
  case round =>
    clear hI0 hb
    obtain ⟨k, hk, rfl, hI, hb⟩ := hrel
    have hsz : w.heap.size ≤ wr.heap.size := hb.size
    have hel := (escL_length (s.data.toList.take k)).2
    have htl : (s.data.toList.take k).length ≤ s.size := by rw [List.length_take, ← Lib.size_eq]; omega
    have hlen : (Lib.byteCells (34 :: escL (s.data.toList.take k))).length ≤ 3 * 1099511627776 := by
      rw [Lib.byteCells_length, List.length_cons]
      omega
    clear hel htl
    by_cases hlt : k < s.size
    · have hl : k < s.data.toList.length := by rw [← Lib.size_eq]; exact hlt
      have hfs := escL_take_succ s.data.toList k hl
      rw [byte_get s k hlt] at hfs
      have HFS := Lib.hid hfs
      clear hfs
      by_cases hq : s[k].toNat = 34 ∨ s[k].toNat = 92
      · have hesc : Hid (escB s[k] = [92, s[k]]) := if_pos ((signB_iff _).2 hq)
        rcases hq with hq | hq
        · have g1 : ((s[k].toNat : Int) == 34) = true := by rw [hq]; rfl
          clear hq
          go_wp2_with fail
          refine (Tryd.Builder_WriteByte w.heap.size w.heap.size _ 92 _ hI (by omega) hsz).mono ?_
          rintro e w2 ⟨rfl, h2, hb2⟩
          have hb3 := hb.trans hb2
          go_wp2_with fail
          refine (Tryd.Builder_WriteByte w.heap.size w.heap.size _ _ _ (Or.inr h2) (by simp; omega) hb3.size).mono ?_
          rintro e w3 ⟨rfl, h4, hb4⟩
          go_wp2
          go_roundw
          case rel =>
            refine ⟨k + 1, by omega, by go_num, ?_, hb3.trans hb4⟩
            rw [HFS.out, hesc.out, ← List.cons_append, cells_two]
            exact Or.inr h4
          case measure => simp [intOf]; omega
        · have g1 : ((s[k].toNat : Int) == 34) = false := by rw [hq]; rfl
          have g2 : ((s[k].toNat : Int) == 92) = true := by rw [hq]; rfl
          clear hq
          go_wp2_with fail
          refine (Tryd.Builder_WriteByte w.heap.size w.heap.size _ 92 _ hI (by omega) hsz).mono ?_
          rintro e w2 ⟨rfl, h2, hb2⟩
          have hb3 := hb.trans hb2
          go_wp2_with fail
          refine (Tryd.Builder_WriteByte w.heap.size w.heap.size _ _ _ (Or.inr h2) (by simp; omega) hb3.size).mono ?_
          rintro e w3 ⟨rfl, h4, hb4⟩
          go_wp2
          go_roundw
          case rel =>
            refine ⟨k + 1, by omega, by go_num, ?_, hb3.trans hb4⟩
            rw [HFS.out, hesc.out, ← List.cons_append, cells_two]
            exact Or.inr h4
          case measure => simp [intOf]; omega
      · have hesc : Hid (escB s[k] = [s[k]]) := if_neg (fun h => hq ((signB_iff _).1 h))
        have g1 : ((s[k].toNat : Int) == 34) = false := by rw [beq_eq_false_iff_ne]; omega
        have g2 : ((s[k].toNat : Int) == 92) = false := by rw [beq_eq_false_iff_ne]; omega
        clear hq
        go_wp2_with fail
        refine (Tryd.Builder_WriteByte w.heap.size w.heap.size _ _ _ hI (by omega) hsz).mono ?_
        rintro e w2 ⟨rfl, h2, hb2⟩
        go_wp2
        go_roundw
        case rel =>
          refine ⟨k + 1, by omega, by go_num, ?_, hb.trans hb2⟩
          rw [HFS.out, hesc.out, ← List.cons_append, cells_snoc]
          exact Or.inr h2
        case measure => simp [intOf]; omega
    · have he : k = s.size := by omega
      subst he
      rw [List.take_of_length_le (by rw [← Lib.size_eq]; exact Nat.le_refl _)] at hI
      go_wp2_with fail
      refine (Tryd.Builder_WriteByte w.heap.size w.heap.size _ 34 _ hI (by rw [List.take_of_length_le (by rw [← Lib.size_eq]; exact Nat.le_refl _)] at hlen; omega) hsz).mono ?_
      rintro e w2 ⟨rfl, h2, hb2⟩
      rw [← cells_one] at h2
      have hb3 := hb.trans hb2
      go_wp2_with fail
      refine (Tryd.Builder_String_any w.heap.size w.heap.size _ _ (Or.inr h2) hb3.size).mono ?_
      rintro e w3 ⟨rfl, hb4⟩
      go_wp2
      go_ret
      exact ⟨ret_str hres.out, hb3.trans hb4⟩

theorem string_any (s : ByteArray) (w : World) (hs : s.size ≤ 1099511627776) (hE : Env w) :
    Calls Tryd.prog 20 #[.string s] w fun e w' => e = .returned (.string ⟨(strL s.data.toList).toArray⟩) ∧ Below w.heap.size w w' := by
  cases hp : plainL s.data.toList
  · exact string_lit s w hs hE hp
  · exact string_quoted s w hs hp

set_option maxHeartbeats 400000 in
theorem in_any (s sub : ByteArray) (w : World) (hs : s.size ≤ 4000000000) (hsub : sub.size ≤ 4000000000) (hE : Env w) :
    Calls Tryd.prog 22 #[.string s, .string sub] w fun e w' => e = .returned (.bool (inL s.data.toList sub.data.toList)) ∧ Below w.heap.size w w' := by
  go_enter Tryd.func22, Tryd.ntmps22
  go_wp2_with fail
  refine (fold_any s w (by omega)).mono ?_
  rintro e w1 ⟨rfl, hb1⟩
  go_wp2_with fail
  refine (fold_any sub w1 (by omega)).mono ?_
  rintro e w2 ⟨rfl, hb2⟩
  have hb : Below w.heap.size w w2 := hb1.trans (hb2.mono hb1.size)
  obtain ⟨m, hm⟩ := hE.max w2 hb
  go_wp2_with fail
  refine (Tryd.strings_Contains _ _ m w2 (by rw [Lib.size_eq]; simp only [foldL_length, ← Lib.size_eq]; omega) hm).mono ?_
  rintro e w3 ⟨rfl, rfl⟩
  go_wp2
  go_ret
  exact ⟨ret_bool rfl, hb⟩
end Go.Proofs.YtjhhaepmlllfaaaDoor.Tx
