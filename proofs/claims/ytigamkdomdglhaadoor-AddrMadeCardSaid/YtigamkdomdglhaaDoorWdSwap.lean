/-
  strings.ReplaceAll of one byte by another; word.fromLatin returns the text whose code points are the bytes of its text. Conditions: the text has at most 2^30 bytes; the bound of the library's search is some number.
-/
import Derived.Test.YtigamkdomdglhaaDoorWdBits
import Derived.Test.YtigamkdomdglhaaDoorU8Put
import Derived.Test.YtigamkdomdglhaaDoorBldB
import Derived.Test.YtigamkdomdglhaaDoorEnv
import Derived.Lib.Replace
namespace Go.Proofs.YtigamkdomdglhaaDoor.Wd
open Go Go.RowKit Go.Joins Kit

theorem replaceK_one (x y : UInt8) : ∀ (s : List UInt8), Lib.replaceK [x] [y] (Lib.count s [x]) s = s.map (fun c => if c = x then y else c)
  | [] => by rw [Lib.count_one]; rfl
  | b :: t => by
    have ih := replaceK_one x y t
    by_cases hb : b = x
    · subst hb
      have h0 : Lib.index (b :: t) [b] = (0 : Nat) := by rw [Lib.index_one, Lib.indexByte]; simp
      rw [Lib.count_cons_eq, Nat.add_comm, Lib.replaceK_hit [b] [y] _ _ 0 h0]
      simp only [List.take_zero, List.nil_append, List.length_singleton, Nat.zero_add, List.drop_succ_cons, List.drop_zero, List.map_cons, if_true, List.cons_append]
      rw [ih]
    · rw [Lib.count_cons_ne b x t hb, List.map_cons, if_neg hb, ← ih]
      cases hk : Lib.count t [x] with
      | zero => rw [Lib.replaceK, Lib.replaceK]
      | succ k =>
        obtain ⟨i, hi⟩ := Lib.index_of_count (s := t) (old := [x]) (by omega)
        have h1 : Lib.index (b :: t) [x] = (i + 1 : Nat) := by
          rw [Lib.index_one] at hi ⊢
          rw [Lib.indexByte, hi, if_neg (by simpa using hb), if_neg (by simp <;> omega)]
          simp
        rw [Lib.replaceK_hit [x] [y] k _ (i + 1) h1, Lib.replaceK_hit [x] [y] k _ i hi]
        simp
theorem replace_one (x y : UInt8) (h : x ≠ y) (s : List UInt8) : Lib.replaceAll s [x] [y] = s.map (fun c => if c = x then y else c) := by
  unfold Lib.replaceAll Lib.replace
  rw [if_neg (by simpa using h), show Lib.replaceNum s [x] (-1) = Lib.count s [x] by unfold Lib.replaceNum; rw [if_pos (Or.inl (by decide))]]
  exact replaceK_one x y s
theorem swap_any (x y : UInt8) (hxy : x ≠ y) (s : ByteArray) (w : World) (hs : s.size ≤ 1099511627) (hE : Srch.Env w) :
    Calls Tryd.prog 51 #[.string s, .string ⟨#[x]⟩, .string ⟨#[y]⟩] w fun e w' => e = .returned (.string ⟨(s.data.toList.map (fun c => if c = x then y else c)).toArray⟩) ∧ Below w.heap.size w w' := by
  obtain ⟨m, hm⟩ := hE.max w (Below.refl _ _)
  have hc := Lib.countB_le ⟨#[x]⟩ (by show 1 ≤ 1; decide) s.size s (Nat.le_refl _)
  refine (Tryd.strings_ReplaceAll s ⟨#[x]⟩ ⟨#[y]⟩ m w (by omega) hm (by show 1 ≤ 1; decide) (by show s.size + Lib.countB s ⟨#[x]⟩ * 1 ≤ _; omega)).mono ?_
  rintro e w' ⟨rfl, hb⟩
  refine ⟨?_, hb⟩
  rw [show (ByteArray.mk #[x]).data.toList = [x] from rfl, show (ByteArray.mk #[y]).data.toList = [y] from rfl, replace_one x y hxy]
theorem under_any (s : ByteArray) (w : World) (hs : s.size ≤ 1099511627) (hE : Srch.Env w) :
    Calls Tryd.prog 51 #[.string s, .string ⟨#[95]⟩, .string ⟨#[32]⟩] w fun e w' => e = .returned (.string ⟨(blankU s.data.toList).toArray⟩) ∧ Below w.heap.size w w' :=
  swap_any 95 32 (by decide) s w hs hE

set_option maxHeartbeats 1000000 in
set_option maxRecDepth 100000 in
theorem latin_any (s : ByteArray) (w : World) (hs : s.size ≤ 1099511627) :
    Calls Tryd.prog 54 #[.string s] w fun e w' => e = .returned (.string ⟨(latinL s.data.toList).toArray⟩) ∧ Below w.heap.size w w' := by
  go_enter Tryd.func54, Tryd.ntmps54
  go_wp2_with fail
  refine (Tryd.Builder_Grow_fresh w.heap.size w.heap.size s.size _ (Nat.le_refl _) (fresh_block w _ _) (by simp) (by omega)).mono ?_
  rintro e w1 ⟨rfl, hI, hb1⟩
  have hb0 : Below w.heap.size w w1 := ((Below.refl _ w).alloc (Nat.le_refl _) _).trans hb1
  have hB0 : Lib.IsBuilderF 35 5 w.heap.size w.heap.size (Lib.byteCells (latinL (s.data.toList.take 0))) w1 := by
    rw [List.take_zero]; exact Lib.IsBuilderF.of (Or.inr hI)
  clear hI hb1
  go_wp2_with fail
  go_loopw [10] (fun i wr => ∃ k : Nat, k ≤ s.size ∧ i = .int .i64 k ∧ Lib.IsBuilderF 35 5 w.heap.size w.heap.size (Lib.byteCells (latinL (s.data.toList.take k))) wr ∧ Below w.heap.size w wr) (fun i _ => s.size - (intOf i).toNat)
  case atStart => exact ⟨0, by omega, rfl, hB0, hb0⟩
  case round =>
    clear hB0 hb0
    obtain ⟨k, hk, rfl, hB, hb⟩ := hrel
    by_cases hlt : k < s.size
    · have gk : (k : Int) < (s.size : Int) := by omega
      have hr := latin_room s k
      have g0 := (s[k]).toNat_lt
      have hst := Lib.hid (latin_take s k hlt)
      have hp := putB_le (s[k].toNat : Int)
      obtain ⟨L, hL⟩ : ∃ L, latinL (s.data.toList.take k) = L := ⟨_, rfl⟩
      rw [hL] at hr hB hst
      clear hL
      go_wp2_with fail
      refine (U8.put_any (s[k].toNat : Int) wr).mono ?_
      rintro e w2 ⟨rfl, hb2⟩
      have hB2 := Bld.below hB hb2
      have hbb := hb.trans (hb2.mono hb.size)
      clear hB hb2 hb
      obtain ⟨T, hT⟩ : ∃ T, U8.putB (s[k].toNat : Int) = T := ⟨_, rfl⟩
      have hTd : Hid (T.data.toList = U8.putL (s[k].toNat : Int)) := Lib.hid (by rw [← hT]; simp [U8.putB])
      rw [hT] at hp ⊢
      clear hT
      go_wp2_with fail
      refine (Tryd.Builder_WriteString_k w.heap.size w.heap.size _ T _ hB2 (by rw [Lib.byteCells_length]; omega) hbb.size).mono ?_
      rintro e w3 ⟨rfl, h3, hb3, _⟩
      rw [Bld.str_cells, hTd.out, ← hst.out] at h3
      replace hb3 := hbb.trans hb3
      go_wp2
      go_roundw
      case rel => exact ⟨k + 1, by omega, by go_num, Or.inr h3, hb3⟩
      case measure => simp [intOf]; omega
    · have gk : ¬ (k : Int) < (s.size : Int) := by omega
      rw [List.take_of_length_le (by rw [← Lib.size_eq]; omega)] at hB
      go_wp2_with fail
      refine (Tryd.Builder_String_any_k w.heap.size w.heap.size _ _ hB hb.size).mono ?_
      rintro e w4 ⟨rfl, _, hb4, _⟩
      go_wp2
      go_ret
      exact ⟨rfl, hb.trans hb4⟩
end Go.Proofs.YtigamkdomdglhaaDoor.Wd
