/-
  The law JsonLong returns true, of any byte. Conditions: none.
-/
import Derived.Test.YtpnffmimpkimeaaJ7Awake
import Derived.OwnWalk
import Derived.IntWalk
namespace Go.Proofs.Ytpnffmimpkimeaa.J7
open Go Go.RowKit Go.Joins Kit

def rowOf (k j : Nat) : List UInt8 := List.replicate j 32 ++ List.replicate (k - j) 0
theorem rowOf_length (k j : Nat) (h : j ≤ k) : (rowOf k j).length = k := by simp [rowOf]; omega
theorem set_mid {α : Type} (l : List α) (a b : α) (r : List α) : (l ++ b :: r).set l.length a = l ++ a :: r := by
  induction l with
  | nil => rfl
  | cons x l ih => simp [ih]
theorem rowOf_set (k j : Nat) (h : j < k) : (Lib.byteCells (rowOf k j)).set j (.int .u8 32) = Lib.byteCells (rowOf k (j + 1)) := by
  unfold rowOf Lib.byteCells
  obtain ⟨m, hm⟩ : ∃ m, k - j = m + 1 := ⟨k - j - 1, by omega⟩
  have hm' : k - (j + 1) = m := by omega
  rw [hm, hm', List.replicate_succ, List.map_append, List.map_cons]
  have := set_mid ((List.replicate j (32 : UInt8)).map fun c => Value.int .u8 (c.toNat : Int)) (.int .u8 32) (.int .u8 ((0 : UInt8).toNat : Int)) ((List.replicate m (0 : UInt8)).map fun c => Value.int .u8 (c.toNat : Int))
  rw [List.length_map, List.length_replicate] at this
  rw [this, List.replicate_succ', List.map_append, List.map_append, List.append_assoc]
  rfl
theorem rowOf_get (k j : Nat) (h : j < k) : (Lib.byteCells (rowOf k j))[j]? = some (.int .u8 0) := by
  unfold rowOf Lib.byteCells
  rw [List.getElem?_map, List.getElem?_append_right (by simp), List.length_replicate, Nat.sub_self, List.getElem?_replicate, if_pos (by omega)]
  rfl
/-- The first bytes of a row of the call's own. -/
theorem bytes_own {w : World} {B g n cap cap' m : Nat} {l : List UInt8} (h : w.ownsRow B 5 1 (.slice (some ⟨g, 0, none⟩) n cap) n (Lib.byteCells l)) (hm : m ≤ n) (k : List UInt8) (hk : l.take m = k) : BytesAt w (.slice (some ⟨g, 0, none⟩) m cap') k := by
  subst hk
  have hl : l.length = n := by have := h.1; rw [Lib.byteCells_length] at this; omega
  refine Or.inr ⟨_, cap', by rw [show (l.take m).length = m by rw [List.length_take]; omega], fun j hj => ?_⟩
  have hj2 : j < m := by rw [List.length_take] at hj; omega
  rw [show (⟨g, 0, none⟩ : Addr).add j = ⟨g, j, none⟩ by simp [Addr.add]; omega, h.cellAt j (by omega)]
  unfold Lib.byteCells
  rw [List.getElem?_map, List.getElem?_eq_getElem (by omega), Option.map_some, List.getElem_take]
theorem skip_blanks (m : Nat) : skipL (List.replicate m 32) = [] := by
  induction m with
  | zero => rfl
  | succ m ih => rw [List.replicate_succ, skipL, if_pos (by decide), ih]
theorem digs_blanks (m : Nat) : digsL (List.replicate m 32) = [] ∧ restL (List.replicate m 32) = List.replicate m 32 := by
  cases m with
  | zero => exact ⟨rfl, rfl⟩
  | succ m => rw [List.replicate_succ]; exact ⟨digs_none (by decide), rest_none (by decide)⟩
theorem long_parse (m : Nat) (hm : m ≤ 65535) : parseG numC (49 :: List.replicate m 32) = .ok (numJ 1) := by
  unfold parseG
  rw [if_neg (by simp; omega), valueG_eq]
  have e : valueH numC (lstG numC 24) (49 :: List.replicate m 32) = .ok (numJ 1, List.replicate m 32) := by
    unfold valueH
    rw [skipL, if_neg (by decide)]
    simp only
    rw [if_neg (by decide), if_neg (by decide), if_neg (by decide), if_neg (by decide), if_neg (by decide), if_neg (by decide)]
    unfold numC
    rw [eatL, if_neg (by decide)]
    simp only
    rw [digC, if_neg (by decide), digs_head (by decide), rest_head (by decide), (digs_blanks m).1, (digs_blanks m).2]
    rw [numV_cons, numV_nil]
    rfl
  rw [e]
  simp only
  rw [skip_blanks, if_pos rfl]

set_option maxHeartbeats 4000000 in
set_option maxRecDepth 100000 in
theorem jsonLong_walk (c : Int) (c0 : 0 ≤ c) (c1 : c ≤ 255) (w : World) :
    Calls Try.prog 10 #[.int .u8 c] w fun e w' => e = .returned (.bool true) ∧ Below w.heap.size w w' := by
  obtain ⟨i0, hi, hz0, hz1, hz2⟩ := info_parts Kit.info5
  go_enter Try.func10, Try.ntmps10
  go_wp2_with (at_make; refine wpList_make_full _ rfl _ _ 22 rfl w.heap.size 5 i0 (.int .u8 0) 1 Try.underlying22 hi hz0 hz1 .i64 .i64 _ _ 65537 rfl rfl ?c1 ?c2 ?c3 ?c4 ?c5 ?_)
  case c1 => rfl
  case c2 => rfl
  case c3 => rw [hz2]; omega
  case c4 => unfold maxLen; omega
  case c5 => exact Nat.le_refl _
  intro w0 hown0 hgr0
  have hb0 : Below w.heap.size w w0 := (Below.refl _ _).grown hgr0 (Nat.le_refl _) (fun _ h => by cases h)
  obtain ⟨K, hK⟩ : ∃ K, 65537 = K := ⟨_, rfl⟩
  have hKi : (K : Int) = 65537 := by omega
  have hrow0 : w0.ownsRow w.heap.size 5 1 (.slice (some ⟨w.heap.size, 0, none⟩) K K) K (Lib.byteCells (rowOf K 0)) := by
    rw [toList_madeCells_one] at hown0
    rw [← hK]
    have e : List.replicate 65537 (Value.int .u8 0) = Lib.byteCells (rowOf 65537 0) := by
      unfold rowOf Lib.byteCells
      rw [List.replicate_zero, List.nil_append, List.map_replicate]
      rfl
    rw [← e]
    exact hown0
  clear hgr0 hown0
  rw [hK]
  obtain ⟨G, hG⟩ : ∃ G, w.heap.size = G := ⟨_, rfl⟩
  rw [hG] at hrow0 hb0
  (try rw [hG])
  have HKi := Lib.hid hKi
  have hKb : (K : Int) ≤ 65537 := by omega
  clear hK hKi
  go_wp2_with fail
  go_loopw [4] (fun i wr => ∃ j : Nat, j ≤ K ∧ i = .int .i64 j ∧ wr.ownsRow G 5 1 (.slice (some ⟨G, 0, none⟩) K K) K (Lib.byteCells (rowOf K j)) ∧ Below G w wr) (fun i _ => K - (intOf i).toNat)
  case atStart => exact ⟨0, by omega, rfl, hrow0, hb0⟩
  case round =>
    clear hrow0 hb0
    obtain ⟨j, hj, rfl, hown, hb⟩ := hrel
    by_cases hlt : j < K
    · have hcell : wr.cell? ⟨G, j, none⟩ = some (.int .u8 0) := by
        rw [hown.cellAt j (by omega), rowOf_get K j hlt]
      have hfz := hown.frozenAt j
      have hst := (hown.stored j (.int .u8 32)).1
      rw [rowOf_set K j hlt] at hst
      have hb2 := hb.setCell (p := ⟨G, j, none⟩) (Nat.le_refl _) (.int .u8 32)
      have hgj : (j : Int) < K := by omega
      go_wp2_with fail
      go_roundw
      case rel => exact ⟨j + 1, by omega, by go_num, hst, hb2⟩
      case measure => simp [intOf]; omega
    · have ej : j = K := by omega
      subst ej
      have hKi := HKi.out
      have r1 : (Lib.byteCells (rowOf j j)).set 0 (.int .u8 49) = Lib.byteCells (49 :: List.replicate (j - 1) 32) := by
        obtain ⟨m, rfl⟩ : ∃ m, j = m + 1 := ⟨j - 1, by omega⟩
        unfold rowOf Lib.byteCells
        rw [Nat.sub_self, List.replicate_zero, List.append_nil, List.replicate_succ]
        rfl
      have hst := (hown.stored 0 (.int .u8 49)).1
      rw [r1] at hst
      have hcell : wr.cell? ⟨G, 0, none⟩ = some (.int .u8 ((32 : UInt8).toNat : Int)) := by
        rw [hown.cellAt 0 (by omega)]
        obtain ⟨m, rfl⟩ : ∃ m, j = m + 1 := ⟨j - 1, by omega⟩
        unfold rowOf Lib.byteCells
        rw [Nat.sub_self, List.replicate_zero, List.append_nil, List.replicate_succ]
        rfl
      have hfz := hown.frozenAt 0
      have hb2 := hb.setCell (p := ⟨G, 0, none⟩) (Nat.le_refl _) (.int .u8 49)
      obtain ⟨w2, hw2⟩ : ∃ w2, wr.setCell ⟨G, 0, none⟩ (.int .u8 49) = w2 := ⟨_, rfl⟩
      rw [hw2] at hst hb2
      have HW2 := Lib.hid hw2
      have hbytes := bytes_own (cap' := j) (m := 65536) hst (by omega) (49 :: List.replicate 65535 32) (by rw [show j - 1 = 65535 + 1 by omega, List.take_succ_cons, List.take_replicate]; rfl)
      have hp := parse_any _ _ _ hbytes
      rw [long_parse 65535 (Nat.le_refl _)] at hp
      have g0 : (0 : Int) < j := by omega
      have g1 : (1 : Int) < j := by omega
      have g2 : (65536 : Int) ≤ j := by omega
      clear hbytes hown hb hw2 hj hlt r1 hKi
      go_wp2_with fail
      rw [HW2.out]
      refine hp.mono ?_
      rintro e' w3 ⟨hb3, d0, d1, d2, d3, d4, x, rfl, rfl, hn⟩
      obtain ⟨x0, x1, x2, a3, l3, m3, a4, l4, m4, rfl, rfl, rfl, rfl, rfl⟩ := hn.forms
      have hst3 := (Kit.ownsRow_below hst hb3).alloc (.cells #[.int .i64 x0, .int .i64 x1, .string x2, .slice a3 l3 m3, .slice a4 l4 m4] 27)
      have hb4 := (hb2.trans (hb3.mono (by have := hb2.size; omega))).alloc (by have := hb2.size; have := hb3.size; omega) (.cells #[.int .i64 x0, .int .i64 x1, .string x2, .slice a3 l3 m3, .slice a4 l4 m4] 27)
      obtain ⟨w4, hw4⟩ : ∃ w4, w3.alloc (.cells #[.int .i64 x0, .int .i64 x1, .string x2, .slice a3 l3 m3, .slice a4 l4 m4] 27) = w4 := ⟨_, rfl⟩
      rw [hw4] at hst3 hb4
      have HW4 := Lib.hid hw4
      have hKi := HKi.out
      have r2 : (Lib.byteCells (49 :: List.replicate (j - 1) 32)).set 1 (.int .u8 c) = Lib.byteCells (49 :: U8.b8 c :: List.replicate (j - 2) 32) := by
        obtain ⟨m, rfl⟩ : ∃ m, j = m + 2 := ⟨j - 2, by omega⟩
        rw [show m + 2 - 1 = m + 1 by omega, List.replicate_succ, show m + 2 - 2 = m by omega]
        show (Value.int .u8 49) :: (Value.int .u8 c) :: Lib.byteCells (List.replicate m 32) = (Value.int .u8 49) :: (Value.int .u8 ((U8.b8 c).toNat : Int)) :: Lib.byteCells (List.replicate m 32)
        rw [U8.b8_toNat c0 (by omega)]
      have hst5 := (hst3.stored 1 (.int .u8 c)).1
      rw [r2] at hst5
      have hcell1 : w4.cell? ⟨G, 1, none⟩ = some (.int .u8 ((32 : UInt8).toNat : Int)) := by
        rw [hst3.cellAt 1 (by omega)]
        obtain ⟨m, rfl⟩ : ∃ m, j = m + 2 := ⟨j - 2, by omega⟩
        rw [show m + 2 - 1 = m + 1 by omega, List.replicate_succ]
        rfl
      have hfz1 := hst3.frozenAt 1
      have hb5 := hb4.setCell (p := ⟨G, 1, none⟩) (Nat.le_refl _) (.int .u8 c)
      obtain ⟨w5, hw5⟩ : ∃ w5, w4.setCell ⟨G, 1, none⟩ (.int .u8 c) = w5 := ⟨_, rfl⟩
      rw [hw5] at hst5 hb5
      have HW5 := Lib.hid hw5
      have hbytes2 := bytes_own (cap' := j) (m := j) hst5 (Nat.le_refl _) (49 :: U8.b8 c :: List.replicate (j - 2) 32) (List.take_of_length_le (by simp; omega))
      have hp2 := parse_any _ _ _ hbytes2
      have hpe : parseG numC (49 :: U8.b8 c :: List.replicate (j - 2) 32) = .error 2 := by unfold parseG; rw [if_pos (by simp; omega)]
      rw [hpe] at hp2
      rw [← hw4] at hcell1 hfz1
      clear hst3 hst hp hbytes2 hw4 hw5 hpe r2 hKi hn hcell hfz
      go_wp2_with fail
      rw [HW4.out, HW5.out]
      refine hp2.mono ?_
      rintro e' w6 ⟨hb6, d0, d1, d2, d3, d4, y, rfl, rfl, hz⟩
      obtain ⟨rfl, rfl, rfl, rfl, rfl⟩ : d0 = .int .i64 0 ∧ d1 = .int .i64 0 ∧ d2 = .string ⟨#[]⟩ ∧ d3 = .slice none 0 0 ∧ d4 = .slice none 0 0 := by
        unfold zeroN at hz
        injection hz with e; injection e with e; injection e with e0 e; injection e with e1 e; injection e with e2 e; injection e with e3 e; injection e with e4
        exact ⟨e0, e1, e2, e3, e4⟩
      clear hz
      have hb7 := hb5.trans (hb6.mono (by have := hb5.size; omega))
      go_wp2_with fail
      refine (L3.num_any 0 _).mono ?_
      rintro e' w7 ⟨rfl, rfl⟩
      go_wp2_with fail
      refine (L3.num_any 2 _).mono ?_
      rintro e' w8 ⟨rfl, rfl⟩
      go_wp2_with fail
      refine (awake_any _).mono ?_
      rintro e' w9 ⟨rfl, hb9⟩
      go_wp2_with fail
      go_ret
      rw [hG]
      have hb8 := hb7.alloc (by have := hb7.size; omega) (.cells #[.int .i64 0, .int .i64 0, .string ⟨#[]⟩, .slice none 0 0, .slice none 0 0] 27)
      exact ⟨rfl, hb8.trans (hb9.mono (by have := hb7.size; simp; omega))⟩
end Go.Proofs.Ytpnffmimpkimeaa.J7
