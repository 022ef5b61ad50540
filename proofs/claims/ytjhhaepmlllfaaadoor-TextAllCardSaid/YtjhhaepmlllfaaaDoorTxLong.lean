/-
  The law TextLong returns true: a printable text of 200 bytes is quoted, one of a byte more is told with its length; one with another byte too. Condition: the numbers are a uint16 and a uint8; the library's table reads as the program's text lays it.
-/
import Derived.Test.YtjhhaepmlllfaaaDoorTxNumbers
namespace Go.Proofs.YtjhhaepmlllfaaaDoor.Tx
open Go Go.RowKit Go.Joins

/-- What stands in the slice behind j rounds. -/
def rowAt (k j : Nat) : List Value := List.replicate j (.int .u8 120) ++ List.replicate (k - j) (.int .u8 0)
theorem set_mid (l : List Value) (a b : Value) (r : List Value) : (l ++ b :: r).set l.length a = l ++ a :: r := by
  induction l with
  | nil => rfl
  | cons x l ih => simp [ih]
theorem rowAt_set (k j : Nat) (h : j < k) : (rowAt k j).set j (.int .u8 120) = rowAt k (j + 1) := by
  unfold rowAt
  obtain ⟨m, hm⟩ : ∃ m, k - j = m + 1 := ⟨k - j - 1, by omega⟩
  have hm' : k - (j + 1) = m := by omega
  rw [hm, hm', List.replicate_succ]
  have := set_mid (List.replicate j (.int .u8 120)) (.int .u8 120) (.int .u8 0) (List.replicate m (.int .u8 0))
  rw [List.length_replicate] at this
  rw [this, List.replicate_succ', List.append_assoc]
  rfl
theorem rowAt_get (k j : Nat) (h : j < k) : (rowAt k j)[j]? = some (.int .u8 0) := by
  unfold rowAt
  rw [List.getElem?_append_right (by simp), List.length_replicate, Nat.sub_self, List.getElem?_replicate, if_pos (by omega)]
def xs (k : Nat) : ByteArray := ⟨(List.replicate k (120 : UInt8)).toArray⟩
theorem xs_data (k : Nat) : (xs k).data.toList = List.replicate k 120 := rfl
theorem xs_size (k : Nat) : (xs k).size = k := by rw [Lib.size_eq, xs_data, List.length_replicate]
theorem run_xs (k : Nat) (W : World) (g base : Nat) (h : W.ownsRow base 5 1 (.slice (some ⟨g, 0, none⟩) k k) k (rowAt k k)) :
    (convert 33 9 (.slice (some ⟨g, 0, none⟩) k k)).run Tryd.prog W = .ok (.string (xs k)) W := by
  have := run_convert_bytes_back (P := Tryd.prog) W 33 9 5 ⟨g, 0, none⟩ k (List.replicate k 120) Tryd.underlying33 Tryd.underlying5 Tryd.underlying9 (fun j hj => by
    have hj' : j < k := by simpa using hj
    have e : (⟨g, 0, none⟩ : Addr).add j = ⟨g, j, none⟩ := by
      simp [Addr.add]
      omega
    rw [e, h.cellAt j (by omega)]
    rw [show rowAt k k = List.replicate k (.int .u8 120) by simp [rowAt]]
    simp [hj'])
  rw [List.length_replicate] at this
  exact this

def strB (s : ByteArray) : ByteArray := ⟨(strL s.data.toList).toArray⟩
theorem strB_call (s : ByteArray) (w : World) (hs : s.size ≤ 1099511627776) (hE : Env w) :
    Calls Tryd.prog 20 #[.string s] w fun e w' => e = .returned (.string (strB s)) ∧ Below w.heap.size w w' := string_any s w hs hE
theorem strB_head (s : ByteArray) : ∃ h : 0 < (strB s).size, ((strB s)[0].toNat : Int) = if plainL s.data.toList then 34 else 123 := by
  have hd : (strB s).data.toList = strL s.data.toList := rfl
  have h : 0 < (strB s).size := by
    rw [Lib.size_eq, hd]
    unfold strL litL
    split <;> simp
  refine ⟨h, ?_⟩
  rw [← byte_get _ 0 h]
  simp only [hd]
  unfold strL litL
  split <;> simp

/-- What is owned stays owned where nothing that was there is turned. -/
theorem ownsRow_below {w w' : World} {base : Nat} {e : TypeId} {size : Nat} {v : Value} {n : Nat} {l : List Value} (h : w.ownsRow base e size v n l) (hb : Below w.heap.size w w') : w'.ownsRow base e size v n l := by
  obtain ⟨h1, h2⟩ := h
  refine ⟨h1, ?_⟩
  rcases h2 with h2 | ⟨g, cap, cur, hv, hg, hh, r⟩
  · exact Or.inl h2
  · have hlt : g < w.heap.size := by
      rcases Nat.lt_or_ge g w.heap.size with h' | h'
      · exact h'
      · simp [Array.getElem?_eq_none h'] at hh
    exact Or.inr ⟨g, cap, cur, hv, hg, by rw [hb.block g hlt]; exact hh, r⟩

theorem plain_xs (j : Nat) : plainL (xs j).data.toList = decide (j ≤ 200) := by
  rw [xs_data]
  unfold plainL
  rw [List.length_replicate, show (List.replicate j (120 : UInt8)).all plainB = true by rw [List.all_replicate]; split <;> decide, Bool.and_true]
theorem plain_xc (j : Nat) (c : Int) (h0 : 0 ≤ c) (h1 : c ≤ 255) : plainL (xs j ++ oneB c).data.toList = (decide (j < 200) && (decide (32 ≤ c) && decide (c ≤ 126))) := by
  rw [data_append, xs_data]
  unfold plainL oneB
  rw [List.all_append, show (List.replicate j (120 : UInt8)).all plainB = true by rw [List.all_replicate]; split <;> decide, Bool.true_and, Bool.eq_iff_iff]
  simp [plainB]
  omega
theorem strB_quote (s : ByteArray) (b : Bool) (h : plainL s.data.toList = b) : ∃ h : 0 < (strB s).size, ((((strB s)[0].toNat : Int) == 34) = b) := by
  obtain ⟨h0, e⟩ := strB_head s
  refine ⟨h0, ?_⟩
  rw [e, h]
  cases b <;> rfl

theorem info5 : (Tryd.prog.info? 5).map (fun i => (i.zero, i.size, i.bytes)) = some (some (.int .u8 0), 1, 1) := by kernel_rfl

set_option maxHeartbeats 1000000 in
set_option maxRecDepth 100000 in
theorem textLong_walk (n c : Int) (n0 : 0 ≤ n) (n1 : n ≤ 65535) (c0 : 0 ≤ c) (c1 : c ≤ 255) (w : World) (hE : Env w) :
    Calls Tryd.prog 9 #[.int .u16 n, .int .u8 c] w fun e w' => e = .returned (.bool true) ∧ Below w.heap.size w w' := by
  obtain ⟨i0, hi, hz0, hz1, hz2⟩ := info_parts info5
  obtain ⟨k, hk⟩ : ∃ k : Nat, n % 400 = (k : Int) := ⟨(n % 400).toNat, by omega⟩
  have hk4 : k < 400 := by omega
  go_enter Tryd.func9, Tryd.ntmps9
  go_wp2_with (at_make; refine wpList_make_full _ rfl _ _ 33 rfl w.heap.size 5 i0 (.int .u8 0) 1 Tryd.underlying33 hi hz0 hz1 .i64 .i64 _ _ k rfl rfl ?c1 ?c2 ?c3 ?c4 ?c5 ?_)
  case c1 => exact hk
  case c2 => exact hk
  case c3 => rw [hz2]; omega
  case c4 => unfold maxLen; omega
  case c5 => exact Nat.le_refl _
  intro w0 hown0 hgr0
  have hb0 : Below w.heap.size w w0 := (Below.refl _ _).grown hgr0 (Nat.le_refl _) (fun _ h => by cases h)
  have hlt0 : w.heap.size < w0.heap.size := (hown0.lt _ rfl).2
  rw [toList_madeCells_one, show List.replicate k (Value.int .u8 0) = rowAt k 0 by simp [rowAt]] at hown0
  clear hgr0
  go_wp2_with fail
  go_loopw [7] (fun i wr => ∃ j : Nat, j ≤ k ∧ i = .int .i64 j ∧ wr.ownsRow w.heap.size 5 1 (.slice (some ⟨w.heap.size, 0, none⟩) k k) k (rowAt k j) ∧ Below w.heap.size w wr) (fun i _ => k - (intOf i).toNat)
  case atStart => exact ⟨0, by omega, rfl, hown0, hb0⟩
  case round =>
    clear hown0 hb0 hlt0
    obtain ⟨j, hj, rfl, hown, hb⟩ := hrel
    by_cases hlt : j < k
    · have hcell : wr.cell? ⟨w.heap.size, j, none⟩ = some (.int .u8 0) := by
        rw [hown.cellAt j (by omega), rowAt_get k j hlt]
      have hfz := hown.frozenAt j
      have hst := (hown.stored j (.int .u8 120)).1
      rw [rowAt_set k j hlt] at hst
      have hb2 := hb.setCell (p := ⟨w.heap.size, j, none⟩) (Nat.le_refl _) (.int .u8 120)
      have hgj : (j : Int) < k := by omega
      go_wp2_with fail
      go_roundw
      case rel => exact ⟨j + 1, by omega, by go_num, hst, hb2⟩
      case measure => simp [intOf]; omega
    · have he : j = k := by omega
      subst he
      have hx1 := run_xs j wr _ _ hown
      have hglt : w.heap.size < wr.heap.size := (hown.lt _ rfl).2
      go_wp2_with fail
      clear hx1
      refine (strB_call (xs j) wr (by rw [xs_size]; omega) (hE.next hb)).mono ?_
      rintro e w1 ⟨rfl, hb1⟩
      have hown1 : w1.ownsRow w.heap.size 5 1 (.slice (some ⟨w.heap.size, 0, none⟩) j j) j (rowAt j j) := ownsRow_below hown hb1
      replace hb1 := hb.trans (hb1.mono hb.size)
      have hx2 := run_xs j w1 _ _ hown1
      have hone := run_oneB c (by omega) (by omega) w1
      have hz1' : (xs j).size ≤ 400 := by rw [xs_size]; omega
      have hz2' : (oneB c).size ≤ 1 := by rw [oneB_size]; omega
      have hb2 := hb1.alloc hb1.size (Obj.cells #[Value.int IntKind.u8 c] 5)
      go_wp2_with fail
      clear hx2 hone
      refine (strB_call (xs j ++ oneB c) _ (by rw [ByteArray.size_append]; omega) (hE.next hb2)).mono ?_
      rintro e w2 ⟨rfl, hb3⟩
      replace hb3 := hb2.trans (hb3.mono hb2.size)
      obtain ⟨hS0, hS1⟩ := strB_quote (xs j) (decide ((j : Int) ≤ 200)) (by rw [plain_xs j, Bool.eq_iff_iff]; simp; omega)
      obtain ⟨b, hT, hB⟩ : ∃ b : Bool, plainL (xs j ++ oneB c).data.toList = b ∧ ((c < 32 ∧ b = false) ∨ (32 ≤ c ∧ 126 < c ∧ b = false) ∨ (32 ≤ c ∧ c ≤ 126 ∧ (200 : Int) ≤ j ∧ b = false) ∨ (32 ≤ c ∧ c ≤ 126 ∧ (j : Int) < 200 ∧ b = true)) := by
        refine ⟨_, plain_xc j c c0 c1, ?_⟩
        rcases (show c < 32 ∨ (32 ≤ c ∧ 126 < c) ∨ (32 ≤ c ∧ c ≤ 126 ∧ 200 ≤ j) ∨ (32 ≤ c ∧ c ≤ 126 ∧ j < 200) by omega) with g1 | ⟨g1, g2⟩ | ⟨g1, g2, g3⟩ | ⟨g1, g2, g3⟩
        · exact Or.inl ⟨g1, by simp; omega⟩
        · exact Or.inr (Or.inl ⟨g1, g2, by simp; omega⟩)
        · exact Or.inr (Or.inr (Or.inl ⟨g1, g2, by omega, by simp; omega⟩))
        · exact Or.inr (Or.inr (Or.inr ⟨g1, g2, by omega, by simp; omega⟩))
      obtain ⟨hT0, hT1⟩ := strB_quote (xs j ++ oneB c) b hT
      generalize strB (xs j) = s at hS0 hS1 ⊢
      generalize strB (xs j ++ oneB c) = t at hT0 hT1 ⊢
      have hS2 : ((s.size : Int) == 0) = false := by rw [beq_eq_false_iff_ne]; omega
      have hT2 : ((t.size : Int) == 0) = false := by rw [beq_eq_false_iff_ne]; omega
      clear hT hz1' hz2' hb hb1 hb2 hown hown1
      rcases hB with ⟨g1, rfl⟩ | ⟨g1, g2, rfl⟩ | ⟨g1, g2, g3, rfl⟩ | ⟨g1, g2, g3, rfl⟩
      all_goals
        go_wp2_with fail
        refine (awake_tail w w2 hE hb3).mono ?_
        rintro e w3 ⟨rfl, hb4⟩
        go_wp2
        go_ret
        first | exact ⟨rfl, hb4⟩ | exact ⟨ret_bool (by simp; omega), hb4⟩
end Go.Proofs.YtjhhaepmlllfaaaDoor.Tx
