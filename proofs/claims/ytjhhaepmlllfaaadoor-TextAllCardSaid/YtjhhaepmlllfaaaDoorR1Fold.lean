/-
  The document's answer for package text, as the statements have it: Fold, Index and In return what the program's do, in new memory. Condition: the texts have at most 2^31 bytes.
-/
import Derived.Test.YtjhhaepmlllfaaaDoorR1Num
namespace Go.Proofs.YtjhhaepmlllfaaaDoor.R1
open Go Go.RowKit Go.Joins Tx

/-- A row of bytes of the call's own, as []byte of a text lays it. -/
def RowB (w : World) (g : Nat) (l : List UInt8) : Prop := ∃ cur : Array Value, w.heap[g]? = some (.cells cur 5 (cur.size, cur.size + 1)) ∧ l.length ≤ cur.size ∧ ∀ j (h : j < l.length), cur[j]? = some (.int .u8 (l[j].toNat : Int))
theorem RowB.cell {w : World} {g : Nat} {l : List UInt8} (h : RowB w g l) (j : Nat) (hj : j < l.length) : w.cell? ⟨g, j, none⟩ = some (.int .u8 (l[j].toNat : Int)) := by
  obtain ⟨cur, h1, _, h3⟩ := h
  unfold World.cell?
  simp only [h1]
  simpa using h3 j hj
theorem RowB.lt {w : World} {g : Nat} {l : List UInt8} (h : RowB w g l) : g < w.heap.size := by
  obtain ⟨cur, h1, _⟩ := h
  rcases Nat.lt_or_ge g w.heap.size with h' | h'
  · exact h'
  · simp [Array.getElem?_eq_none h'] at h1
theorem RowB.free {w : World} {g : Nat} {l : List UInt8} (h : RowB w g l) (j : Nat) (hj : j < l.length) : w.frozen? ⟨g, j, none⟩ = false := by
  obtain ⟨cur, h1, h2, _⟩ := h
  unfold World.frozen?
  simp only [h1]
  simp
  omega
theorem RowB.set {w : World} {g : Nat} {l : List UInt8} (h : RowB w g l) (j : Nat) (c : UInt8) : RowB (w.setCell ⟨g, j, none⟩ (.int .u8 (c.toNat : Int))) g (l.set j c) := by
  obtain ⟨cur, h1, h2, h3⟩ := h
  refine ⟨cur.setIfInBounds j (.int .u8 (c.toNat : Int)), ?_, by simpa using h2, ?_⟩
  · simp [World.setCell, Array.getElem?_modify, h1]
  · intro i hi
    have hi' : i < l.length := by simpa using hi
    rw [Array.getElem?_setIfInBounds, List.getElem_set]
    by_cases e : j = i
    · subst e
      simp
      omega
    · rw [if_neg e, if_neg e]
      exact h3 i hi'
theorem RowB.below {w w' : World} {g : Nat} {l : List UInt8} (h : RowB w g l) (hb : Below w.heap.size w w') : RowB w' g l := by
  have hlt := h.lt
  obtain ⟨cur, h1, h2⟩ := h
  exact ⟨cur, by rw [hb.block g hlt]; exact h1, h2⟩
theorem RowB.string {W : World} {g : Nat} {l : List UInt8} (cap : Nat) (h : RowB W g l) :
    (convert 33 9 (.slice (some ⟨g, 0, none⟩) l.length cap)).run Tryd.prog W = .ok (.string ⟨l.toArray⟩) W :=
  run_convert_bytes_back (P := Tryd.prog) W 33 9 5 ⟨g, 0, none⟩ cap l Tryd.underlying33 Tryd.underlying5 Tryd.underlying9 (fun j hj => by
    have e : (⟨g, 0, none⟩ : Addr).add j = ⟨g, j, none⟩ := by
      simp [Addr.add]
      omega
    rw [e, h.cell j hj])
/-- What '[]byte(s)' lays. -/
theorem rowB_made (w : World) (s : ByteArray) (cap : Nat) : RowB (w.alloc (Obj.cells (bytesRow s cap) 5 ((bytesRow s cap).size, (bytesRow s cap).size + 1))) w.heap.size s.data.toList := by
  refine ⟨bytesRow s cap, ?_, ?_, ?_⟩
  · show (w.heap.push _)[w.heap.size]? = _
    simp
  · simp [bytesRow]
  · intro j hj
    have hj' : j < s.data.size := by simpa using hj
    unfold bytesRow
    rw [Array.getElem?_append, if_pos (by simpa using hj'), Array.getElem?_map, Array.getElem?_eq_getElem hj']
    rfl

def foldTo (l : List UInt8) (k : Nat) : List UInt8 := foldL (l.take k) ++ l.drop k
theorem foldTo_length (l : List UInt8) (k : Nat) : (foldTo l k).length = l.length := by
  unfold foldTo
  rw [List.length_append, foldL_length, ← List.length_append, List.take_append_drop]
theorem foldTo_at (l : List UInt8) (k : Nat) (h : k < l.length) : (foldTo l k)[k]'(by rw [foldTo_length]; exact h) = l[k] := by
  unfold foldTo
  have hk : (foldL (l.take k)).length = k := by rw [foldL_length, List.length_take]; omega
  rw [List.getElem_append_right (by omega)]
  simp [hk]
theorem set_mid (l : List UInt8) (a b : UInt8) (r : List UInt8) : (l ++ b :: r).set l.length a = l ++ a :: r := by
  induction l with
  | nil => rfl
  | cons x l ih => simp [ih]
theorem foldTo_set (l : List UInt8) (k : Nat) (h : k < l.length) : (foldTo l k).set k (foldB l[k]) = foldTo l (k + 1) := by
  unfold foldTo
  have hk : (foldL (l.take k)).length = k := by rw [foldL_length, List.length_take]; omega
  rw [List.drop_eq_getElem_cons h]
  have := set_mid (foldL (l.take k)) (foldB l[k]) l[k] (l.drop (k + 1))
  rw [hk] at this
  rw [this, foldL_take_succ l k h, List.append_assoc]
  rfl
theorem foldTo_keep (l : List UInt8) (k : Nat) (h : k < l.length) (hn : ¬ (65 ≤ l[k].toNat ∧ l[k].toNat ≤ 90)) : foldTo l k = foldTo l (k + 1) := by
  unfold foldTo
  rw [foldL_take_succ l k h, foldB_low hn, List.append_assoc, List.drop_eq_getElem_cons h]
  rfl

set_option maxHeartbeats 1000000 in
set_option maxRecDepth 100000 in
theorem fold_call (s : ByteArray) (w : World) (hs : s.size ≤ 140737488355328) :
    Calls Tryd.prog 15 #[.string s] w fun e w' => e = .returned (.string (fold s)) ∧ Below w.heap.size w w' := by
  have hconv := run_bytes_of_string (P := Tryd.prog) w 9 33 5 s Tryd.underlying9 Tryd.underlying33 Tryd.underlying5
  have hrow := rowB_made w s (grownCap w s.size 0 5)
  generalize grownCap w s.size 0 5 = cap at hconv hrow
  generalize hC : bytesRow s cap = C at hconv hrow
  have HC := Lib.hid hC
  clear hC
  go_enter Tryd.func15, Tryd.ntmps15
  go_wp2_with fail
  clear hconv
  go_loopw [4] (fun i wr => ∃ k : Nat, k ≤ s.size ∧ i = .int .i64 k ∧ RowB wr w.heap.size (foldTo s.data.toList k) ∧ Below w.heap.size w wr) (fun i _ => s.size - (intOf i).toNat)
  case atStart => exact ⟨0, by omega, rfl, hrow, ((Below.refl _ w).alloc (Nat.le_refl _) _).drew⟩
  case round =>
    clear hrow
    obtain ⟨k, hk, rfl, hrow, hb⟩ := hrel
    by_cases hlt : k < s.size
    · have hl : k < s.data.toList.length := by rw [← Lib.size_eq]; exact hlt
      have hlk : k < (foldTo s.data.toList k).length := by rw [foldTo_length]; exact hl
      have hcell := hrow.cell k hlk
      rw [foldTo_at _ _ hl, byte_get s k hlt] at hcell
      have hfz := hrow.free k hlk
      have hki : (k : Int) < s.size := by omega
      by_cases h1 : 65 ≤ s[k].toNat ∧ s[k].toNat ≤ 90
      · have hset := hrow.set k (foldB s[k])
        have hfs := foldTo_set _ k hl
        rw [byte_get s k hlt] at hfs
        rw [hfs, foldB_up h1.1 h1.2] at hset
        have hb2 := hb.setCell (p := ⟨w.heap.size, k, none⟩) (Nat.le_refl _) (.int .u8 ((s[k].toNat + 32 : Nat) : Int))
        have HSET := Lib.hid hset
        have HFS := Lib.hid hfs
        have g1 : (65 : Int) ≤ s[k].toNat := by omega
        have g2 : (s[k].toNat : Int) ≤ 90 := by omega
        clear hset hfs h1
        go_wp2
        go_roundw
        case rel => exact ⟨k + 1, by omega, by go_num, HSET.out, hb2⟩
        case measure => simp [intOf]; omega
      · have hfs := foldTo_keep _ k hl (by rw [byte_get s k hlt]; exact h1)
        rw [hfs] at hrow
        have HFS := Lib.hid hfs
        clear hfs
        rcases (show (s[k].toNat : Int) < 65 ∨ ((65 : Int) ≤ s[k].toNat ∧ (90 : Int) < s[k].toNat) by omega) with g1 | ⟨g1, g2⟩
        all_goals
          clear h1
          go_wp2
          go_roundw
          case rel => exact ⟨k + 1, by omega, by go_num, hrow, hb⟩
          case measure => simp [intOf]; omega
    · have he : k = s.size := by omega
      subst he
      have hfull : foldTo s.data.toList s.size = foldL s.data.toList := by
        unfold foldTo
        rw [List.take_of_length_le (by rw [← Lib.size_eq]; exact Nat.le_refl _), List.drop_of_length_le (by rw [← Lib.size_eq]; exact Nat.le_refl _), List.append_nil]
      rw [hfull] at hrow
      have hrun := hrow.string cap
      rw [foldL_length, ← Lib.size_eq] at hrun
      clear hrow
      go_wp2
      go_ret
      exact ⟨rfl, hb⟩
end Go.Proofs.YtjhhaepmlllfaaaDoor.R1
