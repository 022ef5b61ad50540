/-
  The program's reader of JSON, from its fields to Parse: texts, numbers, words, arrays, objects, values, the panic that is caught. Conditions: the text has at most 65536 bytes.
-/
import Derived.Test.YtbjngdlkamdmdaaDoorJ7Val
import Derived.Test.YtbjngdlkamdmdaaDoorJ7Step
import Derived.Test.YtbjngdlkamdmdaaDoorU8Kit
import Derived.Test.YtbjngdlkamdmdaaDoorU8Get
import Derived.Test.YtbjngdlkamdmdaaDoorU8Put
import Derived.Test.YtbjngdlkamdmdaaDoorBldK
import Derived.Test.YtbjngdlkamdmdaaDoorJ7Bx
import Derived.Test.YtbjngdlkamdmdaaDoorJ7Set
import Derived.WalkLawsBesides
import Derived.Lib.Strings
import Derived.Lib.IndexBytes
import Derived.Deep.AppendLies
import Derived.Deep.CutRange
import Derived.Maps.OwnSet
import Derived.StringKeys
import Derived.Defers
import Derived.Recover
import Derived.Laws.Pointers
namespace Go.Proofs.YtbjngdlkamdmdaaDoor.J7
open Go Go.RowKit Go.Joins Kit

/-- The reader lies in block R: its text, its place. -/
structure Rc (R : Nat) (s : ByteArray) (i : Nat) (w : World) : Prop where
  blk : w.heap[R]? = some (.cells #[.string s, .int .i64 (i : Int)] 57 (0, 0))
namespace Rc
variable {R : Nat} {s : ByteArray} {i : Nat} {w : World}
theorem lt (h : Rc R s i w) : R < w.heap.size := by
  rcases Nat.lt_or_ge R w.heap.size with h' | h'
  · exact h'
  · have := h.blk; simp [Array.getElem?_eq_none h'] at this
theorem c0 (h : Rc R s i w) : w.cell? ⟨R, 0, none⟩ = some (.string s) := by rw [Lib.cell_of_heap h.blk]; rfl
theorem c1 (h : Rc R s i w) : w.cell? ⟨R, 1, none⟩ = some (.int .i64 i) := by rw [Lib.cell_of_heap h.blk]; rfl
theorem free (h : Rc R s i w) (o : Nat) : w.frozen? ⟨R, o, none⟩ = false := by
  unfold World.frozen?
  simp only [h.blk]
  simp
theorem set1 (h : Rc R s i w) (x : Nat) (y : Int) (hy : (x : Int) = y) : Rc R s x (w.setCell ⟨R, 1, none⟩ (.int .i64 y)) := ⟨by
  subst hy
  have := h.blk
  simp [World.setCell, Array.getElem?_modify, this]⟩
theorem drewN (h : Rc R s i w) (n : Nat) : Rc R s i (w.drewN n) := ⟨h.blk⟩
theorem alloc (h : Rc R s i w) (o : Obj) : Rc R s i (w.alloc o) := ⟨by rw [Below.heap_alloc w o R h.lt]; exact h.blk⟩
theorem below (h : Rc R s i w) {w' : World} (hb : Below w.heap.size w w') : Rc R s i w' := ⟨by rw [hb.block R h.lt]; exact h.blk⟩
end Rc
/-- It gives up with an error's number. -/
abbrev Errs (c : Nat) : Ending := .panicked [{ v := .iface 28 (.int .i64 (c : Int)), recovered := false }]
/-- The byte that is next. -/
def pk (l : List UInt8) : UInt8 := l.headD 0
theorem pk_at {s : ByteArray} {i : Nat} (h : i < s.size) : pk (tail s i) = s[i] := by rw [tail_cons h]; rfl
theorem pk_end {s : ByteArray} {i : Nat} (h : s.size ≤ i) : pk (tail s i) = 0 := by rw [tail_end h]; rfl

set_option maxHeartbeats 1000000 in
theorem peek_any (R : Nat) (s : ByteArray) (i : Nat) (w : World) (h : Rc R s i w) (hs : s.size ≤ 65536) :
    Calls Tryd.prog 50 #[.pointer (some ⟨R, 0, none⟩)] w fun e' w' => e' = .returned (.int .u8 ((pk (tail s i)).toNat : Int)) ∧ Rc R s i w' ∧ Step R w w' := by
  have h0 := h.c0
  have h1 := h.c1
  have hsz : (s.size : Int) ≤ 65536 := by omega
  rcases Nat.lt_or_ge i s.size with hl | hl
  · have hp := Lib.hid (pk_at hl)
    have gi : decide (s.size ≤ i) = false := by rw [decide_eq_false_iff_not]; omega
    go_enter Tryd.func50, Tryd.ntmps50
    go_wp2
    go_quiet (fail)
    go_wp2
    go_quiet (fail)
    go_wp2
    go_ret
    exact ⟨ret_int (by rw [hp.out]), (h.drewN _).drewN _, ((Step.refl R w).drewN _).drewN _⟩
  · have hp := Lib.hid (pk_end hl)
    have gi : decide (s.size ≤ i) = true := by rw [decide_eq_true_iff]; omega
    go_enter Tryd.func50, Tryd.ntmps50
    go_wp2
    go_quiet (fail)
    go_wp2
    go_ret
    exact ⟨ret_int (by rw [hp.out]; rfl), h.drewN _, (Step.refl R w).drewN _⟩
theorem blank_ne {c : UInt8} (h : blank c = true) : c ≠ 0 := by
  intro e
  subst e
  revert h
  decide
set_option maxHeartbeats 2000000 in
theorem skip_any (R : Nat) (s : ByteArray) (i : Nat) (w : World) (h : Rc R s i w) (hs : s.size ≤ 65536) (hi : i ≤ s.size) :
    Calls Tryd.prog 34 #[.pointer (some ⟨R, 0, none⟩)] w fun e' w' => e' = .returned (.tuple #[]) ∧ ∃ k : Nat, i ≤ k ∧ k ≤ s.size ∧ skipL (tail s i) = tail s k ∧ Rc R s k w' ∧ Step R w w' := by
  have hsz : (s.size : Int) ≤ 65536 := by omega
  go_enter Tryd.func34, Tryd.ntmps34
  go_wp2_with fail
  go_loopg [] (s.size - i) (fun n wr => ∃ k : Nat, n = s.size - k ∧ i ≤ k ∧ k ≤ s.size ∧ Hid (skipL (tail s i) = skipL (tail s k)) ∧ Rc R s k wr ∧ Step R w wr)
  case atStart => exact ⟨i, rfl, Nat.le_refl _, hi, Lib.hid rfl, h, Step.refl R w⟩
  case round =>
    obtain ⟨k, hn, hk1, hk2, hk, hr, hst⟩ := hrel
    obtain ⟨c, hc⟩ : ∃ c, pk (tail s k) = c := ⟨_, rfl⟩
    have HC := Lib.hid hc
    have hcb := c.toNat_lt
    have q32 : ((c.toNat : Int) == 32) = decide (c.toNat = 32) := by by_cases q : c.toNat = 32 <;> simp [q] <;> omega
    have q9 : ((c.toNat : Int) == 9) = decide (c.toNat = 9) := by by_cases q : c.toNat = 9 <;> simp [q] <;> omega
    have q10 : ((c.toNat : Int) == 10) = decide (c.toNat = 10) := by by_cases q : c.toNat = 10 <;> simp [q] <;> omega
    have q13 : ((c.toNat : Int) == 13) = decide (c.toNat = 13) := by by_cases q : c.toNat = 13 <;> simp [q] <;> omega
    have hpeek := peek_any R s k wr hr hs
    rw [hc] at hpeek
    clear hc
    by_cases hb : blank c = true
    · have hl : k < s.size := by
        rcases Nat.lt_or_ge k s.size with h' | h'
        · exact h'
        · exact absurd (HC.out.symm.trans (pk_end h')) (blank_ne hb)
      have hnx := Lib.hid (hk.out.trans (skip_step hl (by rw [← pk_at hl, HC.out]; exact hb)))
      rcases (blank_iff _).1 hb with q | q | q | q <;> simp only [q] at q32 q9 q10 q13 hpeek
      all_goals
        go_wp2_with fail
        refine hpeek.mono ?_
        rintro e' w2 ⟨rfl, hr2, hs2⟩
        have h1 := hr2.c1
        have hz := hr2.free 1
        have hst2 := hst.trans hs2
        go_wp2_with fail
        go_roundg (s.size - (k + 1))
        case measure => omega
        case rel => exact ⟨k + 1, rfl, by omega, by omega, hnx, by simpa using hr2.set1 (k + 1) ((k : Int) + 1) (by omega), hst2.set 1 _⟩
    · have hb' : blank c = false := by simpa using hb
      have hn4 : ¬ (c.toNat = 32 ∨ c.toNat = 9 ∨ c.toNat = 10 ∨ c.toNat = 13) := fun q => hb ((blank_iff _).2 q)
      rw [decide_eq_false (by omega)] at q32 q9 q10 q13
      have hfin : Hid (skipL (tail s k) = tail s k) := by
        rcases Nat.lt_or_ge k s.size with h' | h'
        · exact skip_no h' (by rw [← pk_at h', HC.out]; exact hb')
        · exact skip_stop h'
      clear hn4
      go_wp2_with fail
      refine hpeek.mono ?_
      rintro e' w2 ⟨rfl, hr2, hs2⟩
      have hst2 := hst.trans hs2
      go_wp2_with fail
      refine bodyPost_ret (results_none rfl _ _ _) rfl ?_
      exact ⟨rfl, k, hk1, hk2, hk.out.trans hfin.out, hr2, hst2⟩
end Go.Proofs.YtbjngdlkamdmdaaDoor.J7
namespace Go.Proofs.YtbjngdlkamdmdaaDoor.J7
open Go Go.RowKit Go.Joins Kit

/-- What a function of the program's reader leaves: what it hands back, the reader at the rest; or it gives up. -/
def LeftC {α : Type} (R : Nat) (s : ByteArray) (w : World) (ret : α → Value) (o : Out α) (e' : Ending) (w' : World) : Prop :=
  Step R w w' ∧ match o with
    | .ok (a, r) => e' = .returned (ret a) ∧ ∃ k : Nat, k ≤ s.size ∧ r = tail s k ∧ Rc R s k w'
    | .error c => e' = Errs c
theorem pk_eat {l r : List UInt8} {c : UInt8} (h : eatL c l = some r) : pk l = c := by rw [eat_some h]; rfl
theorem pk_not {l : List UInt8} {c : UInt8} (h : eatL c l = none) (hc : c ≠ 0) : pk l ≠ c := by
  cases l with
  | nil => exact fun e => hc e.symm
  | cons a r =>
    rw [eatL] at h
    intro e
    rw [if_pos (show a = c from e)] at h
    cases h

set_option maxHeartbeats 1000000 in
theorem found_yes (R : Nat) (s : ByteArray) (i : Nat) (c : UInt8) (r : List UInt8) (w : World) (h : Rc R s i w) (hs : s.size ≤ 65536) (hi : i ≤ s.size) (hc : eatL c (skipL (tail s i)) = some r) :
    Calls Tryd.prog 67 #[.pointer (some ⟨R, 0, none⟩), .int .u8 (c.toNat : Int)] w fun e' w' => e' = .returned (.bool true) ∧ Step R w w' ∧ ∃ k : Nat, i < k ∧ k ≤ s.size ∧ r = tail s k ∧ Rc R s k w' := by
  have hsz : (s.size : Int) ≤ 65536 := by omega
  have HC := Lib.hid hc
  clear hc
  go_enter Tryd.func67, Tryd.ntmps67
  go_wp2_with fail
  refine (skip_any R s i w h hs hi).mono ?_
  rintro e' w1 ⟨rfl, k, hk1, hk2, hk, hr1, hs1⟩
  have he : eatL c (tail s k) = some r := by rw [← hk]; exact HC.out
  obtain ⟨hl, -, hre⟩ := eat_place he
  have hp := pk_eat he
  clear hk he
  go_wp2_with fail
  refine (peek_any R s k w1 hr1 hs).mono ?_
  rintro e' w2 ⟨rfl, hr2, hs2⟩
  rw [hp]
  have h1 := hr2.c1
  have hz := hr2.free 1
  have hst2 := hs1.trans hs2
  go_wp2_with fail
  go_ret
  exact ⟨rfl, hst2.set 1 _, k + 1, by omega, by omega, hre, by simpa using hr2.set1 (k + 1) ((k : Int) + 1) (by omega)⟩
set_option maxHeartbeats 1000000 in
theorem found_no (R : Nat) (s : ByteArray) (i : Nat) (c : UInt8) (w : World) (h : Rc R s i w) (hs : s.size ≤ 65536) (hi : i ≤ s.size) (h0 : c ≠ 0) (hc : eatL c (skipL (tail s i)) = none) :
    Calls Tryd.prog 67 #[.pointer (some ⟨R, 0, none⟩), .int .u8 (c.toNat : Int)] w fun e' w' => e' = .returned (.bool false) ∧ Step R w w' ∧ ∃ k : Nat, i ≤ k ∧ k ≤ s.size ∧ skipL (tail s i) = tail s k ∧ Rc R s k w' := by
  have hsz : (s.size : Int) ≤ 65536 := by omega
  have HC := Lib.hid hc
  clear hc
  go_enter Tryd.func67, Tryd.ntmps67
  go_wp2_with fail
  refine (skip_any R s i w h hs hi).mono ?_
  rintro e' w1 ⟨rfl, k, hk1, hk2, hk, hr1, hs1⟩
  have hp : pk (tail s k) ≠ c := pk_not (by rw [← hk]; exact HC.out) h0
  have HK := Lib.hid hk
  clear hk
  obtain ⟨x, hx⟩ : ∃ x, pk (tail s k) = x := ⟨_, rfl⟩
  have hpeek := peek_any R s k w1 hr1 hs
  rw [hx] at hp hpeek
  clear hx
  have g : ((x.toNat : Int) != (c.toNat : Int)) = true := by rw [bne_iff_ne]; exact fun e => hp (byte_eq e)
  clear hp
  go_wp2_with fail
  refine hpeek.mono ?_
  rintro e' w2 ⟨rfl, hr2, hs2⟩
  have hst2 := hs1.trans hs2
  go_wp2_with fail
  go_ret
  exact ⟨rfl, hst2, k, hk1, hk2, HK.out, hr2⟩
def wantL (c : UInt8) (l : List UInt8) : Out Unit := match eatL c (skipL l) with
  | some r => .ok ((), r)
  | none => .error 3
set_option maxHeartbeats 1000000 in
theorem want_any (R : Nat) (s : ByteArray) (i : Nat) (c : UInt8) (w : World) (h : Rc R s i w) (hs : s.size ≤ 65536) (hi : i ≤ s.size) (h0 : c ≠ 0) :
    Calls Tryd.prog 68 #[.pointer (some ⟨R, 0, none⟩), .int .u8 (c.toNat : Int)] w fun e' w' => LeftC R s w (fun _ => .tuple #[]) (wantL c (tail s i)) e' w' := by
  unfold wantL
  cases hc : eatL c (skipL (tail s i)) with
  | some r =>
    have HC := Lib.hid hc
    clear hc
    go_enter Tryd.func68, Tryd.ntmps68
    go_wp2_with fail
    refine (found_yes R s i c r w h hs hi HC.out).mono ?_
    rintro e' w1 ⟨rfl, hs1, k, hk1, hk2, hk, hr1⟩
    go_wp2_with fail
    go_end0
    exact ⟨hs1, rfl, k, hk2, hk, hr1⟩
  | none =>
    have HC := Lib.hid hc
    clear hc
    go_enter Tryd.func68, Tryd.ntmps68
    go_wp2_with fail
    refine (found_no R s i c w h hs hi h0 HC.out).mono ?_
    rintro e' w1 ⟨rfl, hs1, k, hk1, hk2, hk, hr1⟩
    go_wp2_with fail
    exact ⟨rfl, hs1, rfl⟩
set_option maxHeartbeats 1000000 in
theorem enter_any (R : Nat) (s : ByteArray) (i : Nat) (a : Nat) (w : World) (h : Rc R s i w) (hs : s.size ≤ 65536) (hi : i ≤ s.size) (ha : a < 24) :
    Calls Tryd.prog 66 #[.pointer (some ⟨R, 0, none⟩), .int .i64 (a : Int)] w fun e' w' => e' = .returned (.tuple #[]) ∧ Step R w w' ∧ Rc R s (i + 1) w' := by
  have hsz : (s.size : Int) ≤ 65536 := by omega
  have h1 := h.c1
  have hz := h.free 1
  have g : ((a : Int) == 24) = false := by rw [beq_eq_false_iff_ne]; omega
  go_enter Tryd.func66, Tryd.ntmps66
  go_wp2_with fail
  go_end0
  exact ⟨rfl, (Step.refl R w).set 1 _, by simpa using h.set1 (i + 1) ((i : Int) + 1) (by omega)⟩
set_option maxHeartbeats 1000000 in
theorem enter_deep (R : Nat) (w : World) :
    Calls Tryd.prog 66 #[.pointer (some ⟨R, 0, none⟩), .int .i64 24] w fun e' w' => e' = Errs 4 ∧ Step R w w' := by
  go_enter Tryd.func66, Tryd.ntmps66
  go_wp2_with fail
  exact ⟨rfl, rfl, Step.refl R w⟩

/-! ### Hexadecimal digits -/
theorem hx_cases (c : UInt8) : (48 ≤ c.toNat ∧ c.toNat ≤ 57 ∧ Q4.hx c = some (c.toNat - 48)) ∨ (97 ≤ c.toNat ∧ c.toNat ≤ 102 ∧ Q4.hx c = some (c.toNat - 87)) ∨ (65 ≤ c.toNat ∧ c.toNat ≤ 70 ∧ Q4.hx c = some (c.toNat - 55)) ∨
    (¬ (48 ≤ c.toNat ∧ c.toNat ≤ 57) ∧ ¬ (97 ≤ c.toNat ∧ c.toNat ≤ 102) ∧ ¬ (65 ≤ c.toNat ∧ c.toNat ≤ 70) ∧ Q4.hx c = none) := by
  unfold Q4.hx Q4.hxN
  split
  · exact Or.inl ⟨by omega, by omega, rfl⟩
  · split
    · exact Or.inr (Or.inl ⟨by omega, by omega, rfl⟩)
    · split
      · exact Or.inr (Or.inr (Or.inl ⟨by omega, by omega, rfl⟩))
      · exact Or.inr (Or.inr (Or.inr ⟨by omega, by omega, by omega, rfl⟩))
def HexV (o : Option Nat) (e' : Ending) : Prop := match o with
  | some v => e' = .returned (.int .i64 (v : Int))
  | none => e' = Errs 3
theorem hexDigit_any (c : UInt8) (w : World) : Calls Tryd.prog 91 #[.int .u8 (c.toNat : Int)] w fun e' w' => HexV (Q4.hx c) e' ∧ w = w' := by
  have hc := c.toNat_lt
  rcases hx_cases c with ⟨h1, h2, h3⟩ | ⟨h1, h2, h3⟩ | ⟨h1, h2, h3⟩ | ⟨h1, h2, h4, h3⟩
  · rw [h3]
    have g0 : (48 : Int) ≤ c.toNat := by omega
    have g1 : (c.toNat : Int) ≤ 57 := by omega
    clear h1 h2 h3
    go_enter Tryd.func91, Tryd.ntmps91
    go_wp2
    go_ret
    exact ⟨ret_int (by omega), rfl⟩
  · rw [h3]
    have g0 : (97 : Int) ≤ c.toNat := by omega
    have g1 : (c.toNat : Int) ≤ 102 := by omega
    clear h1 h2 h3
    go_enter Tryd.func91, Tryd.ntmps91
    go_wp2
    go_ret
    exact ⟨ret_int (by omega), rfl⟩
  · rw [h3]
    have g0 : (65 : Int) ≤ c.toNat := by omega
    have g1 : (c.toNat : Int) ≤ 70 := by omega
    clear h1 h2 h3
    go_enter Tryd.func91, Tryd.ntmps91
    go_wp2
    go_ret
    exact ⟨ret_int (by omega), rfl⟩
  · rw [h3]
    rcases (show c.toNat < 48 ∨ (57 < c.toNat ∧ c.toNat < 65) ∨ (70 < c.toNat ∧ c.toNat < 97) ∨ 102 < c.toNat by omega) with h | h | h | h
    · have g0 : (c.toNat : Int) < 48 := by omega
      clear h1 h2 h3 h4 h
      go_enter Tryd.func91, Tryd.ntmps91
      go_wp2
      exact ⟨rfl, rfl, rfl⟩
    · have g0 : 57 < (c.toNat : Int) := by omega
      have g1 : (c.toNat : Int) < 65 := by omega
      clear h1 h2 h3 h4 h
      go_enter Tryd.func91, Tryd.ntmps91
      go_wp2
      exact ⟨rfl, rfl, rfl⟩
    · have g0 : 70 < (c.toNat : Int) := by omega
      have g1 : (c.toNat : Int) < 97 := by omega
      clear h1 h2 h3 h4 h
      go_enter Tryd.func91, Tryd.ntmps91
      go_wp2
      exact ⟨rfl, rfl, rfl⟩
    · have g0 : 102 < (c.toNat : Int) := by omega
      clear h1 h2 h3 h4 h
      go_enter Tryd.func91, Tryd.ntmps91
      go_wp2
      exact ⟨rfl, rfl, rfl⟩

theorem isPre_word : ∀ (W l : List UInt8), wordL W l = if W <+: l then some (l.drop W.length) else none
  | [], l => by rw [wordL, if_pos (List.nil_prefix)]; rfl
  | a :: W, [] => by rw [wordL, eatL, if_neg (by simp)]
  | a :: W, c :: l => by
    rw [wordL, eatL]
    by_cases h : c = a
    · subst h
      rw [if_pos rfl]
      simp only
      rw [isPre_word W l]
      simp [List.cons_prefix_cons]
    · rw [if_neg h, if_neg (by rw [List.cons_prefix_cons]; exact fun e => h e.1.symm)]
/-- strings.HasPrefix. -/
theorem hasPrefix_any (a p : ByteArray) (w : World) :
    Calls Tryd.prog 63 #[.string a, .string p] w fun e' w' => e' = .returned (.bool (decide (p.data.toList <+: a.data.toList))) ∧ w = w' := by
  rcases Nat.lt_or_ge a.size p.size with hl | hl
  · have e : decide (p.data.toList <+: a.data.toList) = false := by
      rw [decide_eq_false_iff_not]
      intro h
      have := h.length_le
      rw [← Lib.size_eq, ← Lib.size_eq] at this
      omega
    rw [e]
    clear e
    go_enter Tryd.func63, Tryd.ntmps63
    go_wp2
    go_ret
    exact ⟨rfl, rfl⟩
  · have e : ((a.extract 0 p.size).toList == p.toList) = decide (p.data.toList <+: a.data.toList) := by
      rw [Lib.toList_data, Lib.toList_data]
      have h1 : (a.extract 0 p.size).data.toList = a.data.toList.take p.size := by simp [ByteArray.data_extract]
      by_cases h : p.data.toList <+: a.data.toList
      · rw [decide_eq_true h, beq_iff_eq, h1, Lib.size_eq]
        exact (List.prefix_iff_eq_take.1 h).symm
      · rw [decide_eq_false h, beq_eq_false_iff_ne]
        intro e
        apply h
        rw [← e, h1]
        exact List.take_prefix _ _
    have HE := Lib.hid e
    clear e
    have g : (p.size : Int) ≤ a.size := by omega
    go_enter Tryd.func63, Tryd.ntmps63
    go_wp2
    go_ret
    exact ⟨ret_bool HE.out, rfl⟩
def wantWordL (W l : List UInt8) : Out Unit := match wordL W l with
  | some r => .ok ((), r)
  | none => .error 3
theorem tail_drop (s : ByteArray) (i n : Nat) : (tail s i).drop n = tail s (i + n) := by
  unfold tail
  rw [List.drop_drop]
theorem tail_extract (s : ByteArray) (i : Nat) : (s.extract i s.size).data.toList = tail s i := by
  unfold tail
  simp only [ByteArray.data_extract]
  rw [Array.toList_extract, Lib.size_eq, List.extract_eq_take_drop, List.take_of_length_le (by rw [List.length_drop]; exact Nat.le_refl _)]
set_option maxHeartbeats 2000000 in
theorem wantWord_any (R : Nat) (s W : ByteArray) (i : Nat) (w : World) (h : Rc R s i w) (hs : s.size ≤ 65536) (hi : i ≤ s.size) (hW : W.size ≤ 10) :
    Calls Tryd.prog 51 #[.pointer (some ⟨R, 0, none⟩), .string W] w fun e' w' => LeftC R s w (fun _ => .tuple #[]) (wantWordL W.data.toList (tail s i)) e' w' := by
  have hsz : (s.size : Int) ≤ 65536 := by omega
  have hwz : (W.size : Int) ≤ 10 := by omega
  have h0 := h.c0
  have h1 := h.c1
  have hz := h.free 1
  have HP := fun wx => hasPrefix_any (s.extract i s.size) W wx
  rw [tail_extract] at HP
  by_cases hp : W.data.toList <+: tail s i
  · have HO := Lib.hid (show wantWordL W.data.toList (tail s i) = .ok ((), tail s (i + W.size)) by unfold wantWordL; rw [isPre_word, if_pos hp, ← Lib.size_eq, tail_drop])
    have hl := hp.length_le
    rw [← Lib.size_eq, tail_length] at hl
    rw [decide_eq_true hp] at HP
    clear hp
    go_enter Tryd.func51, Tryd.ntmps51
    go_wp2_with fail
    go_quiet ((refine (HP _).mono ?_; rintro e w9 ⟨rfl, rfl⟩; exact ⟨rfl, _, rfl⟩))
    go_wp2_with fail
    go_end0
    rw [HO.out]
    exact ⟨((Step.refl R w).drewN _).set 1 _, rfl, i + W.size, by omega, rfl, by simpa using (h.drewN _).set1 (i + W.size) ((i : Int) + W.size) (by omega)⟩
  · have HO := Lib.hid (show wantWordL W.data.toList (tail s i) = .error 3 by unfold wantWordL; rw [isPre_word, if_neg hp])
    rw [decide_eq_false hp] at HP
    clear hp
    go_enter Tryd.func51, Tryd.ntmps51
    go_wp2_with fail
    go_quiet ((refine (HP _).mono ?_; rintro e w9 ⟨rfl, rfl⟩; exact ⟨rfl, _, rfl⟩))
    go_wp2_with fail
    rw [HO.out]
    exact ⟨rfl, (Step.refl R w).drewN _, rfl⟩

/-! ### Four digits -/
theorem or4 (x y : Int) (h0 : 0 ≤ x) (h1 : x < 4611686018427387904) (h2 : x % 16 = 0) (h3 : 0 ≤ y) (h4 : y < 16) : bits .or .i64 x y = x + y :=
  bits_join .i64 62 (by decide) U8.wraps_i64 4 x y h0 h2 (by omega) h3 h4 (by omega)
theorem hx_le15 {c : UInt8} {v : Nat} (h : Q4.hx c = some v) : v ≤ 15 := by
  rcases hx_cases c with ⟨h1, h2, h3⟩ | ⟨h1, h2, h3⟩ | ⟨h1, h2, h3⟩ | ⟨h1, h2, h4, h3⟩
  · rw [h3] at h; have := Option.some.inj h; omega
  · rw [h3] at h; have := Option.some.inj h; omega
  · rw [h3] at h; have := Option.some.inj h; omega
  · rw [h3] at h; cases h
theorem hexF_pk (f v : Nat) (l : List UInt8) : hexF (f + 1) v l = match Q4.hx (pk l) with
    | none => .error 3
    | some x => match l with
      | [] => .error 3
      | _ :: r => hexF f (16 * v + x) r := by
  cases l with
  | nil => rw [hexF]; rfl
  | cons c r => rw [hexF]; rfl
theorem pk_hx {s : ByteArray} {q x : Nat} (h : Q4.hx (pk (tail s q)) = some x) : q < s.size := by
  rcases Nat.lt_or_ge q s.size with h' | h'
  · exact h'
  · rw [pk_end h'] at h
    cases h
set_option maxHeartbeats 2000000 in
set_option maxRecDepth 100000 in
theorem unit_any (R : Nat) (s : ByteArray) (i : Nat) (w : World) (h : Rc R s i w) (hs : s.size ≤ 65536) (hi : i ≤ s.size) :
    Calls Tryd.prog 85 #[.pointer (some ⟨R, 0, none⟩)] w fun e' w' => LeftC R s w (fun v : Nat => .int .i64 (v : Int)) (hexL (tail s i)) e' w' := by
  have hsz : (s.size : Int) ≤ 65536 := by omega
  obtain ⟨O, hO⟩ : ∃ O, hexL (tail s i) = O := ⟨_, rfl⟩
  rw [hO]
  have HO := Lib.hid (show hexF 4 0 (tail s i) = O from hO)
  clear hO
  go_enter Tryd.func85, Tryd.ntmps85
  go_wp2_with fail
  go_loopw [3, 4] (fun a b wr => ∃ (v k f q : Nat), a = .int .i64 v ∧ b = .int .i64 k ∧ k + f = 4 ∧ (v : Int) < 16 ^ k ∧ q ≤ s.size ∧ Hid (hexF f v (tail s q) = O) ∧ Rc R s q wr ∧ Step R w wr) (fun _ b _ => 4 - (intOf b).toNat)
  case atStart => exact ⟨0, 0, 4, i, rfl, rfl, rfl, by decide, hi, HO, h, Step.refl R w⟩
  case round =>
    obtain ⟨v, k, f, q, rfl, rfl, hkf, hv, hq, HQ, hr, hst⟩ := hrel
    have hvb : (v : Int) ≤ 65535 := by
      have : k ≤ 4 := by omega
      rcases (show k = 0 ∨ k = 1 ∨ k = 2 ∨ k = 3 ∨ k = 4 by omega) with rfl | rfl | rfl | rfl | rfl <;> omega
    by_cases hk4 : (k : Int) < 4
    · obtain ⟨f', rfl⟩ : ∃ f', f = f' + 1 := ⟨f - 1, by omega⟩
      have hvc : (v : Int) ≤ 4095 := by
        rcases (show k = 0 ∨ k = 1 ∨ k = 2 ∨ k = 3 by omega) with rfl | rfl | rfl | rfl <;> omega
      have HQ2 := HQ.out
      rw [hexF_pk] at HQ2
      have hpeek := peek_any R s q wr hr hs
      cases hx : Q4.hx (pk (tail s q)) with
      | none =>
        rw [hx] at HQ2
        have HE := Lib.hid (show O = .error 3 from HQ2.symm)
        have hhex := fun wx => hexDigit_any (pk (tail s q)) wx
        rw [hx] at hhex
        clear hx HQ2 HQ
        go_wp2_with fail
        refine hpeek.mono ?_
        rintro e' w2 ⟨rfl, hr2, hs2⟩
        go_wp2_with fail
        refine (hhex _).mono ?_
        rintro e' w3 ⟨hh, rfl⟩
        obtain rfl : e' = Errs 3 := hh
        go_wp2_with fail
        rw [HE.out]
        exact ⟨rfl, hst.trans hs2, rfl⟩
      | some x =>
        have hql := pk_hx hx
        rw [hx, tail_cons hql] at HQ2
        have HE : Hid (hexF f' (16 * v + x) (tail s (q + 1)) = O) := HQ2
        have hx15 := hx_le15 hx
        have hor := or4 ((v : Int) * 16) x (by omega) (by omega) (by omega) (by omega) (by omega)
        have hhex := fun wx => hexDigit_any (pk (tail s q)) wx
        rw [hx] at hhex
        clear hx HQ2 HQ
        go_wp2_with fail
        refine hpeek.mono ?_
        rintro e' w2 ⟨rfl, hr2, hs2⟩
        go_wp2_with fail
        refine (hhex _).mono ?_
        rintro e' w3 ⟨hh, rfl⟩
        obtain rfl : e' = .returned (.int .i64 (x : Int)) := hh
        have h1 := hr2.c1
        have hz := hr2.free 1
        have hst2 := hst.trans hs2
        go_wp2_with fail
        go_roundw
        case rel => exact ⟨16 * v + x, k + 1, f', q + 1, by go_num, by go_num, by omega, by (rcases (show k = 0 ∨ k = 1 ∨ k = 2 ∨ k = 3 by omega) with rfl | rfl | rfl | rfl <;> omega), by omega, HE, by simpa using hr2.set1 (q + 1) ((q : Int) + 1) (by omega), hst2.set 1 _⟩
        case measure => simp only [intOf]; omega
    · obtain rfl : f = 0 := by omega
      have HE := Lib.hid (show O = .ok (v, tail s q) from HQ.out.symm)
      go_wp2_with fail
      go_ret
      rw [HE.out]
      exact ⟨hst, rfl, q, hq, rfl, hr⟩
end Go.Proofs.YtbjngdlkamdmdaaDoor.J7
namespace Go.Proofs.YtbjngdlkamdmdaaDoor.J7
open Go Go.RowKit Go.Joins Kit

def wordO (o : Option (List UInt8)) : Out Unit := match o with
  | some r => .ok ((), r)
  | none => .error 3
/-- The code point that an escape says. -/
def ptL (l : List UInt8) : Out Nat := match hexL l with
  | .error e => .error e
  | .ok (v, r) => if v < 55296 ∨ 57343 < v then .ok (v, r) else if 56320 ≤ v then .error 3 else match wordL [92, 117] r with
    | none => .error 3
    | some r1 => match hexL r1 with
      | .error e => .error e
      | .ok (w, r2) => if w < 56320 ∨ 57343 < w then .error 3 else .ok (65536 + (v - 55296) * 1024 + w - 56320, r2)
theorem hexF_le : ∀ {f v : Nat} {l r : List UInt8} {n : Nat}, hexF f v l = .ok (n, r) → n < (v + 1) * 16 ^ f
  | 0, v, l, r, n, h => by
    rw [hexF] at h
    obtain rfl := congrArg Prod.fst (Except.ok.inj h)
    simp
  | f + 1, v, [], r, n, h => by rw [hexF] at h; cases h
  | f + 1, v, c :: t, r, n, h => by
    rw [hexF] at h
    split at h
    · cases h
    · rename_i x hx
      have := hexF_le h
      have h15 := hx_le15 hx
      refine Nat.lt_of_lt_of_le this ?_
      rw [Nat.pow_succ, Nat.mul_comm (16 ^ f) 16, ← Nat.mul_assoc]
      exact Nat.mul_le_mul_right _ (by omega)
theorem hexL_le {l r : List UInt8} {n : Nat} (h : hexL l = .ok (n, r)) : n ≤ 65535 := by
  have := hexF_le (f := 4) h
  omega
theorem hexF_err : ∀ {f v : Nat} {l : List UInt8} {c : Nat}, hexF f v l = .error c → c = 3
  | 0, v, l, c, h => by rw [hexF] at h; cases h
  | f + 1, v, [], c, h => by rw [hexF] at h; cases h; rfl
  | f + 1, v, a :: t, c, h => by
    rw [hexF] at h
    split at h
    · cases h; rfl
    · exact hexF_err h
theorem unit_pt (l : List UInt8) : unitL l = match ptL l with
    | .error e => .error e
    | .ok (p, r) => .ok (U8.putL (p : Int), r) := by
  unfold unitL ptL
  cases hexL l with
  | error e => rfl
  | ok x =>
    obtain ⟨v, r⟩ := x
    simp only
    by_cases h1 : v < 55296 ∨ 57343 < v
    · rw [if_neg (by omega), if_neg (by omega), if_pos h1]
    · rw [if_neg h1]
      by_cases h2 : 56320 ≤ v
      · rw [if_neg (by omega), if_pos (by omega), if_pos h2]
      · rw [if_pos (by omega), if_neg h2]
        unfold lowL
        rw [wordL]
        cases eatL 92 r with
        | none => rfl
        | some r0 =>
          simp only
          rw [wordL]
          cases eatL 117 r0 with
          | none => rfl
          | some r1 =>
            simp only
            rw [wordL]
            simp only
            cases hexL r1 with
            | error e => rfl
            | ok y =>
              obtain ⟨w, r2⟩ := y
              simp only
              by_cases h3 : w < 56320 ∨ 57343 < w
              · rw [if_neg (by omega), if_pos h3]
              · rw [if_pos (by omega), if_neg h3]
                simp only
                rw [show 65536 + (v - 55296) * 1024 + (w - 56320) = 65536 + (v - 55296) * 1024 + w - 56320 by omega]

set_option maxHeartbeats 4000000 in
set_option maxRecDepth 100000 in
theorem point_any (R : Nat) (s : ByteArray) (i : Nat) (w : World) (h : Rc R s i w) (hs : s.size ≤ 65536) (hi : i ≤ s.size) :
    Calls Tryd.prog 79 #[.pointer (some ⟨R, 0, none⟩)] w fun e' w' => LeftC R s w (fun n : Nat => .int .i64 (n : Int)) (ptL (tail s i)) e' w' := by
  obtain ⟨O, hO⟩ : ∃ O, ptL (tail s i) = O := ⟨_, rfl⟩
  rw [hO]
  obtain ⟨o, ho⟩ : ∃ o, hexL (tail s i) = o := ⟨_, rfl⟩
  unfold ptL at hO
  rw [ho] at hO
  have hunit := unit_any R s i w h hs hi
  rw [ho] at hunit
  go_enter Tryd.func79, Tryd.ntmps79
  go_wp2_with fail
  refine hunit.mono ?_
  rintro e' w1 ⟨hs1, hL⟩
  match o, hL, hO, ho with
  | .error c, hL, hO, _ =>
    obtain rfl : e' = Errs c := hL
    have HE := Lib.hid (show O = .error c from hO.symm)
    clear hO
    go_wp2_with fail
    rw [HE.out]
    exact ⟨rfl, hs1, rfl⟩
  | .ok (v, r), hL, hO, ho =>
    obtain ⟨rfl, k, hk, rfl, hr1⟩ := hL
    have hv := hexL_le ho
    have hvb : (v : Int) ≤ 65535 := by omega
    simp only at hO
    rcases (show v < 55296 ∨ 57343 < v ∨ (55296 ≤ v ∧ v ≤ 57343) by omega) with g | g | ⟨g, g'⟩
    · have HE := Lib.hid (show O = .ok (v, tail s k) by rw [← hO, if_pos (Or.inl g)])
      have g1 : (v : Int) < 55296 := by omega
      clear hO ho g hv
      go_wp2_with fail
      go_ret
      rw [HE.out]
      exact ⟨hs1, rfl, k, hk, rfl, hr1⟩
    · have HE := Lib.hid (show O = .ok (v, tail s k) by rw [← hO, if_pos (Or.inr g)])
      have g1 : 57343 < (v : Int) := by omega
      clear hO ho g hv
      go_wp2_with fail
      go_ret
      rw [HE.out]
      exact ⟨hs1, rfl, k, hk, rfl, hr1⟩
    · rw [if_neg (by omega)] at hO
      have g0 : (55296 : Int) ≤ v := by omega
      have g1 : (v : Int) ≤ 57343 := by omega
      by_cases g2 : 56320 ≤ v
      · have HE := Lib.hid (show O = .error 3 by rw [← hO, if_pos g2])
        have g3 : (56320 : Int) ≤ v := by omega
        clear hO ho hv g g' g2
        go_wp2_with fail
        rw [HE.out]
        exact ⟨rfl, hs1, rfl⟩
      · rw [if_neg g2] at hO
        have g3 : decide ((56320 : Int) ≤ (v : Int)) = false := by rw [decide_eq_false_iff_not]; omega
        obtain ⟨o1, ho1⟩ : ∃ o1, wordL [92, 117] (tail s k) = o1 := ⟨_, rfl⟩
        rw [ho1] at hO
        have hw := fun w0 h0 => wantWord_any R s ⟨#[92, 117]⟩ k w0 h0 hs hk (by decide)
        have hwl : wantWordL (ByteArray.mk #[92, 117]).data.toList (tail s k) = wordO o1 := by rw [← ho1]; rfl
        rw [hwl] at hw
        have HO := Lib.hid hO
        clear hwl ho hv g g' g2 hO ho1
        go_wp2_with fail
        refine (hw _ hr1).mono ?_
        rintro e' w2 ⟨hs2, hL⟩
        have hO := HO.out
        have hst2 := hs1.trans hs2
        match o1, hL, hO with
        | none, hL, hO =>
          obtain rfl : e' = Errs 3 := hL
          have HE := Lib.hid (show O = .error 3 from hO.symm)
          clear hO hw
          go_wp2_with fail
          rw [HE.out]
          exact ⟨rfl, hst2, rfl⟩
        | some r, hL, hO =>
          obtain ⟨rfl, k2, hk2, rfl, hr2⟩ := hL
          simp only at hO
          obtain ⟨o2, ho2⟩ : ∃ o2, hexL (tail s k2) = o2 := ⟨_, rfl⟩
          rw [ho2] at hO
          have hunit2 := unit_any R s k2 w2 hr2 hs hk2
          rw [ho2] at hunit2
          have HO := Lib.hid hO
          clear hw hO
          go_wp2_with fail
          refine hunit2.mono ?_
          rintro e' w3 ⟨hs3, hL⟩
          have hO := HO.out
          have hst3 := hst2.trans hs3
          match o2, hL, hO, ho2 with
          | .error c, hL, hO, _ =>
            obtain rfl : e' = Errs c := hL
            have HE := Lib.hid (show O = .error c from hO.symm)
            clear hO
            go_wp2_with fail
            rw [HE.out]
            exact ⟨rfl, hst3, rfl⟩
          | .ok (x, r), hL, hO, ho2 =>
            obtain ⟨rfl, k3, hk3, rfl, hr3⟩ := hL
            have hx := hexL_le ho2
            have hxb : (x : Int) ≤ 65535 := by omega
            simp only at hO
            rcases (show x < 56320 ∨ 57343 < x ∨ (56320 ≤ x ∧ x ≤ 57343) by omega) with g | g | ⟨g, g'⟩
            · have HE := Lib.hid (show O = .error 3 by rw [← hO, if_pos (Or.inl g)])
              have g4 : (x : Int) < 56320 := by omega
              clear hO ho2 g hx
              go_wp2_with fail
              rw [HE.out]
              exact ⟨rfl, hst3, rfl⟩
            · have HE := Lib.hid (show O = .error 3 by rw [← hO, if_pos (Or.inr g)])
              have g4 : 57343 < (x : Int) := by omega
              clear hO ho2 g hx
              go_wp2_with fail
              rw [HE.out]
              exact ⟨rfl, hst3, rfl⟩
            · have HE := Lib.hid (show O = .ok (65536 + (v - 55296) * 1024 + x - 56320, tail s k3) by rw [← hO, if_neg (by omega)])
              have g4 : (56320 : Int) ≤ x := by omega
              have g5 : (x : Int) ≤ 57343 := by omega
              clear hO ho2 g g' hx
              go_wp2_with fail
              go_ret
              rw [HE.out]
              exact ⟨hst3, ret_int (by omega), k3, hk3, rfl, hr3⟩

theorem tail_take (s : ByteArray) (i n : Nat) : (s.extract i (i + n)).data.toList = (tail s i).take n := by
  unfold tail
  simp only [ByteArray.data_extract]
  rw [Array.toList_extract, List.extract_eq_take_drop, Nat.add_sub_cancel_left]
/-- A code point as it stands. -/
def plainT (l : List UInt8) : Out (List UInt8) := match U8.decL l with
  | none => .error 3
  | some (_, n) => .ok (l.take n, l.drop n)
set_option maxHeartbeats 2000000 in
set_option maxRecDepth 100000 in
theorem plain_any (R : Nat) (s : ByteArray) (i : Nat) (w : World) (h : Rc R s i w) (hs : s.size ≤ 65536) (hi : i ≤ s.size) :
    Calls Tryd.prog 65 #[.pointer (some ⟨R, 0, none⟩)] w fun e' w' => LeftC R s w (fun t : List UInt8 => .string ⟨t.toArray⟩) (plainT (tail s i)) e' w' := by
  have hsz : (s.size : Int) ≤ 65536 := by omega
  have h0 := h.c0
  have h1 := h.c1
  have hz := h.free 1
  obtain ⟨O, hO⟩ : ∃ O, plainT (tail s i) = O := ⟨_, rfl⟩
  rw [hO]
  unfold plainT at hO
  cases hd : U8.decL (tail s i) with
  | none =>
    simp only [hd] at hO
    have HE := Lib.hid (show O = .error 3 from hO.symm)
    have hget := fun w0 => U8.get_none (s := s) (a := i) hd (by omega) w0
    clear hO hd
    go_enter Tryd.func65, Tryd.ntmps65
    go_wp2_with fail
    go_quiet ((refine (hget _).mono ?_; rintro e w9 ⟨rfl, rfl⟩; exact ⟨rfl, _, rfl⟩))
    go_wp2_with fail
    rw [HE.out]
    exact ⟨rfl, (Step.refl R w).drewN _, rfl⟩
  | some x =>
    obtain ⟨p, n⟩ := x
    simp only [hd] at hO
    obtain ⟨-, hn0, hn1, -⟩ := U8.decL_some hd
    rw [tail_length] at hn1
    have HE := Lib.hid (show O = .ok ((tail s i).take n, tail s (i + n)) by rw [← hO, tail_drop])
    have HT := Lib.hid (tail_take s i n)
    have hget := fun w0 => U8.get_some (s := s) (a := i) hd (by omega) w0
    have g : ((i : Int) + (n : Int) == (i : Int)) = false := by rw [beq_eq_false_iff_ne]; omega
    have gn : (n : Int) ≠ 0 := by omega
    have gl : (i : Int) + n ≤ s.size := by omega
    clear hO hd
    go_enter Tryd.func65, Tryd.ntmps65
    go_wp2_with fail
    go_quiet ((refine (hget _).mono ?_; rintro e w9 ⟨rfl, rfl⟩; exact ⟨rfl, _, rfl⟩))
    go_wp2_with fail
    go_quiet (fail)
    go_wp2_with fail
    go_ret
    rw [HE.out]
    refine ⟨((Step.refl R w).drewN _).set 1 _, ?_, i + n, by omega, rfl, by simpa using (h.drewN _).set1 (i + n) ((i : Int) + n) (by omega)⟩
    exact ret_bytes (by simpa using HT.out)
theorem esc_pk {l : List UInt8} {c : UInt8} {r : List UInt8} (h : l = c :: r) : escapeL l = match signV c with
    | some x => .ok ([x], r)
    | none => if c = 117 then unitL r else .error 3 := by rw [h, escapeL]; rfl
theorem put_bytes (n : Nat) : (⟨(U8.putL (n : Int)).toArray⟩ : ByteArray) = U8.putB (n : Int) := rfl
theorem sign_cases (c : UInt8) : (c = 34 ∧ signV c = some 34) ∨ (c = 92 ∧ signV c = some 92) ∨ (c = 47 ∧ signV c = some 47) ∨ (c = 98 ∧ signV c = some 8) ∨ (c = 102 ∧ signV c = some 12) ∨ (c = 110 ∧ signV c = some 10) ∨ (c = 114 ∧ signV c = some 13) ∨ (c = 116 ∧ signV c = some 9) ∨ (c = 117 ∧ signV c = none) ∨
    ((c ≠ 34 ∧ c ≠ 92 ∧ c ≠ 47 ∧ c ≠ 98 ∧ c ≠ 102 ∧ c ≠ 110 ∧ c ≠ 114 ∧ c ≠ 116 ∧ c ≠ 117) ∧ signV c = none) := by
  unfold signV
  by_cases h1 : c = 34
  · subst h1; exact Or.inl ⟨rfl, rfl⟩
  by_cases h2 : c = 92
  · subst h2; exact Or.inr (Or.inl ⟨rfl, rfl⟩)
  by_cases h3 : c = 47
  · subst h3; exact Or.inr (Or.inr (Or.inl ⟨rfl, rfl⟩))
  by_cases h4 : c = 98
  · subst h4; exact Or.inr (Or.inr (Or.inr (Or.inl ⟨rfl, rfl⟩)))
  by_cases h5 : c = 102
  · subst h5; exact Or.inr (Or.inr (Or.inr (Or.inr (Or.inl ⟨rfl, rfl⟩))))
  by_cases h6 : c = 110
  · subst h6; exact Or.inr (Or.inr (Or.inr (Or.inr (Or.inr (Or.inl ⟨rfl, rfl⟩)))))
  by_cases h7 : c = 114
  · subst h7; exact Or.inr (Or.inr (Or.inr (Or.inr (Or.inr (Or.inr (Or.inl ⟨rfl, rfl⟩))))))
  by_cases h8 : c = 116
  · subst h8; exact Or.inr (Or.inr (Or.inr (Or.inr (Or.inr (Or.inr (Or.inr (Or.inl ⟨rfl, rfl⟩)))))))
  by_cases h9 : c = 117
  · subst h9; exact Or.inr (Or.inr (Or.inr (Or.inr (Or.inr (Or.inr (Or.inr (Or.inr (Or.inl ⟨rfl, rfl⟩))))))))
  · refine Or.inr (Or.inr (Or.inr (Or.inr (Or.inr (Or.inr (Or.inr (Or.inr (Or.inr ⟨⟨h1, h2, h3, h4, h5, h6, h7, h8, h9⟩, ?_⟩))))))))
    simp [h1, h2, h3, h4, h5, h6, h7, h8]

set_option maxHeartbeats 4000000 in
set_option maxRecDepth 100000 in
theorem escaped_any (R : Nat) (s : ByteArray) (i : Nat) (w : World) (h : Rc R s i w) (hs : s.size ≤ 65536) (hi : i ≤ s.size) :
    Calls Tryd.prog 64 #[.pointer (some ⟨R, 0, none⟩)] w fun e' w' => LeftC R s w (fun t : List UInt8 => .string ⟨t.toArray⟩) (escapeL (tail s i)) e' w' := by
  have hsz : (s.size : Int) ≤ 65536 := by omega
  have hpeek := peek_any R s i w h hs
  obtain ⟨O, hO⟩ : ∃ O, escapeL (tail s i) = O := ⟨_, rfl⟩
  rw [hO]
  rcases Nat.lt_or_ge i s.size with hl | hl
  · rw [esc_pk (tail_cons hl)] at hO
    rw [pk_at hl] at hpeek
    obtain ⟨c, hc⟩ : ∃ c, s[i] = c := ⟨_, rfl⟩
    rw [hc] at hO hpeek
    clear hc
    have hset := fun (w1 : World) (hr : Rc R s i w1) => show Rc R s (i + 1) (w1.setCell ⟨R, 1, none⟩ (.int .i64 ((i : Int) + 1))) from hr.set1 (i + 1) ((i : Int) + 1) (by omega)
    rcases sign_cases c with ⟨rfl, e⟩ | ⟨rfl, e⟩ | ⟨rfl, e⟩ | ⟨rfl, e⟩ | ⟨rfl, e⟩ | ⟨rfl, e⟩ | ⟨rfl, e⟩ | ⟨rfl, e⟩ | ⟨rfl, e⟩ | ⟨hn, e⟩
    case' inr.inr.inr.inr.inr.inr.inr.inr.inl =>
      rw [e, if_pos rfl, unit_pt] at hO
      obtain ⟨o, ho⟩ : ∃ o, ptL (tail s (i + 1)) = o := ⟨_, rfl⟩
      have hpt := fun w0 h0 => point_any R s (i + 1) w0 h0 hs (by omega)
      rw [ho] at hO hpt
      clear e ho
      go_enter Tryd.func64, Tryd.ntmps64
      go_wp2_with fail
      refine hpeek.mono ?_
      rintro e' w1 ⟨rfl, hr1, hs1⟩
      have h1 := hr1.c1
      have hz := hr1.free 1
      go_wp2_with fail
      refine (hpt _ (by simpa using hset _ hr1)).mono ?_
      rintro e' w2 ⟨hs2, hL⟩
      have hst2 := (hs1.set 1 _).trans hs2
      match o, hL, hO with
      | .error c, hL, hO =>
        obtain rfl : e' = Errs c := hL
        have HE := Lib.hid (show O = .error c from hO.symm)
        clear hO hpt hpeek
        go_wp2_with fail
        rw [HE.out]
        exact ⟨rfl, hst2, rfl⟩
      | .ok (n, r), hL, hO =>
        obtain ⟨rfl, k, hk, rfl, hr2⟩ := hL
        have HE := Lib.hid (show O = .ok (U8.putL (n : Int), tail s k) from hO.symm)
        clear hO hpt hpeek
        go_wp2_with fail
        refine (U8.put_any _ _).mono ?_
        rintro e' w3 ⟨rfl, hb3⟩
        have hst3 := hst2.trans (Step.of_below hb3)
        have hr3 := hr2.below hb3
        go_wp2_with fail
        go_ret
        rw [HE.out]
        exact ⟨hst3, rfl, k, hk, rfl, hr3⟩
    case' inr.inr.inr.inr.inr.inr.inr.inr.inr =>
      rw [e] at hO
      obtain ⟨n1, n2, n3, n4, n5, n6, n7, n8, n9⟩ := hn
      have HE := Lib.hid (show O = .error 3 by rw [← hO]; exact if_neg n9)
      have q1 : ((c.toNat : Int) == 34) = false := by rw [beq_eq_false_iff_ne]; exact fun e => n1 (byte_eq e)
      have q2 : ((c.toNat : Int) == 92) = false := by rw [beq_eq_false_iff_ne]; exact fun e => n2 (byte_eq e)
      have q3 : ((c.toNat : Int) == 47) = false := by rw [beq_eq_false_iff_ne]; exact fun e => n3 (byte_eq e)
      have q4 : ((c.toNat : Int) == 98) = false := by rw [beq_eq_false_iff_ne]; exact fun e => n4 (byte_eq e)
      have q5 : ((c.toNat : Int) == 102) = false := by rw [beq_eq_false_iff_ne]; exact fun e => n5 (byte_eq e)
      have q6 : ((c.toNat : Int) == 110) = false := by rw [beq_eq_false_iff_ne]; exact fun e => n6 (byte_eq e)
      have q7 : ((c.toNat : Int) == 114) = false := by rw [beq_eq_false_iff_ne]; exact fun e => n7 (byte_eq e)
      have q8 : ((c.toNat : Int) == 116) = false := by rw [beq_eq_false_iff_ne]; exact fun e => n8 (byte_eq e)
      have q9 : ((c.toNat : Int) == 117) = false := by rw [beq_eq_false_iff_ne]; exact fun e => n9 (byte_eq e)
      clear e hO n1 n2 n3 n4 n5 n6 n7 n8 n9
      go_enter Tryd.func64, Tryd.ntmps64
      go_wp2_with fail
      refine hpeek.mono ?_
      rintro e' w1 ⟨rfl, hr1, hs1⟩
      have h1 := hr1.c1
      have hz := hr1.free 1
      go_wp2_with fail
      rw [HE.out]
      exact ⟨rfl, hs1.set 1 _, rfl⟩
    all_goals
      rw [e] at hO
      have HE := Lib.hid hO
      clear e hO
      go_enter Tryd.func64, Tryd.ntmps64
      go_wp2_with fail
      refine hpeek.mono ?_
      rintro e' w1 ⟨rfl, hr1, hs1⟩
      have h1 := hr1.c1
      have hz := hr1.free 1
      have hs9 : (w1.setCell ⟨R, 1, none⟩ (.int .i64 ((i : Int) + 1))).heap.size = w1.heap.size := by simp [World.setCell]
      have k1 : (convert 40 9 (.slice (some ⟨w1.heap.size, 0, none⟩) 1 1)).run Tryd.prog ((w1.setCell ⟨R, 1, none⟩ (.int .i64 ((i : Int) + 1))).alloc (Obj.cells #[Value.int IntKind.u8 34] 5)) = .ok (.string ⟨#[34]⟩) ((w1.setCell ⟨R, 1, none⟩ (.int .i64 ((i : Int) + 1))).alloc (Obj.cells #[Value.int IntKind.u8 34] 5)) := by
        have h9 := U8.run_lit1 34 (by decide) (by decide) (w1.setCell ⟨R, 1, none⟩ (.int .i64 ((i : Int) + 1)))
        rw [hs9] at h9
        exact h9
      have k2 : (convert 40 9 (.slice (some ⟨w1.heap.size, 0, none⟩) 1 1)).run Tryd.prog ((w1.setCell ⟨R, 1, none⟩ (.int .i64 ((i : Int) + 1))).alloc (Obj.cells #[Value.int IntKind.u8 92] 5)) = .ok (.string ⟨#[92]⟩) ((w1.setCell ⟨R, 1, none⟩ (.int .i64 ((i : Int) + 1))).alloc (Obj.cells #[Value.int IntKind.u8 92] 5)) := by
        have h9 := U8.run_lit1 92 (by decide) (by decide) (w1.setCell ⟨R, 1, none⟩ (.int .i64 ((i : Int) + 1)))
        rw [hs9] at h9
        exact h9
      have k3 : (convert 40 9 (.slice (some ⟨w1.heap.size, 0, none⟩) 1 1)).run Tryd.prog ((w1.setCell ⟨R, 1, none⟩ (.int .i64 ((i : Int) + 1))).alloc (Obj.cells #[Value.int IntKind.u8 47] 5)) = .ok (.string ⟨#[47]⟩) ((w1.setCell ⟨R, 1, none⟩ (.int .i64 ((i : Int) + 1))).alloc (Obj.cells #[Value.int IntKind.u8 47] 5)) := by
        have h9 := U8.run_lit1 47 (by decide) (by decide) (w1.setCell ⟨R, 1, none⟩ (.int .i64 ((i : Int) + 1)))
        rw [hs9] at h9
        exact h9
      clear hs9
      go_wp2_with fail
      go_ret
      rw [← HE.out]
      first
        | exact ⟨hs1.set 1 _, rfl, i + 1, by omega, rfl, by simpa using hset _ hr1⟩
        | exact ⟨(hs1.set 1 _).alloc _, rfl, i + 1, by omega, rfl, by simpa using (hset _ hr1).alloc _⟩
  · rw [tail_end hl, escapeL] at hO
    rw [pk_end hl] at hpeek
    have HE := Lib.hid (show O = .error 3 from hO.symm)
    clear hO
    go_enter Tryd.func64, Tryd.ntmps64
    go_wp2_with fail
    refine hpeek.mono ?_
    rintro e' w1 ⟨rfl, hr1, hs1⟩
    have h1 := hr1.c1
    have hz := hr1.free 1
    go_wp2_with fail
    rw [HE.out]
    exact ⟨rfl, hs1.set 1 _, rfl⟩
end Go.Proofs.YtbjngdlkamdmdaaDoor.J7
namespace Go.Proofs.YtbjngdlkamdmdaaDoor.J7
open Go Go.RowKit Go.Joins Kit

theorem Step.belowB {R B : Nat} {w w1 w2 : World} (h : Step R w w1) (hb : Below B w1 w2) (hB : w.heap.size ≤ B) : Step R w w2 :=
  ⟨hb.os.trans h.os, hb.tape.trans h.tape, hb.output.trans h.output, Nat.le_trans h.size hb.size, fun k hk hn => (hb.block k (by omega)).trans (h.block k hk hn)⟩
theorem Rc.belowB {R B i : Nat} {s : ByteArray} {w w' : World} (h : Rc R s i w) (hb : Below B w w') (hR : R < B) : Rc R s i w' := ⟨by rw [hb.block R hR]; exact h.blk⟩
theorem bld_keep {T e : TypeId} {R B b : Nat} {bs : List Value} {w w' : World} (h : Lib.IsBuilder T e B b bs w) (k : Step R w w') (hR : R < B) : Lib.IsBuilder T e B b bs w' := by
  rcases h with h | h
  · obtain ⟨hB, v, h1, h2, h3⟩ := h
    exact Or.inl ⟨hB, v, by rw [k.block b (Array.getElem?_eq_some_iff.1 h1).1 (by omega)]; exact h1, Bld.own_keep h2 (fun g hg hl => k.block g hl (by have := (h2.lt g hg).1; omega)), h3⟩
  · obtain ⟨hB, v, h1, h2, h3⟩ := h
    exact Or.inr ⟨hB, v, by rw [k.block b (Array.getElem?_eq_some_iff.1 h1).1 (by omega)]; exact h1, Bld.own_keep h2 (fun g hg hl => k.block g hl (by have := (h2.lt g hg).1; omega)), h3⟩
theorem bld_new (w : World) : Lib.IsBuilder 45 5 w.heap.size w.heap.size (Lib.byteCells []) (w.alloc (.cells #[.pointer none, .slice none 0 0] 45)) :=
  Or.inl ⟨Nat.le_refl _, .slice none 0 0, fresh_block w _ _, World.ownsRow_nil _ _ _ _, by intro h; cases h⟩
/-- A text with its first sign. -/
def quoL (l : List UInt8) : Out (List UInt8) := match eatL 34 l with
  | none => .error 3
  | some r => textL r
theorem textF_err {f : Nat} {out l : List UInt8} (h : (pk l).toNat < 32) (hl : l.length < f) : textF f out l = .error 3 := by
  obtain ⟨f, rfl⟩ : ∃ g, f = g + 1 := ⟨f - 1, by omega⟩
  cases l with
  | nil => rw [textF]
  | cons c r =>
    have hc : c.toNat < 32 := h
    have h1 : c ≠ 34 := fun e => by subst e; revert hc; decide
    have h2 : c ≠ 92 := fun e => by subst e; revert hc; decide
    rw [textF, if_neg h1, if_neg h2, if_pos hc]
theorem textF_end {f : Nat} {out r : List UInt8} (hl : (34 :: r).length < f) : textF f out (34 :: r) = .ok (out, r) := by
  obtain ⟨f, rfl⟩ : ∃ g, f = g + 1 := ⟨f - 1, by omega⟩
  rw [textF, if_pos rfl]
theorem textF_esc {f : Nat} {out r : List UInt8} : textF (f + 1) out (92 :: r) = match escapeL r with
    | .error e => .error e
    | .ok (t, r1) => textF f (out ++ t) r1 := by
  rw [textF, if_neg (by decide), if_pos rfl]
  rfl
theorem textF_plain {f : Nat} {out : List UInt8} {c : UInt8} {r : List UInt8} (h1 : c ≠ 34) (h2 : c ≠ 92) (h3 : ¬ c.toNat < 32) : textF (f + 1) out (c :: r) = match plainT (c :: r) with
    | .error e => .error e
    | .ok (t, r1) => textF f (out ++ t) r1 := by
  rw [textF, if_neg h1, if_neg h2, if_neg h3]
  unfold plainT
  cases U8.decL (c :: r) with
  | none => rfl
  | some x => obtain ⟨p, n⟩ := x; rfl
theorem putL_le (r : Int) : (U8.putL r).length ≤ 4 := by
  rw [U8.putL_length]
  unfold U8.sizeN
  repeat (first | omega | split)
theorem escape_le {l r t : List UInt8} (h : escapeL l = .ok (t, r)) : t.length ≤ 4 := by
  cases l with
  | nil => rw [escapeL] at h; cases h
  | cons c u =>
    rw [escapeL] at h
    split at h
    · obtain rfl := congrArg Prod.fst (Except.ok.inj h)
      exact (show 1 ≤ 4 by decide)
    · split at h
      · rw [unit_pt] at h
        split at h
        · cases h
        · obtain rfl := congrArg Prod.fst (Except.ok.inj h)
          exact putL_le _
      · cases h
theorem plainT_ok {l r t : List UInt8} (h : plainT l = .ok (t, r)) : t.length ≤ 4 ∧ r.length < l.length ∧ t.length + r.length = l.length := by
  unfold plainT at h
  split at h
  · cases h
  · rename_i p n e
    obtain ⟨h1, h2, h3, h4⟩ := U8.decL_some e
    have e1 := congrArg Prod.fst (Except.ok.inj h)
    have e2 := congrArg Prod.snd (Except.ok.inj h)
    simp only at e1 e2
    rw [← e1, ← e2, List.length_take, List.length_drop]
    have := putL_le p
    rw [← h4, List.length_take] at this
    omega

set_option maxHeartbeats 4000000 in
set_option maxRecDepth 100000 in
theorem text_any (R : Nat) (s : ByteArray) (i : Nat) (w : World) (h : Rc R s i w) (hs : s.size ≤ 65536) (hi : i ≤ s.size) :
    Calls Tryd.prog 52 #[.pointer (some ⟨R, 0, none⟩)] w fun e' w' => LeftC R s w (fun t : List UInt8 => .string ⟨t.toArray⟩) (quoL (tail s i)) e' w' := by
  have hsz : (s.size : Int) ≤ 65536 := by omega
  obtain ⟨O, hO⟩ : ∃ O, quoL (tail s i) = O := ⟨_, rfl⟩
  rw [hO]
  have hw := wantWord_any R s ⟨#[34]⟩ i w h hs hi (by decide)
  have hwl : wantWordL (ByteArray.mk #[34]).data.toList (tail s i) = wordO (eatL 34 (tail s i)) := by
    show (match wordL [34] (tail s i) with
      | some r => (.ok ((), r) : Out Unit)
      | none => .error 3) = _
    rw [wordL]
    cases eatL 34 (tail s i) with
    | none => rfl
    | some r => simp only; rw [wordL]; rfl
  rw [hwl] at hw
  unfold quoL at hO
  cases he : eatL 34 (tail s i) with
  | none =>
    simp only [he] at hO
    rw [he] at hw
    have HE := Lib.hid (show O = .error 3 from hO.symm)
    clear hO he hwl
    go_enter Tryd.func52, Tryd.ntmps52
    go_wp2_with fail
    refine hw.mono ?_
    rintro e' w1 ⟨hs1, hL⟩
    obtain rfl : e' = Errs 3 := hL
    go_wp2_with fail
    rw [HE.out]
    exact ⟨rfl, hs1, rfl⟩
  | some r0 =>
    simp only [he] at hO
    rw [he] at hw
    have HO := Lib.hid hO
    clear hO he hwl
    go_enter Tryd.func52, Tryd.ntmps52
    go_wp2_with fail
    refine hw.mono ?_
    rintro e' w1 ⟨hs1, hL⟩
    obtain ⟨rfl, k, hk, rfl, hr1⟩ := hL
    have HO2 : Hid (textF ((tail s k).length + 1) [] (tail s k) = O) := HO.out
    clear hw HO
    have hRl := hr1.lt
    obtain ⟨B, hB⟩ : ∃ B, w1.heap.size = B := ⟨_, rfl⟩
    have hbn := bld_new w1
    rw [hB] at hbn hRl
    have hwB : w.heap.size ≤ B := by have := hs1.size; omega
    go_wp2_with fail
    obtain ⟨w2, hw2⟩ : ∃ w2, (w1.alloc (.cells #[.pointer none, .slice none 0 0] 45)) = w2 := ⟨_, rfl⟩
    have hst2 : Step R w w2 := by rw [← hw2]; exact hs1.alloc _
    have hr2 : Rc R s k w2 := by rw [← hw2]; exact hr1.alloc _
    have hsz2 : B + 1 = w2.heap.size := by rw [← hw2, ← hB]; simp
    rw [hw2] at hbn
    (try rw [hw2])
    (try rw [hB])
    clear hw2
    go_loopg [] (s.size - k) (fun n wr => ∃ (q f : Nat) (out : List UInt8), n = s.size - q ∧ k ≤ q ∧ q ≤ s.size ∧ out.length ≤ 4 * q ∧ (tail s q).length < f ∧ Hid (textF f out (tail s q) = O) ∧ Rc R s q wr ∧ Step R w wr ∧ B ≤ wr.heap.size ∧ Lib.IsBuilder 45 5 B B (Lib.byteCells out) wr)
    case atStart => exact ⟨k, _, [], rfl, Nat.le_refl _, hk, Nat.zero_le _, Nat.lt_succ_self _, HO2, hr2, hst2, by omega, hbn⟩
    case round =>
      clear hst2 hr2 hbn hsz2 HO2
      obtain ⟨q, f, out, rfl, hq1, hq2, hol, hf, HQ, hr, hst, hBs, hbd⟩ := hrel
      have hpeek := peek_any R s q wr hr hs
      obtain ⟨x, hx⟩ : ∃ x, pk (tail s q) = x := ⟨_, rfl⟩
      rw [hx] at hpeek
      have hxb := x.toNat_lt
      by_cases h32 : x.toNat < 32
      · have HE := Lib.hid (show O = .error 3 from HQ.out.symm.trans (textF_err (by rw [hx]; exact h32) hf))
        have q0 : (x.toNat : Int) < 32 := by omega
        have q1 : ((x.toNat : Int) == 34) = false := by rw [beq_eq_false_iff_ne]; omega
        have q2 : ((x.toNat : Int) == 92) = false := by rw [beq_eq_false_iff_ne]; omega
        clear HQ hx h32 hf
        go_wp2_with fail
        refine hpeek.mono ?_
        rintro e' w3 ⟨rfl, hr3, hs3⟩
        go_wp2_with fail
        rw [HE.out]
        exact ⟨rfl, hst.trans hs3, rfl⟩
      · have hql : q < s.size := by
          rcases Nat.lt_or_ge q s.size with h' | h'
          · exact h'
          · rw [pk_end h'] at hx; subst hx; exact absurd (by decide) h32
        have hcons := tail_cons hql
        rw [pk_at hql] at hx
        rw [hx] at hcons
        obtain ⟨f, rfl⟩ : ∃ g, f = g + 1 := ⟨f - 1, by omega⟩
        by_cases h34 : x = 34
        · subst h34
          have HE := Lib.hid (show O = .ok (out, tail s (q + 1)) by rw [← HQ.out, hcons]; exact textF_end (by rw [← hcons]; exact hf))
          clear HQ hx h32 hf hcons
          go_wp2_with fail
          refine hpeek.mono ?_
          rintro e' w3 ⟨rfl, hr3, hs3⟩
          have h1 := hr3.c1
          have hz := hr3.free 1
          have hst3 : Step R w (w3.setCell ⟨R, 1, none⟩ (.int .i64 ((q : Int) + 1))) := (hst.trans hs3).set 1 _
          have hr4 : Rc R s (q + 1) (w3.setCell ⟨R, 1, none⟩ (.int .i64 ((q : Int) + 1))) := hr3.set1 (q + 1) ((q : Int) + 1) (by omega)
          have hbd3 := bld_keep hbd (hs3.set 1 (.int .i64 ((q : Int) + 1))) hRl
          have hB3 : B ≤ (w3.setCell ⟨R, 1, none⟩ (.int .i64 ((q : Int) + 1))).heap.size := by have := hs3.size; simp [World.setCell]; omega
          go_wp2_with fail
          refine (Tryd.Builder_String_any B B out _ hbd3 hB3).mono ?_
          rintro e' w4 ⟨rfl, hb4⟩
          go_wp2_with fail
          go_ret
          rw [HE.out]
          exact ⟨hst3.belowB hb4 hwB, rfl, q + 1, by omega, rfl, hr4.belowB hb4 hRl⟩
        · have q1 : ((x.toNat : Int) == 34) = false := by rw [beq_eq_false_iff_ne]; exact fun e => h34 (byte_eq e)
          by_cases h92 : x = 92
          · subst h92
            have HQ2 := HQ.out
            rw [hcons, textF_esc] at HQ2
            obtain ⟨o, ho⟩ : ∃ o, escapeL (tail s (q + 1)) = o := ⟨_, rfl⟩
            have hesc := fun w0 h0 => escaped_any R s (q + 1) w0 h0 hs (by omega)
            rw [ho] at HQ2 hesc
            have HQ3 := Lib.hid HQ2
            have hlen := tail_length s q
            clear HQ hx h32 hcons HQ2
            go_wp2_with fail
            refine hpeek.mono ?_
            rintro e' w3 ⟨rfl, hr3, hs3⟩
            have h1 := hr3.c1
            have hz := hr3.free 1
            have hst3 : Step R wr (w3.setCell ⟨R, 1, none⟩ (.int .i64 ((q : Int) + 1))) := hs3.set 1 _
            have hr4 : Rc R s (q + 1) (w3.setCell ⟨R, 1, none⟩ (.int .i64 ((q : Int) + 1))) := hr3.set1 (q + 1) ((q : Int) + 1) (by omega)
            go_wp2_with fail
            refine (hesc _ hr4).mono ?_
            rintro e' w4 ⟨hs4, hL⟩
            have hst4 := hst3.trans hs4
            have hst5 := hst.trans hst4
            have hbd4 := bld_keep hbd hst4 hRl
            have hB4 : B ≤ w4.heap.size := by have := hst4.size; omega
            have HQ4 := HQ3.out
            clear hpeek hesc HQ3
            match o, hL, HQ4, ho with
            | .error c, hL, HQ4, _ =>
              obtain rfl : e' = Errs c := hL
              have HE := Lib.hid (show O = .error c from HQ4.symm)
              clear HQ4
              go_wp2_with fail
              rw [HE.out]
              exact ⟨rfl, hst5, rfl⟩
            | .ok (t, r1), hL, HQ4, ho =>
              obtain ⟨rfl, k2, hk2, rfl, hr5⟩ := hL
              have htl := escape_le ho
              have hsf := (escape_suffix ho).1.length_le
              rw [tail_length, tail_length] at hsf
              have hlen2 := tail_length s k2
              have HN : Hid (textF f (out ++ t) (tail s k2) = O) := HQ4
              have hts : (ByteArray.mk t.toArray).size = t.length := by rw [Lib.size_eq]
              have hq5 : q + 1 ≤ k2 ∨ k2 = s.size := by omega
              clear HQ4 ho
              go_wp2_with fail
              refine (Tryd.Builder_WriteString B B _ ⟨t.toArray⟩ w4 hbd4 (by rw [Lib.byteCells_length, hts]; omega) hB4).mono ?_
              rintro e' w5 ⟨rfl, hb5, hb6⟩
              rw [Bld.str_cells] at hb5
              have hst6 := hst5.belowB hb6 hwB
              have hr6 := hr5.belowB hb6 hRl
              have hB6 : B ≤ w5.heap.size := by have := hb6.size; omega
              go_wp2_with fail
              go_roundg (s.size - k2)
              case measure => omega
              case rel => exact ⟨k2, f, out ++ t, rfl, by omega, hk2, by rw [List.length_append]; omega, by omega, HN, hr6, hst6, hB6, Or.inr hb5⟩
          · have q2 : ((x.toNat : Int) == 92) = false := by rw [beq_eq_false_iff_ne]; exact fun e => h92 (byte_eq e)
            have q3 : decide ((x.toNat : Int) < 32) = false := by rw [decide_eq_false_iff_not]; omega
            have HQ2 := HQ.out
            rw [hcons, textF_plain h34 h92 h32, ← hcons] at HQ2
            obtain ⟨o, ho⟩ : ∃ o, plainT (tail s q) = o := ⟨_, rfl⟩
            have hpl := fun w0 h0 => plain_any R s q w0 h0 hs hq2
            rw [ho] at HQ2 hpl
            have HQ3 := Lib.hid HQ2
            have hlen := tail_length s q
            clear HQ hx hcons HQ2 h34 h92 h32
            go_wp2_with fail
            refine hpeek.mono ?_
            rintro e' w3 ⟨rfl, hr3, hs3⟩
            go_wp2_with fail
            refine (hpl _ hr3).mono ?_
            rintro e' w4 ⟨hs4, hL⟩
            have hst4 := hs3.trans hs4
            have hst5 := hst.trans hst4
            have hbd4 := bld_keep hbd hst4 hRl
            have hB4 : B ≤ w4.heap.size := by have := hst4.size; omega
            have HQ4 := HQ3.out
            clear hpeek hpl HQ3
            match o, hL, HQ4, ho with
            | .error c, hL, HQ4, _ =>
              obtain rfl : e' = Errs c := hL
              have HE := Lib.hid (show O = .error c from HQ4.symm)
              clear HQ4
              go_wp2_with fail
              rw [HE.out]
              exact ⟨rfl, hst5, rfl⟩
            | .ok (t, r1), hL, HQ4, ho =>
              obtain ⟨rfl, k2, hk2, rfl, hr5⟩ := hL
              obtain ⟨htl, hsf, -⟩ := plainT_ok ho
              rw [tail_length, tail_length] at hsf
              have hlen2 := tail_length s k2
              have HN : Hid (textF f (out ++ t) (tail s k2) = O) := HQ4
              have hts : (ByteArray.mk t.toArray).size = t.length := by rw [Lib.size_eq]
              clear HQ4 ho
              go_wp2_with fail
              refine (Tryd.Builder_WriteString B B _ ⟨t.toArray⟩ w4 hbd4 (by rw [Lib.byteCells_length, hts]; omega) hB4).mono ?_
              rintro e' w5 ⟨rfl, hb5, hb6⟩
              rw [Bld.str_cells] at hb5
              have hst6 := hst5.belowB hb6 hwB
              have hr6 := hr5.belowB hb6 hRl
              have hB6 : B ≤ w5.heap.size := by have := hb6.size; omega
              go_wp2_with fail
              go_roundg (s.size - k2)
              case measure => omega
              case rel => exact ⟨k2, f, out ++ t, rfl, by omega, hk2, by rw [List.length_append]; omega, by omega, HN, hr6, hst6, hB6, Or.inr hb5⟩
end Go.Proofs.YtbjngdlkamdmdaaDoor.J7
namespace Go.Proofs.YtbjngdlkamdmdaaDoor.J7
open Go Go.RowKit Go.Joins Kit

theorem digC_nought {l : List UInt8} (h : pk l = 48) : ∃ r, l = 48 :: r ∧ digC l = .ok (0, r) := by
  cases l with
  | nil => cases h
  | cons c r =>
    obtain rfl : c = 48 := h
    exact ⟨r, rfl, by rw [digC, if_pos rfl]⟩
theorem digC_else {l : List UInt8} (h : pk l ≠ 48) : digC l = if (digsL l).length = 0 ∨ maxNum < numV 0 (digsL l) then .error 3 else .ok (numV 0 (digsL l), restL l) := by
  cases l with
  | nil => rw [digC]; exact (if_pos (Or.inl rfl)).symm
  | cons c r => rw [digC, if_neg (show ¬ c = 48 from h)]
theorem numV_ge (n : Nat) : ∀ l : List UInt8, n ≤ numV n l
  | [] => by rw [numV_nil]; exact Nat.le_refl _
  | c :: r => by
    rw [numV_cons]
    have := numV_ge (10 * n + (c.toNat - 48)) r
    omega
theorem digB_pk {s : ByteArray} {q : Nat} (h : digB (pk (tail s q)) = true) : q < s.size := by
  rcases Nat.lt_or_ge q s.size with h' | h'
  · exact h'
  · rw [pk_end h'] at h
    cases h
theorem digs_pk {l : List UInt8} (h : digB (pk l) = false) : digsL l = [] ∧ restL l = l := by
  cases l with
  | nil => exact ⟨rfl, rfl⟩
  | cons c r => exact ⟨digs_none h, rest_none h⟩
theorem digs_at {s : ByteArray} {q : Nat} (h : q < s.size) (hd : digB (pk (tail s q)) = true) : digsL (tail s q) = pk (tail s q) :: digsL (tail s (q + 1)) ∧ restL (tail s q) = restL (tail s (q + 1)) := by
  rw [pk_at h] at hd ⊢
  rw [tail_cons h]
  exact ⟨digs_head hd, rest_head hd⟩
theorem digB_iff' (c : UInt8) : digB c = true ↔ 48 ≤ c.toNat ∧ c.toNat ≤ 57 := by unfold digB; simp

set_option maxHeartbeats 4000000 in
set_option maxRecDepth 100000 in
theorem digits_any (R : Nat) (s : ByteArray) (i : Nat) (w : World) (h : Rc R s i w) (hs : s.size ≤ 65536) (hi : i ≤ s.size) :
    Calls Tryd.prog 70 #[.pointer (some ⟨R, 0, none⟩)] w fun e' w' => LeftC R s w (fun n : Nat => .int .i64 (n : Int)) (digC (tail s i)) e' w' := by
  have hsz : (s.size : Int) ≤ 65536 := by omega
  have hpeek := peek_any R s i w h hs
  obtain ⟨O, hO⟩ : ∃ O, digC (tail s i) = O := ⟨_, rfl⟩
  rw [hO]
  by_cases h48 : pk (tail s i) = 48
  · obtain ⟨r, e1, e2⟩ := digC_nought h48
    have hl : i < s.size := by
      rcases Nat.lt_or_ge i s.size with h' | h'
      · exact h'
      · rw [pk_end h'] at h48; cases h48
    have hre : r = tail s (i + 1) := by rw [tail_cons hl] at e1; exact ((List.cons.inj e1).2).symm
    have HO := Lib.hid (show O = .ok (0, tail s (i + 1)) by rw [← hO, e2, hre])
    rw [h48] at hpeek
    clear hO e1 e2 hre h48
    go_enter Tryd.func70, Tryd.ntmps70
    go_wp2_with fail
    refine hpeek.mono ?_
    rintro e' w1 ⟨rfl, hr1, hs1⟩
    have h1 := hr1.c1
    have hz := hr1.free 1
    go_wp2_with fail
    go_ret
    rw [HO.out]
    exact ⟨hs1.set 1 _, rfl, i + 1, by omega, rfl, by simpa using hr1.set1 (i + 1) ((i : Int) + 1) (by omega)⟩
  · obtain ⟨m, hm⟩ : ∃ m, tail s i = m := ⟨_, rfl⟩
    have HM := Lib.hid hm
    have HO := Lib.hid (show O = if (digsL m).length = 0 ∨ maxNum < numV 0 (digsL m) then .error 3 else .ok (numV 0 (digsL m), restL m) by rw [← hO, digC_else h48, hm])
    obtain ⟨c, hc⟩ : ∃ c, pk (tail s i) = c := ⟨_, rfl⟩
    rw [hc] at hpeek h48
    have g48 : ((c.toNat : Int) == 48) = false := by rw [beq_eq_false_iff_ne]; exact fun e => h48 (byte_eq e)
    have HC := Lib.hid hc
    clear hO hm hc h48
    go_enter Tryd.func70, Tryd.ntmps70
    go_wp2_with fail
    refine hpeek.mono ?_
    rintro e' w1 ⟨rfl, hr1, hs1⟩
    have h1 := hr1.c1
    have hp1 := peek_any R s i w1 hr1 hs
    rw [HC.out] at hp1
    go_wp2_with fail
    refine hp1.mono ?_
    rintro e' w2 ⟨rfl, hr2, hs2⟩
    have hst2 := hs1.trans hs2
    go_wp2_with fail
    go_loopg [4, 5] (s.size - i) (fun n v5 v6 wr => ∃ (V q : Nat) (x : UInt8), n = s.size - q ∧ v5 = .int .i64 (V : Int) ∧ v6 = .int .u8 (x.toNat : Int) ∧ i ≤ q ∧ q ≤ s.size ∧ (V : Int) ≤ 9007199254740991 ∧ Hid (pk (tail s q) = x ∧ numV V (digsL (tail s q)) = numV 0 (digsL m) ∧ restL (tail s q) = restL m ∧ (digsL (tail s q)).length + q = (digsL m).length + i) ∧ Rc R s q wr ∧ Step R w wr)
    case atStart => exact ⟨0, i, c, rfl, rfl, rfl, Nat.le_refl _, hi, by decide, by rw [HM.out]; exact Lib.hid ⟨by rw [← HM.out]; exact HC.out, rfl, rfl, rfl⟩, hr2, hst2⟩
    case round =>
      clear hp1 hpeek h1 hr1 hs1 hr2 hs2 hst2
      obtain ⟨V, q, x, rfl, rfl, rfl, hq1, hq2, hV, hrel, hr, hst⟩ := hrel
      have hxb := x.toNat_lt
      have h1 := hr.c1
      have hz := hr.free 1
      by_cases hd : digB x = true
      · have hdr := (digB_iff' x).1 hd
        have hq3 : q < s.size := digB_pk (by rw [hrel.out.1]; exact hd)
        obtain ⟨d1, d2⟩ := digs_at hq3 (by rw [hrel.out.1]; exact hd)
        rw [hrel.out.1] at d1
        have g1 : (48 : Int) ≤ x.toNat := by omega
        have g2 : (x.toNat : Int) ≤ 57 := by omega
        have hnx := hrel.out
        rw [d1, d2, numV_cons, List.length_cons] at hnx
        obtain ⟨-, n1, n2, n3⟩ := hnx
        by_cases hgr : (V : Int) * 10 + ((x.toNat : Int) - 48) ≤ 9007199254740991
        · obtain ⟨y, hy⟩ : ∃ y, pk (tail s (q + 1)) = y := ⟨_, rfl⟩
          have HN : Hid (pk (tail s (q + 1)) = y ∧ numV (10 * V + (x.toNat - 48)) (digsL (tail s (q + 1))) = numV 0 (digsL m) ∧ restL (tail s (q + 1)) = restL m ∧ (digsL (tail s (q + 1))).length + (q + 1) = (digsL m).length + i) := ⟨hy, n1, n2, by omega⟩
          clear n1 n2 n3 hy d1 d2 hdr hd
          go_wp2_with fail
          refine (peek_any R s (q + 1) _ (by simpa using hr.set1 (q + 1) ((q : Int) + 1) (by omega)) hs).mono ?_
          rintro e' w5 ⟨rfl, hr5, hs5⟩
          have hst5 := (hst.set 1 _).trans hs5
          rw [HN.out.1]
          go_wp2_with fail
          go_roundg (s.size - (q + 1))
          case measure => omega
          case rel => exact ⟨10 * V + (x.toNat - 48), q + 1, y, rfl, by go_num, rfl, by omega, by omega, by omega, HN, hr5, hst5⟩
        · have HE : Hid (O = .error 3) := by
            show O = _
            rw [HO.out, if_pos]
            right
            have := numV_ge (10 * V + (x.toNat - 48)) (digsL (tail s (q + 1)))
            rw [n1] at this
            unfold maxNum
            omega
          clear n1 n2 n3 d1 d2 hdr hd
          go_wp2_with fail
          rw [HE.out]
          exact ⟨rfl, hst, rfl⟩
      · have hd' : digB x = false := by simpa using hd
        obtain ⟨d1, d2⟩ := digs_pk (l := tail s q) (by rw [hrel.out.1]; exact hd')
        have hnx := hrel.out
        rw [d1, d2, numV_nil] at hnx
        obtain ⟨-, n1, n2, n3⟩ := hnx
        rw [List.length_nil] at n3
        have hdr : x.toNat < 48 ∨ 57 < x.toNat := by
          have : ¬ (48 ≤ x.toNat ∧ x.toNat ≤ 57) := fun e => hd ((digB_iff' x).2 e)
          omega
        by_cases hqi : q = i
        · have HE : Hid (O = .error 3) := by
            show O = _
            rw [HO.out, if_pos]
            left
            omega
          subst hqi
          clear n1 n2 n3 d1 d2 hd hd' hrel
          rcases hdr with g | g
          · have g1 : (x.toNat : Int) < 48 := by omega
            clear g
            go_wp2_with fail
            rw [HE.out]
            exact ⟨rfl, hst, rfl⟩
          · have g1 : 57 < (x.toNat : Int) := by omega
            clear g
            go_wp2_with fail
            rw [HE.out]
            exact ⟨rfl, hst, rfl⟩
        · have HE : Hid (O = .ok (V, tail s q)) := by
            show O = _
            rw [HO.out, if_neg]
            · rw [n1, n2]
            · rw [← n1]
              unfold maxNum
              omega
          have gq : ((q : Int) == (i : Int)) = false := by rw [beq_eq_false_iff_ne]; omega
          clear n1 n2 n3 d1 d2 hd hd' hrel
          rcases hdr with g | g
          · have g1 : (x.toNat : Int) < 48 := by omega
            clear g
            go_wp2_with fail
            go_ret
            rw [HE.out]
            exact ⟨hst, rfl, q, hq2, rfl, hr⟩
          · have g1 : 57 < (x.toNat : Int) := by omega
            clear g
            go_wp2_with fail
            go_ret
            rw [HE.out]
            exact ⟨hst, rfl, q, hq2, rfl, hr⟩

theorem numC_num {l r : List UInt8} {j : J} (h : numC l = .ok (j, r)) : j = numJ j.num := by
  unfold numC at h
  split at h
  · split at h
    · cases h
    · split at h
      · cases h
      · obtain rfl := congrArg Prod.fst (Except.ok.inj h); rfl
  · split at h
    · cases h
    · obtain rfl := congrArg Prod.fst (Except.ok.inj h); rfl
theorem digC_le {l r : List UInt8} {n : Nat} (h : digC l = .ok (n, r)) : n ≤ maxNum := by
  cases l with
  | nil => rw [digC] at h; cases h
  | cons c t =>
    rw [digC] at h
    split at h
    · obtain rfl := congrArg Prod.fst (Except.ok.inj h)
      exact Nat.zero_le _
    · split at h
      · cases h
      · rename_i hb
        obtain rfl := congrArg Prod.fst (Except.ok.inj h)
        exact Nat.not_lt.1 (fun e => hb (Or.inr e))
set_option maxHeartbeats 2000000 in
set_option maxRecDepth 100000 in
theorem cnumber_any (R : Nat) (s : ByteArray) (i : Nat) (w : World) (h : Rc R s i w) (hs : s.size ≤ 65536) (hi : i ≤ s.size) :
    Calls Tryd.prog 55 #[.pointer (some ⟨R, 0, none⟩)] w fun e' w' => LeftC R s w (fun j : J => .int .i64 j.num) (numC (tail s i)) e' w' := by
  have hsz : (s.size : Int) ≤ 65536 := by omega
  have hpeek := peek_any R s i w h hs
  obtain ⟨O, hO⟩ : ∃ O, numC (tail s i) = O := ⟨_, rfl⟩
  rw [hO]
  cases he : eatL 45 (tail s i) with
  | some m =>
    obtain ⟨hl, -, rfl⟩ := eat_place he
    rw [pk_eat he] at hpeek
    unfold numC at hO
    simp only [he] at hO
    clear he
    obtain ⟨o, ho⟩ : ∃ o, digC (tail s (i + 1)) = o := ⟨_, rfl⟩
    rw [ho] at hO
    go_enter Tryd.func55, Tryd.ntmps55
    go_wp2_with fail
    refine hpeek.mono ?_
    rintro e' w1 ⟨rfl, hr1, hs1⟩
    have h1 := hr1.c1
    have hz := hr1.free 1
    go_wp2_with fail
    refine (digits_any R s (i + 1) _ (by simpa using hr1.set1 (i + 1) ((i : Int) + 1) (by omega)) hs (by omega)).mono ?_
    rintro e' w2 ⟨hs2, hL⟩
    have hst2 := (hs1.set 1 _).trans hs2
    rw [ho] at hL
    match o, hL, hO, ho with
    | .error c, hL, hO, _ =>
      obtain rfl : e' = Errs c := hL
      have HE := Lib.hid (show O = .error c from hO.symm)
      clear hO
      go_wp2_with fail
      rw [HE.out]
      exact ⟨rfl, hst2, rfl⟩
    | .ok (n, r), hL, hO, ho =>
      obtain ⟨rfl, k, hk, rfl, hr2⟩ := hL
      have hn := digC_le ho
      unfold maxNum at hn
      have hnb : (n : Int) ≤ 9007199254740991 := by omega
      by_cases hn0 : n = 0
      · have HE := Lib.hid (show O = .error 3 by rw [← hO]; exact if_pos hn0)
        clear hO ho hn
        subst hn0
        go_wp2_with fail
        rw [HE.out]
        exact ⟨rfl, hst2, rfl⟩
      · have HE := Lib.hid (show O = .ok (numJ (-(n : Int)), tail s k) by rw [← hO]; exact if_neg hn0)
        have g : ((n : Int) == 0) = false := by rw [beq_eq_false_iff_ne]; omega
        clear hO ho hn
        go_wp2_with fail
        go_ret
        rw [HE.out]
        exact ⟨hst2, rfl, k, hk, rfl, hr2⟩
  | none =>
    have hp := pk_not he (by decide)
    obtain ⟨x, hx⟩ : ∃ x, pk (tail s i) = x := ⟨_, rfl⟩
    rw [hx] at hpeek hp
    have g : ((x.toNat : Int) == 45) = false := by rw [beq_eq_false_iff_ne]; exact fun e => hp (byte_eq e)
    unfold numC at hO
    simp only [he] at hO
    clear he hp hx
    obtain ⟨o, ho⟩ : ∃ o, digC (tail s i) = o := ⟨_, rfl⟩
    rw [ho] at hO
    go_enter Tryd.func55, Tryd.ntmps55
    go_wp2_with fail
    refine hpeek.mono ?_
    rintro e' w1 ⟨rfl, hr1, hs1⟩
    go_wp2_with fail
    refine (digits_any R s i _ hr1 hs hi).mono ?_
    rintro e' w2 ⟨hs2, hL⟩
    have hst2 := hs1.trans hs2
    rw [ho] at hL
    match o, hL, hO, ho with
    | .error c, hL, hO, _ =>
      obtain rfl : e' = Errs c := hL
      have HE := Lib.hid (show O = .error c from hO.symm)
      clear hO
      go_wp2_with fail
      rw [HE.out]
      exact ⟨rfl, hst2, rfl⟩
    | .ok (n, r), hL, hO, ho =>
      obtain ⟨rfl, k, hk, rfl, hr2⟩ := hL
      have HE := Lib.hid (show O = .ok (numJ (n : Int), tail s k) by rw [← hO])
      clear hO ho
      go_wp2_with fail
      go_ret
      rw [HE.out]
      exact ⟨hst2, rfl, k, hk, rfl, hr2⟩
end Go.Proofs.YtbjngdlkamdmdaaDoor.J7
namespace Go.Proofs.YtbjngdlkamdmdaaDoor.J7
open Go Go.RowKit Go.Joins Kit

/-- What a function of the program's reader that reads a value leaves: the value lies in new blocks. -/
def ValLeft (R : Nat) (s : ByteArray) (w : World) (o : Out J) (e' : Ending) (w' : World) : Prop :=
  Step R w w' ∧ match o with
    | .ok (j, r) => ∃ c0 c1 c2 c3 c4, e' = .returned (.agg #[c0, c1, c2, c3, c4]) ∧ NodeAt (fun g => w.heap.size ≤ g) w' j (.agg #[c0, c1, c2, c3, c4]) ∧ ∃ k : Nat, k ≤ s.size ∧ r = tail s k ∧ Rc R s k w'
    | .error c => e' = Errs c
/-- The contract of value within a others, n more to come. -/
def ValOk (s : ByteArray) (n a : Nat) : Prop := ∀ (R i : Nat) (w : World), Rc R s i w → i ≤ s.size →
  Calls Tryd.prog 33 #[.pointer (some ⟨R, 0, none⟩), .int .i64 (a : Int)] w fun e' w' => ValLeft R s w (valueG numC n (tail s i)) e' w'
theorem infoN : (Tryd.prog.info? 25).map (fun i => (i.zero, i.size, i.bytes)) = some (some (.agg #[.int .i64 0, .int .i64 0, .string ⟨#[]⟩, .slice none 0 0, .slice none 0 0]), 5, 80) := by kernel_rfl
theorem infoS : (Tryd.prog.info? 9).map (fun i => (i.zero, i.size, i.bytes)) = some (some (.string ⟨#[]⟩), 1, 16) := by kernel_rfl
theorem own_keep5 {w w' : World} {B size : Nat} {e : TypeId} {v : Value} {n : Nat} {xs : List Value} (h : w.ownsRow B e size v n xs) (hk : ∀ g, v.ownBlock = some g → g < w.heap.size → w'.heap[g]? = w.heap[g]?) : w'.ownsRow B e size v n xs := by
  obtain ⟨h1, h2⟩ := h
  refine ⟨h1, ?_⟩
  rcases h2 with h2 | ⟨g, cap, cur, hv, hg, hh, r⟩
  · exact Or.inl h2
  · exact Or.inr ⟨g, cap, cur, hv, hg, by rw [hk g (by rw [hv]; rfl) (Array.getElem?_eq_some_iff.1 hh).1]; exact hh, r⟩
theorem own_ne {w : World} {B B' size size' : Nat} {e e' : TypeId} {v v' : Value} {n n' : Nat} {xs xs' : List Value} (h : w.ownsRow B e size v n xs) (h' : w.ownsRow B' e' size' v' n' xs') (he : e ≠ e') {g : Nat} (hg : v.ownBlock = some g) : v'.ownBlock ≠ some g := by
  intro hg'
  rcases h.2 with ⟨rfl, _⟩ | ⟨g1, cap, cur, rfl, _, hh, _⟩
  · cases hg
  · rcases h'.2 with ⟨rfl, _⟩ | ⟨g2, cap2, cur2, rfl, _, hh2, _⟩
    · cases hg'
    · simp only [Value.ownBlock, Option.some.injEq] at hg hg'
      subst hg
      subst hg'
      rw [hh] at hh2
      injection hh2 with hh2
      injection hh2 with _ hh2
      exact he hh2
/-- The kids so far: a row of the call's own, from block B on, and what its cells lead to, in other blocks from B on. -/
def Kids (B : Nat) (X : Option Nat) (v : Value) (kids : List J) (w : World) : Prop :=
  ∃ cs, w.ownsRow B 25 5 v kids.length cs ∧ KidsAt (fun g => B ≤ g ∧ v.ownBlock ≠ some g ∧ X ≠ some g) w kids cs
theorem kids_empty (B : Nat) (X : Option Nat) (w : World) : Kids B X (.slice none 0 0) [] w := ⟨[], World.ownsRow_nil _ _ _ _, kids_nil⟩
theorem Kids.same {B : Nat} {X : Option Nat} {v : Value} {kids : List J} {w w' : World} (h : Kids B X v kids w) (hk : ∀ g, B ≤ g → g < w.heap.size → w'.heap[g]? = w.heap[g]?) : Kids B X v kids w' := by
  obtain ⟨cs, h1, h2⟩ := h
  exact ⟨cs, own_keep5 h1 (fun g hg hl => hk g (h1.lt g hg).1 hl), h2.keep (fun g hg hl => ⟨hg, hk g hg.1 hl⟩)⟩
theorem Kids.read {B : Nat} {X : Option Nat} {v : Value} {kids : List J} {w : World} (h : Kids B X v kids w) (P : Nat → Prop) (hP : ∀ g, B ≤ g → P g) : ∃ cs, CellsAt P w kids.length v cs ∧ KidsAt P w kids cs := by
  obtain ⟨cs, h1, h2⟩ := h
  exact ⟨cs, cells_own h1 hP, h2.keep (kept_mono (fun g hg => hP g hg.1))⟩
theorem own_form {w : World} {B size : Nat} {e : TypeId} {v : Value} {n : Nat} {xs : List Value} (h : w.ownsRow B e size v n xs) : ∃ ao cap, v = .slice ao n cap := by
  rcases h.2 with ⟨rfl, h0⟩ | ⟨g, cap, cur, rfl, _⟩
  · exact ⟨none, 0, by rw [h0]⟩
  · exact ⟨_, _, rfl⟩
theorem Kids.form {B : Nat} {X : Option Nat} {v : Value} {kids : List J} {w : World} (h : Kids B X v kids w) : ∃ ao cap, v = .slice ao kids.length cap := by
  obtain ⟨cs, h1, _⟩ := h
  exact own_form h1
theorem cells_one {P : Nat → Prop} {n : Nat} {w : World} {v : Value} {cs : List Value} (h : CellsAt P w n v cs) : v.oneCell' = true := by
  rcases h with ⟨⟨a, m, rfl⟩, _⟩ | ⟨g, o, cap, rfl, _⟩ <;> rfl
/-- append of a value, as a step of a region that draws. -/
theorem Kids.step {ops : Array Oper} {o : Oper} {a : Act} {K : Act → World → Prop} {Q : Exit → Act → World → Prop} {E : Prop} (hgd : o.guard = none) (sl x : Operand)
    (ho : o.op = .call { callee := .builtin .append, args := #[sl, x], argTypes := #[23, 23] })
    (B : Nat) (X : Option Nat) (w : World) (v : Value) (kids : List J) (hK : Kids B X v kids w) (j : J) (c0 c1 c2 c3 c4 : Value) (S : Nat) (hn : NodeAt (fun g => S ≤ g) w j (.agg #[c0, c1, c2, c3, c4])) (hB : B ≤ S) (hv : ∀ g, v.ownBlock = some g → g < S) (hX : ∀ g, X = some g → g < S)
    (b cap : Nat) (fr : Nat × Nat) (hblk : w.heap[b]? = some (.cells #[c0, c1, c2, c3, c4] 25 fr)) (hs : a.eval sl = v) (hx : a.eval x = .slice (some ⟨b, 0, none⟩) 1 cap) (hlen : kids.length ≤ 65536) (hsz : B ≤ w.heap.size)
    (h : ∀ g c w', Kids B X (.slice (some ⟨g, 0, none⟩) (kids.length + 1) c) (kids ++ [j]) w' → w.grownBy w' v.ownBlock → (v.ownBlock = some g ∨ g = w.heap.size) → K (a.put o.dst (.slice (some ⟨g, 0, none⟩) (kids.length + 1) c)) w') :
    if Region.wanted o (yielded ops a.tmps) = true then Oper.wp Tryd.prog o a w K Q else E := by
  obtain ⟨i0, hi, hz0, hz1, hz2⟩ := info_parts infoN
  obtain ⟨cs, hown, hkids⟩ := hK
  refine step_append_lies w hgd sl x 23 ho B 25 i0 _ 5 80 Tryd.underlying23 hi hz0 hz1 hz2 rfl (by decide) v kids.length cs hs hown ⟨b, 0, none⟩ 1 cap [c0, c1, c2, c3, c4] hx rfl ?_ ?_ (by decide) ?_ ?_ hsz w.heap.size rfl ?_
  · intro k u hk
    exact World.news_of_block hblk k u hk
  · obtain ⟨jk, jn, jt, jkeys, jkids⟩ := j
    rw [NodeAt] at hn
    obtain ⟨kv, vv, e, q1, cs', q2, _⟩ := hn
    injection e with e
    injection e with e
    injection e with e0 e
    injection e with e1 e
    injection e with e2 e
    injection e with e3 e
    injection e with e4 e
    subst e0 e1 e2 e3 e4
    intro u hu
    simp only [List.mem_cons, List.not_mem_nil, or_false] at hu
    rcases hu with rfl | rfl | rfl | rfl | rfl
    · rfl
    · rfl
    · rfl
    · exact cells_one q1
    · exact cells_one q2
  · unfold maxLen; omega
  · omega
  · intro g c w' ho' hg hat _
    refine h g c w' ⟨cs ++ [c0, c1, c2, c3, c4], ?_, kids_snoc ?_ ?_⟩ hg hat
    · rw [List.length_append]; exact ho'
    · refine hn.keep (fun k hk hl => ?_)
      have hk' : S ≤ k := hk
      have q1 : (Value.slice (some ⟨g, 0, none⟩) (kids.length + 1) c).ownBlock ≠ some k := by
        intro e
        have hgk : g = k := by simpa [Value.ownBlock] using e
        subst hgk
        rcases hat with hat | hat
        · have := hv g hat
          omega
        · omega
      have q2 : some k ≠ v.ownBlock := by
        intro e
        have := hv k e.symm
        omega
      exact ⟨⟨Nat.le_trans hB hk, q1, fun e => by have := hX k e; omega⟩, hg.block k hl q2⟩
    · refine hkids.keep (fun k hk hl => ?_)
      have q1 : (Value.slice (some ⟨g, 0, none⟩) (kids.length + 1) c).ownBlock ≠ some k := by
        intro e
        have hgk : g = k := by simpa [Value.ownBlock] using e
        subst hgk
        rcases hat with hat | hat
        · exact hk.2.1 hat
        · omega
      exact ⟨⟨hk.1, q1, hk.2.2⟩, hg.block k hl (fun e => hk.2.1 e.symm)⟩
theorem skip_skip : ∀ l : List UInt8, skipL (skipL l) = skipL l
  | [] => rfl
  | c :: r => by
    by_cases h : blank c = true
    · rw [show skipL (c :: r) = skipL r by rw [skipL, if_pos h]]
      exact skip_skip r
    · rw [show skipL (c :: r) = c :: r by rw [skipL, if_neg h]]
      rw [skipL, if_neg h]
theorem tail_le {s : ByteArray} {k q : Nat} (hk : k ≤ s.size) (hq : q ≤ s.size) (h : tail s k <:+ tail s q) : q ≤ k := by
  have := h.length_le
  rw [tail_length, tail_length] at this
  omega
theorem val_place {s : ByteArray} {n k q : Nat} {j : J} (h : valueG numC n (tail s q) = .ok (j, tail s k)) (hk : k ≤ s.size) (hq : q ≤ s.size) : q ≤ k :=
  tail_le hk hq (valueG_suffix (fun _ _ _ h => (numC_suffix h).1) n _ _ _ h)
theorem items_err {val : List UInt8 → Out J} {f : Nat} {kids : List J} {l : List UInt8} {c : Nat} (h : val l = .error c) (hf : l.length < f) : itemsG val false f [] kids l = .error c := by
  obtain ⟨f, rfl⟩ : ∃ g, f = g + 1 := ⟨f - 1, by omega⟩
  rw [itemsG]
  show (match val l with
    | .error e => (.error e : Out J)
    | .ok (j, l2) => _) = _
  rw [h]
theorem items_ok {val : List UInt8 → Out J} {f : Nat} {kids : List J} {l r : List UInt8} {j : J} (h : val l = .ok (j, r)) : itemsG val false (f + 1) [] kids l = match eatL 93 (skipL r) with
    | some r1 => .ok (listJ false [] (kids ++ [j]), r1)
    | none => match eatL 44 (skipL r) with
      | some r1 => itemsG val false f [] (kids ++ [j]) r1
      | none => .error 3 := by
  rw [itemsG]
  show (match val l with
    | .error e => (.error e : Out J)
    | .ok (j, l2) => _) = _
  rw [h]
  rfl


/-- The kids stay where a row of another type grows, in block X. -/
theorem Kids.beside {B : Nat} {X X' : Option Nat} {v : Value} {kids : List J} {w w' : World} (h : Kids B X v kids w) (hg : w.grownBy w' X) (hne : ∀ g, v.ownBlock = some g → X ≠ some g) (hX : ∀ g, X' = some g → X = some g ∨ g = w.heap.size) : Kids B X' v kids w' := by
  obtain ⟨cs, h1, h2⟩ := h
  refine ⟨cs, own_keep5 h1 (fun g hv hl => hg.block g hl (fun e => hne g hv e.symm)), h2.keep (fun k hk hl => ⟨⟨hk.1, hk.2.1, fun e => ?_⟩, hg.block k hl (fun e => hk.2.2 e.symm)⟩)⟩
  rcases hX k e with e | e
  · exact hk.2.2 e
  · omega
/-- append of a key, as a step of a region that draws. -/
theorem key_step {ops : Array Oper} {o : Oper} {a : Act} {K : Act → World → Prop} {Q : Exit → Act → World → Prop} {E : Prop} (hgd : o.guard = none) (sl x : Operand)
    (ho : o.op = .call { callee := .builtin .append, args := #[sl, x], argTypes := #[22, 22] })
    (B : Nat) (w : World) (v : Value) (keys : List ByteArray) (hown : w.ownsRow B 9 1 v keys.length (strs keys)) (kb : ByteArray)
    (b cap : Nat) (fr : Nat × Nat) (hblk : w.heap[b]? = some (.cells #[.string kb] 9 fr)) (hs : a.eval sl = v) (hx : a.eval x = .slice (some ⟨b, 0, none⟩) 1 cap) (hlen : keys.length ≤ 65536) (hsz : B ≤ w.heap.size)
    (h : ∀ g c w', w'.ownsRow B 9 1 (.slice (some ⟨g, 0, none⟩) (keys.length + 1) c) (keys ++ [kb]).length (strs (keys ++ [kb])) → w.grownBy w' v.ownBlock → (v.ownBlock = some g ∨ g = w.heap.size) → K (a.put o.dst (.slice (some ⟨g, 0, none⟩) (keys.length + 1) c)) w') :
    if Region.wanted o (yielded ops a.tmps) = true then Oper.wp Tryd.prog o a w K Q else E := by
  obtain ⟨i0, hi, hz0, hz1, hz2⟩ := info_parts infoS
  refine step_append_lies w hgd sl x 22 ho B 9 i0 _ 1 16 Tryd.underlying22 hi hz0 hz1 hz2 rfl (by decide) v keys.length (strs keys) hs hown ⟨b, 0, none⟩ 1 cap [.string kb] hx rfl ?_ ?_ (by decide) ?_ ?_ hsz w.heap.size rfl ?_
  · intro k u hk
    exact World.news_of_block hblk k u hk
  · intro u hu
    simp only [List.mem_cons, List.not_mem_nil, or_false] at hu
    subst hu
    rfl
  · unfold maxLen; omega
  · omega
  · intro g c w' ho' hg hat _
    refine h g c w' ?_ hg hat
    rw [List.length_append, List.length_singleton]
    unfold strs at ho' ⊢
    rw [List.map_append]
    exact ho'
end Go.Proofs.YtbjngdlkamdmdaaDoor.J7
namespace Go.Proofs.YtbjngdlkamdmdaaDoor.J7
open Go Go.RowKit Go.Joins Kit

set_option maxHeartbeats 4000000 in
set_option maxRecDepth 100000 in
theorem array_any (s : ByteArray) (n a : Nat) (hs : s.size ≤ 65536) (ha : a < 24) (hv : ValOk s n (a + 1)) (R i : Nat) (w : World) (h : Rc R s i w) (hi : i < s.size) :
    Calls Tryd.prog 53 #[.pointer (some ⟨R, 0, none⟩), .int .i64 (a : Int)] w fun e' w' => ValLeft R s w (listG (valueG numC n) false (tail s (i + 1))) e' w' := by
  have hsz : (s.size : Int) ≤ 65536 := by omega
  have hai : (a : Int) < 24 := by omega
  have hRl := h.lt
  obtain ⟨G0, hG0⟩ : ∃ G, w.heap.size = G := ⟨_, rfl⟩
  obtain ⟨O, hO⟩ : ∃ O, listG (valueG numC n) false (tail s (i + 1)) = O := ⟨_, rfl⟩
  rw [hO]
  unfold listG at hO
  have HO := Lib.hid hO
  clear hO
  have hz0 := newZ_bx w
  rw [hG0] at hz0
  have hr0 : Rc R s i (newZ w) := h.alloc _
  have hst0 : Step R w (newZ w) := newZ_step (Step.refl R w)
  go_enter Tryd.func53, Tryd.ntmps53
  go_wp2_with fail
  refine (enter_any R s i a (newZ w) hr0 hs (by omega) ha).mono ?_
  rintro e' w1 ⟨rfl, hs1, hr1⟩
  have hst1 := hst0.trans hs1
  have hb01 := hz0.keep hs1 (by omega)
  obtain ⟨G1, hG1⟩ : ∃ G, w1.heap.size = G := ⟨_, rfl⟩
  have h01 : G0 < G1 := by rw [← hG1]; exact hb01.lt
  have hr2 : Rc R s (i + 1) (newN w1 6) := ⟨by rw [newN_block _ _ _ hr1.lt]; exact hr1.blk⟩
  have hst2 := newN_step hst1 6
  have hb02 := hb01.same (newN_block w1 6 G0 (by omega))
  have hb12 := newN_bx w1 6
  have hs2 := newN_size w1 6
  rw [hG1] at hb12 hs2
  clear hr0 hst0 hz0 hr1 hst1 hb01 hs1
  cases hc : eatL 93 (skipL (tail s (i + 1))) with
  | some r =>
    have HE : Hid (O = .ok (listJ false [] [], r)) := by
      show O = _
      rw [← HO.out]
      show (match eatL 93 (skipL (tail s (i + 1))) with
        | some r => (.ok (listJ false [] [], r) : Out J)
        | none => _) = _
      rw [hc]
    have HC := Lib.hid hc
    clear hc HO
    go_wp2_with fail
    (try rw [hG1])
    refine (found_yes R s (i + 1) 93 r (newN w1 6) hr2 hs (by omega) HC.out).mono ?_
    rintro e' w3 ⟨rfl, hs3, k, hk1, hk2, hk, hr3⟩
    have hst3 := hst2.trans hs3
    have hb03 := hb02.keep hs3 (by omega)
    have hb13 := hb12.keep hs3 (by omega)
    have p0 := hb13.p0
    have p1 := hb13.p1
    have p2 := hb13.p2
    have p3 := hb13.p3
    have p4 := hb13.p4
    have q0 := hb03.p0
    have q1 := hb03.p1
    have q2 := hb03.p2
    have q3 := hb03.p3
    have q4 := hb03.p4
    have f0 := hb03.free 0
    have f1 := hb03.free 1
    have f2 := hb03.free 2
    have f3 := hb03.free 3
    have f4 := hb03.free 4
    go_wp2_with fail
    refine bodyPost_ret (node_result rfl _ rfl (hb03.setAll _ _ _ _ _)) rfl ?_
    rw [HE.out]
    exact ⟨putN_step hst3 (by omega) _ _ _ _ _, _, _, _, _, _, rfl, node_plain _ _ _ _ _, k, hk2, hk, ⟨(putN_block w3 G0 _ _ _ _ _ R (by omega)).trans hr3.blk⟩⟩
  | none =>
    have HC := Lib.hid hc
    have HQ : Hid (itemsG (valueG numC n) false ((tail s (i + 1)).length + 1) [] [] (skipL (tail s (i + 1))) = O) := by
      show _ = O
      rw [← HO.out]
      show _ = (match eatL 93 (skipL (tail s (i + 1))) with
        | some r => (.ok (listJ false [] [], r) : Out J)
        | none => _)
      rw [hc]
    clear hc HO
    go_wp2_with fail
    (try rw [hG1])
    refine (found_no R s (i + 1) 93 (newN w1 6) hr2 hs (by omega) (by decide) HC.out).mono ?_
    rintro e' w3 ⟨rfl, hs3, k, hk1, hk2, hk, hr3⟩
    have hst3 := hst2.trans hs3
    have hb03 := hb02.keep hs3 (by omega)
    have hb13 := hb12.keep hs3 (by omega)
    have HQ3 : Hid (itemsG (valueG numC n) false ((tail s (i + 1)).length + 1) [] [] (tail s k) = O) := by
      show _ = O
      rw [← hk]; exact HQ.out
    have hl3 : (tail s k).length < (tail s (i + 1)).length + 1 := by rw [tail_length, tail_length]; omega
    obtain ⟨B, hB⟩ : ∃ B, w3.heap.size = B := ⟨_, rfl⟩
    have h1B : G1 < B := by rw [← hB]; exact hb13.lt
    clear hst2 hb02 hb12 hs2 hr2 HQ HC hs3 hk
    go_wp2_with fail
    go_loopg [] (s.size - k) (fun m wr => ∃ (q f : Nat) (kids : List J) (v : Value), m = s.size - q ∧ q ≤ s.size ∧ kids.length ≤ q ∧ (tail s q).length < f ∧ Hid (itemsG (valueG numC n) false f [] kids (tail s q) = O) ∧ Rc R s q wr ∧ Step R w wr ∧ B ≤ wr.heap.size ∧ Bx G0 (.int .i64 0) (.int .i64 0) (.string { data := #[] }) (.slice none 0 0) (.slice none 0 0) wr ∧ Bx G1 (.int .i64 6) (.int .i64 0) (.string { data := #[] }) (.slice none 0 0) v wr ∧ Kids B none v kids wr)
    case atStart => exact ⟨k, _, [], _, rfl, hk2, Nat.zero_le _, hl3, HQ3, hr3, hst3, by omega, hb03, hb13, kids_empty _ _ _⟩
    case round =>
      clear hst3 hb03 hb13 hr3 HQ3 hl3
      obtain ⟨q, f, kids, v, rfl, hq, hkl, hf, HQ, hr, hst, hBs, hb0, hb1, hkd⟩ := hrel
      have hval := hv R q wr.drew ⟨hr.blk⟩ hq
      rw [show ((a + 1 : Nat) : Int) = (a : Int) + 1 by omega] at hval
      have hwr : IntKind.i64.wrap ((a : Int) + 1) = (a : Int) + 1 := by rw [IntKind.wrap_i64]; omega
      have hvn := fun g (hg : v.ownBlock = some g) => show g < wr.heap.size from ((hkd.choose_spec.1).lt g hg).2
      have l4 : wr.drew.cell? ⟨G1, 4, none⟩ = some v := hb1.p4
      obtain ⟨o, ho⟩ : ∃ o, valueG numC n (tail s q) = o := ⟨_, rfl⟩
      rw [ho] at hval
      match o, ho, hval with
      | .error c, ho, hval =>
        have HE := Lib.hid (show O = .error c by rw [← HQ.out]; exact items_err ho hf)
        clear HQ ho
        go_upto_region 5 with fail
        refine wp_region_any (by kernel_rfl) ?_
        try (change wpAny _ _ _ _ _ _ _ (World.drew _))
        refine wpAny_take (i := 0) (v := ?_) rfl (by kernel_rfl) (by kernel_rfl) (by kernel_rfl) (fun _ _ _ h => h) (Or.inl ⟨by rfl, ?_⟩) ?_
        rotate_left 1
        · (intro w; go_simp) <;> with_reducible rfl
        refine wpAny_take (i := 2) (v := ?_) rfl (by kernel_rfl) (by kernel_rfl) (by kernel_rfl) (fun _ _ _ h => h) (Or.inl ⟨by rfl, ?_⟩) ?_
        rotate_left 1
        · (intro w; go_simp) <;> with_reducible rfl
        refine wpAny_take (i := 3) (v := ?_) rfl (by kernel_rfl) (by kernel_rfl) (by kernel_rfl) (fun _ _ _ h => h) (Or.inl ⟨by rfl, ?_⟩) ?_
        rotate_left 1
        · (intro w; go_simp) <;> with_reducible rfl
        refine wpAny_take (i := 4) (v := ?_) rfl (by kernel_rfl) (by kernel_rfl) (by kernel_rfl) (fun _ _ _ h => h) (Or.inl ⟨by rfl, ?_⟩) ?_
        rotate_left 1
        · (intro w; go_simp) <;> with_reducible rfl
        refine wpAny_ready (rs := [1, 5]) (by kernel_rfl) (by simp) ?_
        refine AllReady.cons rfl (fun K hK => ?_) (AllReady.cons rfl (fun K hK => ?_) AllReady.nil)
        · go_simp
          refine hK _ _ ?_
          clear hK K
          refine wpAny_ready (rs := [5]) (by kernel_rfl) (by simp) ?_
          refine AllReady.cons rfl (fun K hK => ?_) AllReady.nil
          go_simp
          go_wp2_with fail
          refine hval.mono ?_
          rintro e' w3 ⟨hs3, hL⟩
          obtain rfl : e' = Errs c := hL
          have hst4 : Step R w w3 := Step.trans (w' := wr.drew) hst.drew hs3
          go_wp2_with fail
          rw [HE.out]
          exact ⟨rfl, hst4, rfl⟩
        · go_simp
          go_wp2_with fail
          refine hval.mono ?_
          rintro e' w3 ⟨hs3, hL⟩
          obtain rfl : e' = Errs c := hL
          have hst4 : Step R w w3 := Step.trans (w' := wr.drew) hst.drew hs3
          go_wp2_with fail
          rw [HE.out]
          exact ⟨rfl, hst4, rfl⟩
      | .ok (j, r), ho, hval =>
        obtain ⟨f, rfl⟩ : ∃ g, f = g + 1 := ⟨f - 1, by omega⟩
        have HQ2 := Lib.hid ((items_ok (f := f) (kids := kids) ho).symm.trans HQ.out)
        have HV := Lib.hid ho
        clear HQ ho
        go_upto_region 5 with fail
        go_cut [] from 13 (fun wx => ∃ k4 v4, Hid (r = tail s k4) ∧ k4 ≤ s.size ∧ Rc R s k4 wx ∧ Step R w wx ∧ B ≤ wx.heap.size ∧ Bx G0 (.int .i64 0) (.int .i64 0) (.string { data := #[] }) (.slice none 0 0) (.slice none 0 0) wx ∧ Bx G1 (.int .i64 6) (.int .i64 0) (.string { data := #[] }) (.slice none 0 0) v4 wx ∧ Kids B none v4 (kids ++ [j]) wx)
        case first =>
          refine wp_region_any (by kernel_rfl) ?_
          try (change wpAny _ _ _ _ _ _ _ (World.drew _))
          refine wpAny_take (i := 0) (v := ?_) rfl (by kernel_rfl) (by kernel_rfl) (by kernel_rfl) (fun _ _ _ h => h) (Or.inl ⟨by rfl, ?_⟩) ?_
          rotate_left 1
          · (intro w; go_simp) <;> with_reducible rfl
          refine wpAny_take (i := 2) (v := ?_) rfl (by kernel_rfl) (by kernel_rfl) (by kernel_rfl) (fun _ _ _ h => h) (Or.inl ⟨by rfl, ?_⟩) ?_
          rotate_left 1
          · (intro w; go_simp) <;> with_reducible rfl
          refine wpAny_take (i := 3) (v := ?_) rfl (by kernel_rfl) (by kernel_rfl) (by kernel_rfl) (fun _ _ _ h => h) (Or.inl ⟨by rfl, ?_⟩) ?_
          rotate_left 1
          · (intro w; go_simp) <;> with_reducible rfl
          refine wpAny_take (i := 4) (v := ?_) rfl (by kernel_rfl) (by kernel_rfl) (by kernel_rfl) (fun _ _ _ h => h) (Or.inl ⟨by rfl, ?_⟩) ?_
          rotate_left 1
          · (intro w; go_simp) <;> with_reducible rfl
          refine wpAny_ready (rs := [1, 5]) (by kernel_rfl) (by simp) ?_
          refine AllReady.cons rfl (fun K hK => ?_) (AllReady.cons rfl (fun K hK => ?_) AllReady.nil)
          · go_simp
            refine hK _ _ ?_
            clear hK K
            refine wpAny_ready (rs := [5]) (by kernel_rfl) (by simp) ?_
            refine AllReady.cons rfl (fun K hK => ?_) AllReady.nil
            go_simp
            go_wp2_with fail
            refine hval.mono ?_
            rintro e' w4 ⟨hs4, c0, c1, c2, c3, c4, rfl, hn4, k4, hk4, hk4e, hr4⟩
            have hst4 : Step R w w4 := Step.trans (w' := wr.drew) hst.drew hs4
            have hb04 : Bx G0 _ _ _ _ _ w4 := hb0.drew.keep hs4 (by omega)
            have hb14 : Bx G1 _ _ _ _ _ w4 := hb1.drew.keep hs4 (by omega)
            have hkd4 : Kids B none v kids w4 := hkd.same (fun g hg hl => hs4.block g hl (by omega))
            have hz4 : wr.heap.size ≤ w4.heap.size := hs4.size
            have m4 : w4.cell? ⟨G1, 4, none⟩ = some v := hb14.p4
            have m5 : (w4.alloc (Obj.cells #[c0, c1, c2, c3, c4] 25)).cell? ⟨G1, 4, none⟩ = some v := (hb14.alloc _).p4
            go_wp2_with fail
            refine wpAny_ready (rs := [6]) (by kernel_rfl) (by simp) ?_
            refine AllReady.cons rfl (fun K hK => ?_) AllReady.nil
            go_simp
            refine hK _ _ ?_
            clear hK K
            refine wpAny_ready (rs := [7]) (by kernel_rfl) (by simp) ?_
            refine AllReady.cons rfl (fun K hK => ?_) AllReady.nil
            refine Kids.step rfl (.tmp 14) (.tmp 19) rfl B none _ v kids (hkd4.same (fun g hg hl => Below.heap_alloc w4 (Obj.cells #[c0, c1, c2, c3, c4] 25) g hl)) j c0 c1 c2 c3 c4 wr.heap.size (hn4.keep (fun g hg hl => ⟨hg, Below.heap_alloc w4 _ g hl⟩)) hBs hvn (fun g e => by cases e) w4.heap.size _ (0, 0) (Kit.fresh_block w4 _ _) (by first | rfl | simp [Act.eval, Act.put]) (by first | rfl | simp [Act.eval, Act.put]) (by omega) (by simp; omega) ?_
            intro g5 cap5 w5 hkd5 hgr5 hat5
            have hsz5 : w4.heap.size + 1 ≤ w5.heap.size := by have := hgr5.size; simpa using this
            have hne0 : v.ownBlock ≠ some G0 := fun e => by have := (hkd4.choose_spec.1.lt G0 e).1; omega
            have hne1 : v.ownBlock ≠ some G1 := fun e => by have := (hkd4.choose_spec.1.lt G1 e).1; omega
            have hneR : v.ownBlock ≠ some R := fun e => by have := (hkd4.choose_spec.1.lt R e).1; omega
            have hold5 : ∀ g, g < w4.heap.size → v.ownBlock ≠ some g → w5.heap[g]? = w4.heap[g]? := fun g hg hn => (hgr5.block g (by simp; omega) (fun e => hn e.symm)).trans (Below.heap_alloc w4 _ g hg)
            have hb05 := hb04.same (hold5 G0 hb04.lt hne0)
            have hb15 := hb14.same (hold5 G1 hb14.lt hne1)
            have hr5 : Rc R s k4 w5 := ⟨by rw [hold5 R hr4.lt hneR]; exact hr4.blk⟩
            have hst5 : Step R w w5 := ⟨hgr5.os.trans hst4.os, hgr5.tape.trans hst4.tape, hgr5.output.trans hst4.output, by have := hst4.size; omega, fun g hg hn => (hold5 g (by have := hst4.size; omega) (fun e => by have := (hkd4.choose_spec.1.lt g e).1; omega)).trans (hst4.block g hg hn)⟩
            have m6 := hb15.p4
            have m7 := hb15.free 4
            refine hK _ _ ?_
            clear hK K
            refine wpAny_take (i := 8) (v := ?_) rfl (by kernel_rfl) (by kernel_rfl) (by kernel_rfl) (fun _ _ _ h => h) (Or.inl ⟨by rfl, ?_⟩) ?_
            rotate_left 1
            · (intro w; go_simp) <;> with_reducible rfl
            refine wpAny_ready (rs := [9]) (by kernel_rfl) (by simp) ?_
            refine AllReady.cons rfl (fun K hK => ?_) AllReady.nil
            go_simp
            refine hK _ _ ?_
            clear hK K
            refine wpAny_done (by kernel_rfl) ?_ _
            go_wp2_with fail
            go_meet
            exact ⟨k4, _, hk4e, hk4, ⟨by rw [Below.heap_setCell _ _ _ _ (by show R ≠ G1; omega)]; exact hr5.blk⟩, hst5.setNew (by omega) _ _, by simp [World.setCell]; omega, hb05.same (Below.heap_setCell _ _ _ _ (by show G0 ≠ G1; omega)), hb15.set4 _, hkd5.same (fun g hg hl => Below.heap_setCell _ _ _ _ (by show g ≠ G1; omega))⟩
          · go_simp
            go_wp2_with fail
            refine hval.mono ?_
            rintro e' w4 ⟨hs4, c0, c1, c2, c3, c4, rfl, hn4, k4, hk4, hk4e, hr4⟩
            have hst4 : Step R w w4 := Step.trans (w' := wr.drew) hst.drew hs4
            have hb04 : Bx G0 _ _ _ _ _ w4 := hb0.drew.keep hs4 (by omega)
            have hb14 : Bx G1 _ _ _ _ _ w4 := hb1.drew.keep hs4 (by omega)
            have hkd4 : Kids B none v kids w4 := hkd.same (fun g hg hl => hs4.block g hl (by omega))
            have hz4 : wr.heap.size ≤ w4.heap.size := hs4.size
            have m4 : w4.cell? ⟨G1, 4, none⟩ = some v := hb14.p4
            have m5 : (w4.alloc (Obj.cells #[c0, c1, c2, c3, c4] 25)).cell? ⟨G1, 4, none⟩ = some v := (hb14.alloc _).p4
            go_wp2_with fail
            refine wpAny_ready (rs := [1, 6]) (by kernel_rfl) (by simp) ?_
            refine AllReady.cons rfl (fun K hK => ?_) (AllReady.cons rfl (fun K hK => ?_) AllReady.nil)
            · go_simp
              refine hK _ _ ?_
              clear hK K
              refine wpAny_ready (rs := [6]) (by kernel_rfl) (by simp) ?_
              refine AllReady.cons rfl (fun K hK => ?_) AllReady.nil
              go_simp
              refine hK _ _ ?_
              clear hK K
              refine wpAny_ready (rs := [7]) (by kernel_rfl) (by simp) ?_
              refine AllReady.cons rfl (fun K hK => ?_) AllReady.nil
              refine Kids.step rfl (.tmp 14) (.tmp 19) rfl B none _ v kids (hkd4.same (fun g hg hl => Below.heap_alloc w4 (Obj.cells #[c0, c1, c2, c3, c4] 25) g hl)) j c0 c1 c2 c3 c4 wr.heap.size (hn4.keep (fun g hg hl => ⟨hg, Below.heap_alloc w4 _ g hl⟩)) hBs hvn (fun g e => by cases e) w4.heap.size _ (0, 0) (Kit.fresh_block w4 _ _) (by first | rfl | simp [Act.eval, Act.put]) (by first | rfl | simp [Act.eval, Act.put]) (by omega) (by simp; omega) ?_
              intro g5 cap5 w5 hkd5 hgr5 hat5
              have hsz5 : w4.heap.size + 1 ≤ w5.heap.size := by have := hgr5.size; simpa using this
              have hne0 : v.ownBlock ≠ some G0 := fun e => by have := (hkd4.choose_spec.1.lt G0 e).1; omega
              have hne1 : v.ownBlock ≠ some G1 := fun e => by have := (hkd4.choose_spec.1.lt G1 e).1; omega
              have hneR : v.ownBlock ≠ some R := fun e => by have := (hkd4.choose_spec.1.lt R e).1; omega
              have hold5 : ∀ g, g < w4.heap.size → v.ownBlock ≠ some g → w5.heap[g]? = w4.heap[g]? := fun g hg hn => (hgr5.block g (by simp; omega) (fun e => hn e.symm)).trans (Below.heap_alloc w4 _ g hg)
              have hb05 := hb04.same (hold5 G0 hb04.lt hne0)
              have hb15 := hb14.same (hold5 G1 hb14.lt hne1)
              have hr5 : Rc R s k4 w5 := ⟨by rw [hold5 R hr4.lt hneR]; exact hr4.blk⟩
              have hst5 : Step R w w5 := ⟨hgr5.os.trans hst4.os, hgr5.tape.trans hst4.tape, hgr5.output.trans hst4.output, by have := hst4.size; omega, fun g hg hn => (hold5 g (by have := hst4.size; omega) (fun e => by have := (hkd4.choose_spec.1.lt g e).1; omega)).trans (hst4.block g hg hn)⟩
              have m6 := hb15.p4
              have m7 := hb15.free 4
              refine hK _ _ ?_
              clear hK K
              refine wpAny_take (i := 8) (v := ?_) rfl (by kernel_rfl) (by kernel_rfl) (by kernel_rfl) (fun _ _ _ h => h) (Or.inl ⟨by rfl, ?_⟩) ?_
              rotate_left 1
              · (intro w; go_simp) <;> with_reducible rfl
              refine wpAny_ready (rs := [9]) (by kernel_rfl) (by simp) ?_
              refine AllReady.cons rfl (fun K hK => ?_) AllReady.nil
              go_simp
              refine hK _ _ ?_
              clear hK K
              refine wpAny_done (by kernel_rfl) ?_ _
              go_wp2_with fail
              go_meet
              exact ⟨k4, _, hk4e, hk4, ⟨by rw [Below.heap_setCell _ _ _ _ (by show R ≠ G1; omega)]; exact hr5.blk⟩, hst5.setNew (by omega) _ _, by simp [World.setCell]; omega, hb05.same (Below.heap_setCell _ _ _ _ (by show G0 ≠ G1; omega)), hb15.set4 _, hkd5.same (fun g hg hl => Below.heap_setCell _ _ _ _ (by show g ≠ G1; omega))⟩
            · go_simp
              refine hK _ _ ?_
              clear hK K
              refine wpAny_ready (rs := [1]) (by kernel_rfl) (by simp) ?_
              refine AllReady.cons rfl (fun K hK => ?_) AllReady.nil
              go_simp
              refine hK _ _ ?_
              clear hK K
              refine wpAny_ready (rs := [7]) (by kernel_rfl) (by simp) ?_
              refine AllReady.cons rfl (fun K hK => ?_) AllReady.nil
              refine Kids.step rfl (.tmp 14) (.tmp 19) rfl B none _ v kids (hkd4.same (fun g hg hl => Below.heap_alloc w4 (Obj.cells #[c0, c1, c2, c3, c4] 25) g hl)) j c0 c1 c2 c3 c4 wr.heap.size (hn4.keep (fun g hg hl => ⟨hg, Below.heap_alloc w4 _ g hl⟩)) hBs hvn (fun g e => by cases e) w4.heap.size _ (0, 0) (Kit.fresh_block w4 _ _) (by first | rfl | simp [Act.eval, Act.put]) (by first | rfl | simp [Act.eval, Act.put]) (by omega) (by simp; omega) ?_
              intro g5 cap5 w5 hkd5 hgr5 hat5
              have hsz5 : w4.heap.size + 1 ≤ w5.heap.size := by have := hgr5.size; simpa using this
              have hne0 : v.ownBlock ≠ some G0 := fun e => by have := (hkd4.choose_spec.1.lt G0 e).1; omega
              have hne1 : v.ownBlock ≠ some G1 := fun e => by have := (hkd4.choose_spec.1.lt G1 e).1; omega
              have hneR : v.ownBlock ≠ some R := fun e => by have := (hkd4.choose_spec.1.lt R e).1; omega
              have hold5 : ∀ g, g < w4.heap.size → v.ownBlock ≠ some g → w5.heap[g]? = w4.heap[g]? := fun g hg hn => (hgr5.block g (by simp; omega) (fun e => hn e.symm)).trans (Below.heap_alloc w4 _ g hg)
              have hb05 := hb04.same (hold5 G0 hb04.lt hne0)
              have hb15 := hb14.same (hold5 G1 hb14.lt hne1)
              have hr5 : Rc R s k4 w5 := ⟨by rw [hold5 R hr4.lt hneR]; exact hr4.blk⟩
              have hst5 : Step R w w5 := ⟨hgr5.os.trans hst4.os, hgr5.tape.trans hst4.tape, hgr5.output.trans hst4.output, by have := hst4.size; omega, fun g hg hn => (hold5 g (by have := hst4.size; omega) (fun e => by have := (hkd4.choose_spec.1.lt g e).1; omega)).trans (hst4.block g hg hn)⟩
              have m6 := hb15.p4
              have m7 := hb15.free 4
              refine hK _ _ ?_
              clear hK K
              refine wpAny_take (i := 8) (v := ?_) rfl (by kernel_rfl) (by kernel_rfl) (by kernel_rfl) (fun _ _ _ h => h) (Or.inl ⟨by rfl, ?_⟩) ?_
              rotate_left 1
              · (intro w; go_simp) <;> with_reducible rfl
              refine wpAny_ready (rs := [9]) (by kernel_rfl) (by simp) ?_
              refine AllReady.cons rfl (fun K hK => ?_) AllReady.nil
              go_simp
              refine hK _ _ ?_
              clear hK K
              refine wpAny_done (by kernel_rfl) ?_ _
              go_wp2_with fail
              go_meet
              exact ⟨k4, _, hk4e, hk4, ⟨by rw [Below.heap_setCell _ _ _ _ (by show R ≠ G1; omega)]; exact hr5.blk⟩, hst5.setNew (by omega) _ _, by simp [World.setCell]; omega, hb05.same (Below.heap_setCell _ _ _ _ (by show G0 ≠ G1; omega)), hb15.set4 _, hkd5.same (fun g hg hl => Below.heap_setCell _ _ _ _ (by show g ≠ G1; omega))⟩
        case rest =>
          obtain ⟨k4, v4, hre, hk4, hr4, hst4, hB4, hb04, hb14, hkd4⟩ := hcut
          have hqk : q ≤ k4 := val_place (by rw [HV.out, hre.out]) hk4 hq
          rw [hre.out] at HQ2
          clear hr hst hBs hb0 hb1 hkd hval hvn l4 HV hre
          cases hc : eatL 93 (skipL (tail s k4)) with
          | some r1 =>
            have HE := Lib.hid (show O = .ok (listJ false [] (kids ++ [j]), r1) by rw [← HQ2.out, hc])
            have HC := Lib.hid hc
            clear hc HQ2
            go_wp2_with fail
            refine (found_yes R s k4 93 r1 _ hr4 hs hk4 HC.out).mono ?_
            rintro e' w5 ⟨rfl, hs5, k5, hk51, hk52, hk5, hr5⟩
            have hst5 := hst4.trans hs5
            have hb05 := hb04.keep hs5 (by omega)
            have hb15 := hb14.keep hs5 (by omega)
            have hkd5 : Kids B none v4 (kids ++ [j]) w5 := hkd4.same (fun g hg hl => hs5.block g hl (by omega))
            clear hr4 hst4 hB4 hb04 hb14 hkd4 hs5
            obtain ⟨ao, cp, rfl⟩ := hkd5.form
            have p0 := hb15.p0
            have p1 := hb15.p1
            have p2 := hb15.p2
            have p3 := hb15.p3
            have p4 := hb15.p4
            have q0 := hb05.p0
            have q1 := hb05.p1
            have q2 := hb05.p2
            have q3 := hb05.p3
            have q4 := hb05.p4
            have f0 := hb05.free 0
            have f1 := hb05.free 1
            have f2 := hb05.free 2
            have f3 := hb05.free 3
            have f4 := hb05.free 4
            go_wp2_with fail
            refine bodyPost_ret (node_result rfl _ rfl (hb05.setAll _ _ _ _ _)) rfl ?_
            rw [HE.out]
            refine ⟨putN_step hst5 (by omega) _ _ _ _ _, _, _, _, _, _, rfl, ?_, k5, hk52, hk5, ⟨(putN_block w5 G0 _ _ _ _ _ R (by omega)).trans hr5.blk⟩⟩
            refine NodeAt.keep (putN_kept (P := fun g => B ≤ g) (fun g hg => by have : B ≤ g := hg; omega) _ _ _ _ _ |>.trans (P' := fun g => B ≤ g) (kept_mono (fun g hg => by have : B ≤ g := hg; show w.heap.size ≤ g; omega)) (by rw [putN_size]; exact Nat.le_refl _)) ?_
            obtain ⟨cs, q1, q2⟩ := hkd5.read (fun g => B ≤ g) (fun g hg => hg)
            rw [listJ, NodeAt]
            rw [show (kids ++ [j]).length = kids.length + 1 by simp] at q1 ⊢
            exact ⟨_, _, rfl, Or.inl ⟨⟨none, 0, rfl⟩, rfl, rfl⟩, cs, q1, q2⟩
          | none =>
            have HC := Lib.hid hc
            have HQ3 : Hid ((match eatL 44 (skipL (tail s k4)) with
              | some r1 => itemsG (valueG numC n) false f [] (kids ++ [j]) r1
              | none => .error 3) = O) := by
              have h9 := HQ2.out
              rw [hc] at h9
              exact h9
            clear hc HQ2
            go_wp2_with fail
            refine (found_no R s k4 93 _ hr4 hs hk4 (by decide) HC.out).mono ?_
            rintro e' w5 ⟨rfl, hs5, k5, hk51, hk52, hk5, hr5⟩
            have hst5 := hst4.trans hs5
            have hb05 := hb04.keep hs5 (by omega)
            have hb15 := hb14.keep hs5 (by omega)
            have hkd5 : Kids B none v4 (kids ++ [j]) w5 := hkd4.same (fun g hg hl => hs5.block g hl (by omega))
            have hB5 : B ≤ w5.heap.size := by have := hs5.size; omega
            have hw := want_any R s k5 44 w5 hr5 hs hk52 (by decide)
            have hwl : wantL 44 (tail s k5) = wordO (eatL 44 (skipL (tail s k4))) := by
              show wordO (eatL 44 (skipL (tail s k5))) = _
              rw [← hk5, skip_skip]
            rw [hwl] at hw
            have HQ4 := HQ3.out
            clear hwl HQ3 hr4 hst4 hB4 hb04 hb14 hkd4
            cases he : eatL 44 (skipL (tail s k4)) with
            | none =>
              rw [he] at hw HQ4
              have HE := Lib.hid (show O = .error 3 from HQ4.symm)
              clear HQ4 he
              go_wp2_with fail
              refine hw.mono ?_
              rintro e' w6 ⟨hs6, hL⟩
              obtain rfl : e' = Errs 3 := hL
              go_wp2_with fail
              rw [HE.out]
              exact ⟨rfl, hst5.trans hs6, rfl⟩
            | some r1 =>
              rw [he] at hw HQ4
              have HQ5 : Hid (itemsG (valueG numC n) false f [] (kids ++ [j]) r1 = O) := HQ4
              have hlt := eat_lt he
              have hsl := (skip_suffix (tail s k4)).length_le
              rw [tail_length] at hsl
              have hfl := tail_length s q
              clear HQ4 he
              go_wp2_with fail
              refine hw.mono ?_
              rintro e' w6 ⟨hs6, hL⟩
              obtain ⟨rfl, k6, hk6, rfl, hr6⟩ := hL
              have hst6 := hst5.trans hs6
              have hb06 := hb05.keep hs6 (by omega)
              have hb16 := hb15.keep hs6 (by omega)
              have hkd6 : Kids B none v4 (kids ++ [j]) w6 := hkd5.same (fun g hg hl => hs6.block g hl (by omega))
              have hB6 : B ≤ w6.heap.size := by have := hs6.size; omega
              rw [tail_length] at hlt
              go_wp2_with fail
              go_roundg (s.size - k6)
              case measure => omega
              case rel => exact ⟨k6, f, kids ++ [j], v4, rfl, hk6, by rw [List.length_append, List.length_singleton]; omega, by rw [tail_length]; omega, HQ5, hr6, hst6, hB6, hb06, hb16, hkd6⟩
end Go.Proofs.YtbjngdlkamdmdaaDoor.J7
namespace Go.Proofs.YtbjngdlkamdmdaaDoor.J7
open Go Go.RowKit Go.Joins Kit Go.Maps Go.WideMaps

/-- All blocks that were there, but R and M, are as they were. -/
structure StepM (R M : Nat) (w w' : World) : Prop where
  os : w'.os = w.os
  tape : w'.tape = w.tape
  output : w'.output = w.output
  size : w.heap.size ≤ w'.heap.size
  block : ∀ k, k < w.heap.size → k ≠ R → k ≠ M → w'.heap[k]? = w.heap[k]?
theorem StepM.of {R M : Nat} {w w' : World} (h : Step R w w') : StepM R M w w' := ⟨h.os, h.tape, h.output, h.size, fun k hk hn _ => h.block k hk hn⟩
theorem StepM.trans {R M : Nat} {a b c : World} (h : StepM R M a b) (k : StepM R M b c) : StepM R M a c :=
  ⟨k.os.trans h.os, k.tape.trans h.tape, k.output.trans h.output, Nat.le_trans h.size k.size, fun i hi h1 h2 => (k.block i (Nat.lt_of_lt_of_le hi h.size) h1 h2).trans (h.block i hi h1 h2)⟩
theorem StepM.grown {R M : Nat} {a b c : World} (h : StepM R M a b) (k : b.grownBy c (some M)) : StepM R M a c :=
  ⟨k.os.trans h.os, k.tape.trans h.tape, k.output.trans h.output, Nat.le_trans h.size k.size, fun i hi h1 h2 => (k.block i (Nat.lt_of_lt_of_le hi h.size) (fun e => h2 (Option.some.inj e))).trans (h.block i hi h1 h2)⟩
/-- A key, behind the keys that are there. -/
def keyC (keys : List ByteArray) (l : List UInt8) : Out (List ByteArray) := match quoL (skipL l) with
  | .error e => .error e
  | .ok (k, r) => if hasB keys k then .error 5 else .ok (keys ++ [⟨k.toArray⟩], r)
theorem keyL_C (keys : List ByteArray) (l : List UInt8) : keyL keys l = match keyC keys l with
    | .error e => .error e
    | .ok (ks, r) => match wantL 58 r with
      | .error e => .error e
      | .ok (_, r1) => .ok (ks, r1) := by
  unfold keyL keyC quoL
  cases eatL 34 (skipL l) with
  | none => rfl
  | some r =>
    simp only
    cases textL r with
    | error e => rfl
    | ok x =>
      obtain ⟨k, r1⟩ := x
      simp only
      by_cases h : hasB keys k = true
      · rw [if_pos h, if_pos h]
      · rw [if_neg h, if_neg h]
        simp only
        unfold colonL wantL
        cases eatL 58 (skipL r1) <;> rfl
theorem textF_len : ∀ {f : Nat} {out l r t : List UInt8}, textF f out l = .ok (t, r) → t.length + 4 * r.length ≤ out.length + 4 * l.length
  | 0, out, l, r, t, h => by rw [textF] at h; cases h
  | f + 1, out, [], r, t, h => by rw [textF] at h; cases h
  | f + 1, out, c :: u, r, t, h => by
    by_cases h1 : c = 34
    · subst h1
      rw [textF, if_pos rfl] at h
      have e1 := congrArg Prod.fst (Except.ok.inj h)
      have e2 := congrArg Prod.snd (Except.ok.inj h)
      simp only at e1 e2
      subst e1 e2
      simp
      omega
    · by_cases h2 : c = 92
      · subst h2
        rw [textF_esc] at h
        split at h
        · cases h
        · rename_i x r1 e
          have := textF_len h
          have h3 := escape_le e
          have h4 := (escape_suffix e).2
          rw [List.length_append] at this
          simp only [List.length_cons] at *
          omega
      · by_cases h3 : c.toNat < 32
        · rw [textF, if_neg h1, if_neg h2, if_pos h3] at h
          cases h
        · rw [textF_plain h1 h2 h3] at h
          split at h
          · cases h
          · rename_i x r1 e
            have := textF_len h
            have h4 := plainT_ok e
            rw [List.length_append] at this
            omega
theorem quoL_len {l r t : List UInt8} (h : quoL l = .ok (t, r)) : t.length + 4 * r.length ≤ 4 * l.length := by
  unfold quoL at h
  split at h
  · cases h
  · rename_i r0 e
    have h1 := eat_lt e
    have := textF_len h
    rw [List.length_nil] at this
    omega
/-- What key leaves. -/
def KeyLeft (R M : Nat) (s : ByteArray) (keys : List ByteArray) (w : World) (o : Out (List ByteArray)) (e' : Ending) (w' : World) : Prop :=
  StepM R M w w' ∧ match o with
    | .ok (ks, r) => ∃ kb, ks = keys ++ [kb] ∧ e' = .returned (.string kb) ∧ Seen M ks w' ∧ ∃ k : Nat, k ≤ s.size ∧ r = tail s k ∧ Rc R s k w'
    | .error c => e' = Errs c

set_option maxHeartbeats 4000000 in
set_option maxRecDepth 100000 in
theorem key_any (R M : Nat) (s : ByteArray) (i : Nat) (keys : List ByteArray) (w : World) (h : Rc R s i w) (hs : s.size ≤ 65536) (hi : i ≤ s.size) (hm : Seen M keys w) (hMR : M ≠ R) (hkl : keys.length ≤ 65536) :
    Calls Tryd.prog 69 #[.pointer (some ⟨R, 0, none⟩), .map (some M)] w fun e' w' => KeyLeft R M s keys w (keyC keys (tail s i)) e' w' := by
  obtain ⟨O, hO⟩ : ∃ O, keyC keys (tail s i) = O := ⟨_, rfl⟩
  rw [hO]
  unfold keyC at hO
  have HO := Lib.hid hO
  clear hO
  go_enter Tryd.func69, Tryd.ntmps69
  go_wp2_with fail
  refine (skip_any R s i w h hs hi).mono ?_
  rintro e' w1 ⟨rfl, k, hk1, hk2, hk, hr1, hs1⟩
  have htext := text_any R s k w1 hr1 hs hk2
  obtain ⟨o, ho⟩ : ∃ o, quoL (tail s k) = o := ⟨_, rfl⟩
  have HO2 := HO.out
  rw [hk, ho] at HO2
  rw [ho] at htext
  have HO3 := Lib.hid HO2
  have hm1 := hm.same (hs1.block M (World.ownsMap.lt hm) hMR)
  clear HO HO2 hk
  go_wp2_with fail
  refine htext.mono ?_
  rintro e' w2 ⟨hs2, hL⟩
  have hst2 := hs1.trans hs2
  have hm2 := hm1.same (hs2.block M (World.ownsMap.lt hm1) hMR)
  have HO4 := HO3.out
  clear htext HO3
  match o, hL, HO4, ho with
  | .error c, hL, HO4, _ =>
    obtain rfl : e' = Errs c := hL
    have HE := Lib.hid (show O = .error c from HO4.symm)
    clear HO4
    go_wp2_with fail
    rw [HE.out]
    exact ⟨rfl, .of hst2, rfl⟩
  | .ok (t, r), hL, HO4, ho =>
    obtain ⟨rfl, k3, hk3, rfl, hr2⟩ := hL
    have hlen := quoL_len ho
    rw [tail_length, tail_length] at hlen
    have hts : (ByteArray.mk t.toArray).size ≤ maxLen := by rw [Lib.size_eq]; unfold maxLen; show t.length ≤ _; omega
    have hkey : keyOf Tryd.prog 9 (.string ⟨t.toArray⟩) = some (.string t) := keyOf_string_mk Tryd.underlying9 hts
    have hhas := has_setK keys t
    obtain ⟨bb, hbb⟩ : ∃ bb, hasB keys t = bb := ⟨_, rfl⟩
    rw [hbb] at hhas
    have HO5 : Hid ((if bb then (.error 5 : Out (List ByteArray)) else .ok (keys ++ [⟨t.toArray⟩], tail s k3)) = O) := by
      show _ = O
      rw [← hbb]
      exact HO4
    clear HO4 ho hbb hlen hts
    cases bb with
    | true =>
      have HE := Lib.hid (show O = .error 5 from HO5.out.symm)
      clear HO5
      go_wp2_with (at_lookup; refine wpList_lookup_own_unit _ rfl _ _ 80 rfl 9 81 keyed Tryd.underlying80 (zeroU _) M _ _ rfl hm2 _ _ rfl hkey ?_; rw [hhas])
      rw [HE.out]
      exact ⟨rfl, (StepM.of (hst2.alloc _)), rfl⟩
    | false =>
      have HE := Lib.hid (show O = .ok (keys ++ [⟨t.toArray⟩], tail s k3) from HO5.out.symm)
      clear HO5
      go_wp2_with (first
        | (at_lookup; refine wpList_lookup_own_unit _ rfl _ _ 80 rfl 9 81 keyed Tryd.underlying80 (zeroU _) M _ _ rfl hm2 _ _ rfl hkey ?_; rw [hhas])
        | (at_mapUpdate; refine wpList_mapUpdate_own _ rfl _ _ _ 80 rfl 9 81 keyed Tryd.underlying80 (unitElem (H := Unit)) M _ _ rfl (hm2.alloc _) (by unfold maxLen; omega) _ _ _ rfl rfl hkey _ [] unitElem_mk ?_; intro w3 hm3 hg3))
      go_ret
      rw [HE.out]
      refine ⟨(StepM.of (hst2.alloc _)).grown hg3, _, rfl, rfl, ?_, k3, hk3, rfl, ?_⟩
      · unfold Seen
        rw [setK_snoc, List.length_append]
        exact hm3
      · exact ⟨(hg3.block R (by have := hr2.lt; simp; omega) (fun e => hMR (Option.some.inj e).symm)).trans (hr2.alloc _).blk⟩
end Go.Proofs.YtbjngdlkamdmdaaDoor.J7
namespace Go.Proofs.YtbjngdlkamdmdaaDoor.J7
open Go Go.RowKit Go.Joins Kit Go.Maps

theorem items_key_err {val : List UInt8 → Out J} {f : Nat} {keys : List ByteArray} {kids : List J} {l : List UInt8} {c : Nat} (h : keyC keys l = .error c) (hf : l.length < f) : itemsG val true f keys kids l = .error c := by
  obtain ⟨f, rfl⟩ : ∃ g, f = g + 1 := ⟨f - 1, by omega⟩
  rw [itemsG]
  show (match keyL keys l with
    | .error e => (.error e : Out J)
    | .ok (ks, l1) => _) = _
  rw [keyL_C, h]
/-- What stands behind a key. -/
def afterKey (val : List UInt8 → Out J) (f : Nat) (ks : List ByteArray) (kids : List J) (o : Out Unit) : Out J := match o with
  | .error e => .error e
  | .ok (_, r1) => match val r1 with
    | .error e => .error e
    | .ok (j, r2) => match eatL 125 (skipL r2) with
      | some r3 => .ok (listJ true ks (kids ++ [j]), r3)
      | none => match eatL 44 (skipL r2) with
        | some r3 => itemsG val true f ks (kids ++ [j]) r3
        | none => .error 3
theorem items_key_ok {val : List UInt8 → Out J} {f : Nat} {keys ks : List ByteArray} {kids : List J} {l r : List UInt8} (h : keyC keys l = .ok (ks, r)) : itemsG val true (f + 1) keys kids l = afterKey val f ks kids (wantL 58 r) := by
  rw [itemsG]
  show (match keyL keys l with
    | .error e => (.error e : Out J)
    | .ok (ks, l1) => _) = _
  rw [keyL_C, h]
  simp only
  unfold afterKey
  cases wantL 58 r with
  | error e => rfl
  | ok x =>
    obtain ⟨u, r1⟩ := x
    simp only
    cases val r1 with
    | error e => rfl
    | ok y => rfl
theorem keyC_place {s : ByteArray} {keys ks : List ByteArray} {k q : Nat} (h : keyC keys (tail s q) = .ok (ks, tail s k)) (hk : k ≤ s.size) (hq : q ≤ s.size) : q ≤ k := by
  unfold keyC at h
  split at h
  · cases h
  · rename_i t r e
    have h1 := quoL_len e
    have h2 := (skip_suffix (tail s q)).length_le
    split at h
    · cases h
    · have e2 := congrArg Prod.snd (Except.ok.inj h)
      simp only at e2
      rw [e2, tail_length] at h1
      rw [tail_length] at h2
      omega

set_option maxHeartbeats 8000000 in
set_option maxRecDepth 100000 in
theorem object_any (s : ByteArray) (n a : Nat) (hs : s.size ≤ 65536) (ha : a < 24) (hv : ValOk s n (a + 1)) (R i : Nat) (w : World) (h : Rc R s i w) (hi : i < s.size) :
    Calls Tryd.prog 54 #[.pointer (some ⟨R, 0, none⟩), .int .i64 (a : Int)] w fun e' w' => ValLeft R s w (listG (valueG numC n) true (tail s (i + 1))) e' w' := by
  have hsz : (s.size : Int) ≤ 65536 := by omega
  have hai : (a : Int) < 24 := by omega
  have hmm := @run_makeMap Tryd.prog
  have hRl := h.lt
  obtain ⟨G0, hG0⟩ : ∃ G, w.heap.size = G := ⟨_, rfl⟩
  obtain ⟨O, hO⟩ : ∃ O, listG (valueG numC n) true (tail s (i + 1)) = O := ⟨_, rfl⟩
  rw [hO]
  unfold listG at hO
  have HO := Lib.hid hO
  clear hO
  have hz0 := newZ_bx w
  rw [hG0] at hz0
  have hr0 : Rc R s i (newZ w) := h.alloc _
  have hst0 : Step R w (newZ w) := newZ_step (Step.refl R w)
  go_enter Tryd.func54, Tryd.ntmps54
  go_wp2_with fail
  refine (enter_any R s i a (newZ w) hr0 hs (by omega) ha).mono ?_
  rintro e' w1 ⟨rfl, hs1, hr1⟩
  have hst1 := hst0.trans hs1
  have hb01 := hz0.keep hs1 (by omega)
  obtain ⟨G1, hG1⟩ : ∃ G, w1.heap.size = G := ⟨_, rfl⟩
  have h01 : G0 < G1 := by rw [← hG1]; exact hb01.lt
  have hr2 : Rc R s (i + 1) (newN w1 7) := ⟨by rw [newN_block _ _ _ hr1.lt]; exact hr1.blk⟩
  have hst2 := newN_step hst1 7
  have hb02 := hb01.same (newN_block w1 7 G0 (by omega))
  have hb12 := newN_bx w1 7
  have hs2 := newN_size w1 7
  rw [hG1] at hb12 hs2
  clear hr0 hst0 hz0 hr1 hst1 hb01 hs1
  cases hc : eatL 125 (skipL (tail s (i + 1))) with
  | some r =>
    have HE : Hid (O = .ok (listJ true [] [], r)) := by
      show O = _
      rw [← HO.out]
      show (match eatL 125 (skipL (tail s (i + 1))) with
        | some r => (.ok (listJ true [] [], r) : Out J)
        | none => _) = _
      rw [hc]
    have HC := Lib.hid hc
    clear hc HO
    go_wp2_with fail
    (try rw [hG1])
    refine (found_yes R s (i + 1) 125 r (newN w1 7) hr2 hs (by omega) HC.out).mono ?_
    rintro e' w3 ⟨rfl, hs3, k, hk1, hk2, hk, hr3⟩
    have hst3 := hst2.trans hs3
    have hb03 := hb02.keep hs3 (by omega)
    have hb13 := hb12.keep hs3 (by omega)
    have p0 := hb13.p0
    have p1 := hb13.p1
    have p2 := hb13.p2
    have p3 := hb13.p3
    have p4 := hb13.p4
    have q0 := hb03.p0
    have q1 := hb03.p1
    have q2 := hb03.p2
    have q3 := hb03.p3
    have q4 := hb03.p4
    have f0 := hb03.free 0
    have f1 := hb03.free 1
    have f2 := hb03.free 2
    have f3 := hb03.free 3
    have f4 := hb03.free 4
    go_wp2_with fail
    refine bodyPost_ret (node_result rfl _ rfl (hb03.setAll _ _ _ _ _)) rfl ?_
    rw [HE.out]
    exact ⟨putN_step hst3 (by omega) _ _ _ _ _, _, _, _, _, _, rfl, node_plain _ _ _ _ _, k, hk2, hk, ⟨(putN_block w3 G0 _ _ _ _ _ R (by omega)).trans hr3.blk⟩⟩
  | none =>
    have HC := Lib.hid hc
    have HQ : Hid (itemsG (valueG numC n) true ((tail s (i + 1)).length + 1) [] [] (skipL (tail s (i + 1))) = O) := by
      show _ = O
      rw [← HO.out]
      show _ = (match eatL 125 (skipL (tail s (i + 1))) with
        | some r => (.ok (listJ true [] [], r) : Out J)
        | none => _)
      rw [hc]
    clear hc HO
    go_wp2_with fail
    (try rw [hG1])
    refine (found_no R s (i + 1) 125 (newN w1 7) hr2 hs (by omega) (by decide) HC.out).mono ?_
    rintro e' w2 ⟨rfl, hs3, k, hk1, hk2, hk, hr3'⟩
    have hst3' := hst2.trans hs3
    have hb03' := hb02.keep hs3 (by omega)
    have hb13' := hb12.keep hs3 (by omega)
    have HQ3 : Hid (itemsG (valueG numC n) true ((tail s (i + 1)).length + 1) [] [] (tail s k) = O) := by
      show _ = O
      rw [← hk]; exact HQ.out
    have hl3 : (tail s k).length < (tail s (i + 1)).length + 1 := by rw [tail_length, tail_length]; omega
    obtain ⟨M, hM⟩ : ∃ M, w2.heap.size = M := ⟨_, rfl⟩
    have h1M : G1 < M := by rw [← hM]; exact hb13'.lt
    have hst3 : Step R w (w2.alloc (.map #[] 0)) := hst3'.alloc _
    have hr3 : Rc R s k (w2.alloc (.map #[] 0)) := hr3'.alloc _
    have hb03 := hb03'.alloc (.map #[] 0)
    have hb13 := hb13'.alloc (.map #[] 0)
    have hm3 : Seen M [] (w2.alloc (.map #[] 0)) := by rw [← hM]; exact World.ownsMap_made w2 _ _ _
    have hB : (w2.alloc (.map #[] 0)).heap.size = M + 1 := by rw [← hM]; simp
    clear hst2 hb02 hb12 hs2 hr2 HQ HC hs3 hk hst3' hb03' hb13' hr3'
    go_wp2_with fail
    (try rw [hM])
    obtain ⟨w3, hw3⟩ : ∃ w3, w2.alloc (.map #[] 0) = w3 := ⟨_, rfl⟩
    rw [hw3] at hst3 hr3 hb03 hb13 hm3 hB
    (try rw [hw3])
    clear hw3
    obtain ⟨B, hBe⟩ : ∃ B, M + 1 = B := ⟨_, rfl⟩
    rw [hBe] at hB
    have hMB : M < B := by omega
    go_loopg [] (s.size - k) (fun m wr => ∃ (q f : Nat) (keys : List ByteArray) (kids : List J) (kv v : Value), m = s.size - q ∧ q ≤ s.size ∧ kids.length ≤ q ∧ keys.length ≤ q ∧ (tail s q).length < f ∧ Hid (itemsG (valueG numC n) true f keys kids (tail s q) = O) ∧ Rc R s q wr ∧ Step R w wr ∧ B ≤ wr.heap.size ∧ Bx G0 (.int .i64 0) (.int .i64 0) (.string { data := #[] }) (.slice none 0 0) (.slice none 0 0) wr ∧ Bx G1 (.int .i64 7) (.int .i64 0) (.string { data := #[] }) kv v wr ∧ wr.ownsRow B 9 1 kv keys.length (strs keys) ∧ Kids B kv.ownBlock v kids wr ∧ Seen M keys wr)
    case atStart => exact ⟨k, _, [], [], _, _, rfl, hk2, Nat.zero_le _, Nat.zero_le _, hl3, HQ3, hr3, hst3, by omega, hb03, hb13, World.ownsRow_nil _ _ _ _, kids_empty _ _ _, hm3⟩
    case round =>
      clear hst3 hb03 hb13 hr3 HQ3 hl3 hm3 hmm
      obtain ⟨q, f, keys, kids, kv, v, rfl, hq, hkl, hyl, hf, HQ, hr, hst, hBs, hb0, hb1, hky, hkd, hsm⟩ := hrel
      have hkey := key_any R M s q keys wr.drew ⟨hr.blk⟩ hs hq (hsm.same rfl) (by omega) (by omega)
      have l3 : wr.drew.cell? ⟨G1, 3, none⟩ = some kv := hb1.p3
      obtain ⟨o, ho⟩ : ∃ o, keyC keys (tail s q) = o := ⟨_, rfl⟩
      rw [ho] at hkey
      match o, ho, hkey with
      | .error c, ho, hkey =>
        have HE := Lib.hid (show O = .error c by rw [← HQ.out]; exact items_key_err ho hf)
        clear HQ ho
        go_upto_region 6 with fail
        refine wp_region_any (by kernel_rfl) ?_
        try (change wpAny _ _ _ _ _ _ _ (World.drew _))
        refine wpAny_take (i := 0) (v := ?_) rfl (by kernel_rfl) (by kernel_rfl) (by kernel_rfl) (fun _ _ _ h => h) (Or.inl ⟨by rfl, ?_⟩) ?_
        rotate_left 1
        · (intro w; go_simp) <;> with_reducible rfl
        refine wpAny_take (i := 2) (v := ?_) rfl (by kernel_rfl) (by kernel_rfl) (by kernel_rfl) (fun _ _ _ h => h) (Or.inl ⟨by rfl, ?_⟩) ?_
        rotate_left 1
        · (intro w; go_simp) <;> with_reducible rfl
        refine wpAny_take (i := 3) (v := ?_) rfl (by kernel_rfl) (by kernel_rfl) (by kernel_rfl) (fun _ _ _ h => h) (Or.inl ⟨by rfl, ?_⟩) ?_
        rotate_left 1
        · (intro w; go_simp) <;> with_reducible rfl
        refine wpAny_ready (rs := [1, 4]) (by kernel_rfl) (by simp) ?_
        refine AllReady.cons rfl (fun K hK => ?_) (AllReady.cons rfl (fun K hK => ?_) AllReady.nil)
        · go_simp
          refine hK _ _ ?_
          clear hK K
          refine wpAny_ready (rs := [4]) (by kernel_rfl) (by simp) ?_
          refine AllReady.cons rfl (fun K hK => ?_) AllReady.nil
          go_simp
          go_wp2_with fail
          refine hkey.mono ?_
          rintro e' w4 ⟨hs4, hL⟩
          obtain rfl : e' = Errs c := hL
          have hst4 : Step R w w4 := ⟨hs4.os.trans hst.os, hs4.tape.trans hst.tape, hs4.output.trans hst.output, Nat.le_trans hst.size hs4.size, fun g hg hn => (hs4.block g (by have := hst.size; show g < wr.heap.size; omega) hn (by omega)).trans (hst.block g hg hn)⟩
          go_wp2_with fail
          rw [HE.out]
          exact ⟨rfl, hst4, rfl⟩
        · go_simp
          go_wp2_with fail
          refine hkey.mono ?_
          rintro e' w4 ⟨hs4, hL⟩
          obtain rfl : e' = Errs c := hL
          have hst4 : Step R w w4 := ⟨hs4.os.trans hst.os, hs4.tape.trans hst.tape, hs4.output.trans hst.output, Nat.le_trans hst.size hs4.size, fun g hg hn => (hs4.block g (by have := hst.size; show g < wr.heap.size; omega) hn (by omega)).trans (hst.block g hg hn)⟩
          go_wp2_with fail
          rw [HE.out]
          exact ⟨rfl, hst4, rfl⟩
      | .ok (ks, r), ho, hkey =>
        obtain ⟨f, rfl⟩ : ∃ g, f = g + 1 := ⟨f - 1, by omega⟩
        have HQ2 := Lib.hid ((items_key_ok (val := valueG numC n) (f := f) (kids := kids) ho).symm.trans HQ.out)
        have HV := Lib.hid ho
        clear HQ ho
        go_upto_region 6 with fail
        go_cut [] from 15 (fun wx => ∃ k4 kv4, Hid (r = tail s k4) ∧ k4 ≤ s.size ∧ ks.length = keys.length + 1 ∧ Rc R s k4 wx ∧ Step R w wx ∧ B ≤ wx.heap.size ∧ Bx G0 (.int .i64 0) (.int .i64 0) (.string { data := #[] }) (.slice none 0 0) (.slice none 0 0) wx ∧ Bx G1 (.int .i64 7) (.int .i64 0) (.string { data := #[] }) kv4 v wx ∧ wx.ownsRow B 9 1 kv4 ks.length (strs ks) ∧ Kids B kv4.ownBlock v kids wx ∧ Seen M ks wx)
        case first =>
          refine wp_region_any (by kernel_rfl) ?_
          try (change wpAny _ _ _ _ _ _ _ (World.drew _))
          refine wpAny_take (i := 0) (v := ?_) rfl (by kernel_rfl) (by kernel_rfl) (by kernel_rfl) (fun _ _ _ h => h) (Or.inl ⟨by rfl, ?_⟩) ?_
          rotate_left 1
          · (intro w; go_simp) <;> with_reducible rfl
          refine wpAny_take (i := 2) (v := ?_) rfl (by kernel_rfl) (by kernel_rfl) (by kernel_rfl) (fun _ _ _ h => h) (Or.inl ⟨by rfl, ?_⟩) ?_
          rotate_left 1
          · (intro w; go_simp) <;> with_reducible rfl
          refine wpAny_take (i := 3) (v := ?_) rfl (by kernel_rfl) (by kernel_rfl) (by kernel_rfl) (fun _ _ _ h => h) (Or.inl ⟨by rfl, ?_⟩) ?_
          rotate_left 1
          · (intro w; go_simp) <;> with_reducible rfl
          refine wpAny_ready (rs := [1, 4]) (by kernel_rfl) (by simp) ?_
          refine AllReady.cons rfl (fun K hK => ?_) (AllReady.cons rfl (fun K hK => ?_) AllReady.nil)
          · go_simp
            refine hK _ _ ?_
            clear hK K
            refine wpAny_ready (rs := [4]) (by kernel_rfl) (by simp) ?_
            refine AllReady.cons rfl (fun K hK => ?_) AllReady.nil
            go_simp
            go_wp2_with fail
            refine hkey.mono ?_
            rintro e' w4 ⟨hs4, kb, rfl, rfl, hm4, k4, hk4, hk4e, hr4⟩
            have hst4 : Step R w w4 := ⟨hs4.os.trans hst.os, hs4.tape.trans hst.tape, hs4.output.trans hst.output, Nat.le_trans hst.size hs4.size, fun g hg hn => (hs4.block g (by have := hst.size; show g < wr.heap.size; omega) hn (by omega)).trans (hst.block g hg hn)⟩
            have hblk4 : ∀ g, g < wr.heap.size → g ≠ R → g ≠ M → w4.heap[g]? = wr.heap[g]? := hs4.block
            have hb04 := hb0.same (hblk4 G0 hb0.lt (by omega) (by omega))
            have hb14 := hb1.same (hblk4 G1 hb1.lt (by omega) (by omega))
            have hky4 : w4.ownsRow B 9 1 kv keys.length (strs keys) := own_keep5 hky (fun g hg hl => hblk4 g hl (by have := (hky.lt g hg).1; omega) (by have := (hky.lt g hg).1; omega))
            have hkd4 : Kids B kv.ownBlock v kids w4 := hkd.same (fun g hg hl => hblk4 g hl (by omega) (by omega))
            have hz4 : wr.heap.size ≤ w4.heap.size := hs4.size
            have m4 : w4.cell? ⟨G1, 3, none⟩ = some kv := hb14.p3
            have m5 : (w4.alloc (Obj.cells #[.string kb] 9)).cell? ⟨G1, 3, none⟩ = some kv := (hb14.alloc _).p3
            go_wp2_with fail
            refine wpAny_ready (rs := [5]) (by kernel_rfl) (by simp) ?_
            refine AllReady.cons rfl (fun K hK => ?_) AllReady.nil
            go_simp
            refine hK _ _ ?_
            clear hK K
            refine wpAny_ready (rs := [6]) (by kernel_rfl) (by simp) ?_
            refine AllReady.cons rfl (fun K hK => ?_) AllReady.nil
            refine key_step rfl (.tmp 16) (.tmp 20) rfl B _ kv keys (hky4.alloc _) kb w4.heap.size _ (0, 0) (Kit.fresh_block w4 _ _) (by first | rfl | simp [Act.eval, Act.put]) (by first | rfl | simp [Act.eval, Act.put]) (by omega) (by simp; omega) ?_
            intro g5 cap5 w5 hky5 hgr5 hat5
            have hsz5 : w4.heap.size + 1 ≤ w5.heap.size := by have := hgr5.size; simpa using this
            have hold5 : ∀ g, g < w4.heap.size → kv.ownBlock ≠ some g → w5.heap[g]? = w4.heap[g]? := fun g hg hn => (hgr5.block g (by simp; omega) (fun e => hn e.symm)).trans (Below.heap_alloc w4 _ g hg)
            have hne : ∀ g, g < B → kv.ownBlock ≠ some g := fun g hg e => by have := (hky4.lt g e).1; omega
            have hb05 := hb04.same (hold5 G0 hb04.lt (hne G0 (by omega)))
            have hb15 := hb14.same (hold5 G1 hb14.lt (hne G1 (by omega)))
            have hr5 : Rc R s k4 w5 := ⟨by rw [hold5 R hr4.lt (hne R (by omega))]; exact hr4.blk⟩
            have hm5 : Seen M (keys ++ [kb]) w5 := hm4.same (hold5 M (World.ownsMap.lt hm4) (hne M hMB))
            have hst5 : Step R w w5 := ⟨hgr5.os.trans hst4.os, hgr5.tape.trans hst4.tape, hgr5.output.trans hst4.output, by have := hst4.size; omega, fun g hg hn => (hold5 g (by have := hst4.size; omega) (hne g (by omega))).trans (hst4.block g hg hn)⟩
            have hkd5 : Kids B (some g5) v kids w5 := (hkd4.same (w' := w4.alloc (Obj.cells #[.string kb] 9)) (fun g hg hl => Below.heap_alloc w4 _ g hl)).beside hgr5 (fun g hg => own_ne (hkd4.choose_spec.1) hky4 (by decide) hg) (fun g e => by have e' : g5 = g := Option.some.inj e; subst e'; exact hat5)
            have m6 := hb15.p3
            have m7 := hb15.free 3
            refine hK _ _ ?_
            clear hK K
            refine wpAny_take (i := 7) (v := ?_) rfl (by kernel_rfl) (by kernel_rfl) (by kernel_rfl) (fun _ _ _ h => h) (Or.inl ⟨by rfl, ?_⟩) ?_
            rotate_left 1
            · (intro w; go_simp) <;> with_reducible rfl
            refine wpAny_ready (rs := [8]) (by kernel_rfl) (by simp) ?_
            refine AllReady.cons rfl (fun K hK => ?_) AllReady.nil
            go_simp
            refine hK _ _ ?_
            clear hK K
            refine wpAny_done (by kernel_rfl) ?_ _
            go_wp2_with fail
            go_meet
            exact ⟨k4, _, hk4e, hk4, by simp, ⟨(Below.heap_setCell _ _ _ _ (by show R ≠ G1; omega)).trans hr5.blk⟩, hst5.setNew (by omega) _ _, by simp [World.setCell]; omega, hb05.same (Below.heap_setCell _ _ _ _ (by show G0 ≠ G1; omega)), hb15.set3 _, own_keep5 hky5 (fun g hg hl => Below.heap_setCell _ _ _ _ (by have := (hky5.lt g hg).1; show g ≠ G1; omega)), hkd5.same (fun g hg hl => Below.heap_setCell _ _ _ _ (by show g ≠ G1; omega)), hm5.same (Below.heap_setCell _ _ _ _ (by show M ≠ G1; omega))⟩
          · go_simp
            go_wp2_with fail
            refine hkey.mono ?_
            rintro e' w4 ⟨hs4, kb, rfl, rfl, hm4, k4, hk4, hk4e, hr4⟩
            have hst4 : Step R w w4 := ⟨hs4.os.trans hst.os, hs4.tape.trans hst.tape, hs4.output.trans hst.output, Nat.le_trans hst.size hs4.size, fun g hg hn => (hs4.block g (by have := hst.size; show g < wr.heap.size; omega) hn (by omega)).trans (hst.block g hg hn)⟩
            have hblk4 : ∀ g, g < wr.heap.size → g ≠ R → g ≠ M → w4.heap[g]? = wr.heap[g]? := hs4.block
            have hb04 := hb0.same (hblk4 G0 hb0.lt (by omega) (by omega))
            have hb14 := hb1.same (hblk4 G1 hb1.lt (by omega) (by omega))
            have hky4 : w4.ownsRow B 9 1 kv keys.length (strs keys) := own_keep5 hky (fun g hg hl => hblk4 g hl (by have := (hky.lt g hg).1; omega) (by have := (hky.lt g hg).1; omega))
            have hkd4 : Kids B kv.ownBlock v kids w4 := hkd.same (fun g hg hl => hblk4 g hl (by omega) (by omega))
            have hz4 : wr.heap.size ≤ w4.heap.size := hs4.size
            have m4 : w4.cell? ⟨G1, 3, none⟩ = some kv := hb14.p3
            have m5 : (w4.alloc (Obj.cells #[.string kb] 9)).cell? ⟨G1, 3, none⟩ = some kv := (hb14.alloc _).p3
            go_wp2_with fail
            refine wpAny_ready (rs := [1, 5]) (by kernel_rfl) (by simp) ?_
            refine AllReady.cons rfl (fun K hK => ?_) (AllReady.cons rfl (fun K hK => ?_) AllReady.nil)
            · go_simp
              refine hK _ _ ?_
              clear hK K
              refine wpAny_ready (rs := [5]) (by kernel_rfl) (by simp) ?_
              refine AllReady.cons rfl (fun K hK => ?_) AllReady.nil
              go_simp
              refine hK _ _ ?_
              clear hK K
              refine wpAny_ready (rs := [6]) (by kernel_rfl) (by simp) ?_
              refine AllReady.cons rfl (fun K hK => ?_) AllReady.nil
              refine key_step rfl (.tmp 16) (.tmp 20) rfl B _ kv keys (hky4.alloc _) kb w4.heap.size _ (0, 0) (Kit.fresh_block w4 _ _) (by first | rfl | simp [Act.eval, Act.put]) (by first | rfl | simp [Act.eval, Act.put]) (by omega) (by simp; omega) ?_
              intro g5 cap5 w5 hky5 hgr5 hat5
              have hsz5 : w4.heap.size + 1 ≤ w5.heap.size := by have := hgr5.size; simpa using this
              have hold5 : ∀ g, g < w4.heap.size → kv.ownBlock ≠ some g → w5.heap[g]? = w4.heap[g]? := fun g hg hn => (hgr5.block g (by simp; omega) (fun e => hn e.symm)).trans (Below.heap_alloc w4 _ g hg)
              have hne : ∀ g, g < B → kv.ownBlock ≠ some g := fun g hg e => by have := (hky4.lt g e).1; omega
              have hb05 := hb04.same (hold5 G0 hb04.lt (hne G0 (by omega)))
              have hb15 := hb14.same (hold5 G1 hb14.lt (hne G1 (by omega)))
              have hr5 : Rc R s k4 w5 := ⟨by rw [hold5 R hr4.lt (hne R (by omega))]; exact hr4.blk⟩
              have hm5 : Seen M (keys ++ [kb]) w5 := hm4.same (hold5 M (World.ownsMap.lt hm4) (hne M hMB))
              have hst5 : Step R w w5 := ⟨hgr5.os.trans hst4.os, hgr5.tape.trans hst4.tape, hgr5.output.trans hst4.output, by have := hst4.size; omega, fun g hg hn => (hold5 g (by have := hst4.size; omega) (hne g (by omega))).trans (hst4.block g hg hn)⟩
              have hkd5 : Kids B (some g5) v kids w5 := (hkd4.same (w' := w4.alloc (Obj.cells #[.string kb] 9)) (fun g hg hl => Below.heap_alloc w4 _ g hl)).beside hgr5 (fun g hg => own_ne (hkd4.choose_spec.1) hky4 (by decide) hg) (fun g e => by have e' : g5 = g := Option.some.inj e; subst e'; exact hat5)
              have m6 := hb15.p3
              have m7 := hb15.free 3
              refine hK _ _ ?_
              clear hK K
              refine wpAny_take (i := 7) (v := ?_) rfl (by kernel_rfl) (by kernel_rfl) (by kernel_rfl) (fun _ _ _ h => h) (Or.inl ⟨by rfl, ?_⟩) ?_
              rotate_left 1
              · (intro w; go_simp) <;> with_reducible rfl
              refine wpAny_ready (rs := [8]) (by kernel_rfl) (by simp) ?_
              refine AllReady.cons rfl (fun K hK => ?_) AllReady.nil
              go_simp
              refine hK _ _ ?_
              clear hK K
              refine wpAny_done (by kernel_rfl) ?_ _
              go_wp2_with fail
              go_meet
              exact ⟨k4, _, hk4e, hk4, by simp, ⟨(Below.heap_setCell _ _ _ _ (by show R ≠ G1; omega)).trans hr5.blk⟩, hst5.setNew (by omega) _ _, by simp [World.setCell]; omega, hb05.same (Below.heap_setCell _ _ _ _ (by show G0 ≠ G1; omega)), hb15.set3 _, own_keep5 hky5 (fun g hg hl => Below.heap_setCell _ _ _ _ (by have := (hky5.lt g hg).1; show g ≠ G1; omega)), hkd5.same (fun g hg hl => Below.heap_setCell _ _ _ _ (by show g ≠ G1; omega)), hm5.same (Below.heap_setCell _ _ _ _ (by show M ≠ G1; omega))⟩
            · go_simp
              refine hK _ _ ?_
              clear hK K
              refine wpAny_ready (rs := [1]) (by kernel_rfl) (by simp) ?_
              refine AllReady.cons rfl (fun K hK => ?_) AllReady.nil
              go_simp
              refine hK _ _ ?_
              clear hK K
              refine wpAny_ready (rs := [6]) (by kernel_rfl) (by simp) ?_
              refine AllReady.cons rfl (fun K hK => ?_) AllReady.nil
              refine key_step rfl (.tmp 16) (.tmp 20) rfl B _ kv keys (hky4.alloc _) kb w4.heap.size _ (0, 0) (Kit.fresh_block w4 _ _) (by first | rfl | simp [Act.eval, Act.put]) (by first | rfl | simp [Act.eval, Act.put]) (by omega) (by simp; omega) ?_
              intro g5 cap5 w5 hky5 hgr5 hat5
              have hsz5 : w4.heap.size + 1 ≤ w5.heap.size := by have := hgr5.size; simpa using this
              have hold5 : ∀ g, g < w4.heap.size → kv.ownBlock ≠ some g → w5.heap[g]? = w4.heap[g]? := fun g hg hn => (hgr5.block g (by simp; omega) (fun e => hn e.symm)).trans (Below.heap_alloc w4 _ g hg)
              have hne : ∀ g, g < B → kv.ownBlock ≠ some g := fun g hg e => by have := (hky4.lt g e).1; omega
              have hb05 := hb04.same (hold5 G0 hb04.lt (hne G0 (by omega)))
              have hb15 := hb14.same (hold5 G1 hb14.lt (hne G1 (by omega)))
              have hr5 : Rc R s k4 w5 := ⟨by rw [hold5 R hr4.lt (hne R (by omega))]; exact hr4.blk⟩
              have hm5 : Seen M (keys ++ [kb]) w5 := hm4.same (hold5 M (World.ownsMap.lt hm4) (hne M hMB))
              have hst5 : Step R w w5 := ⟨hgr5.os.trans hst4.os, hgr5.tape.trans hst4.tape, hgr5.output.trans hst4.output, by have := hst4.size; omega, fun g hg hn => (hold5 g (by have := hst4.size; omega) (hne g (by omega))).trans (hst4.block g hg hn)⟩
              have hkd5 : Kids B (some g5) v kids w5 := (hkd4.same (w' := w4.alloc (Obj.cells #[.string kb] 9)) (fun g hg hl => Below.heap_alloc w4 _ g hl)).beside hgr5 (fun g hg => own_ne (hkd4.choose_spec.1) hky4 (by decide) hg) (fun g e => by have e' : g5 = g := Option.some.inj e; subst e'; exact hat5)
              have m6 := hb15.p3
              have m7 := hb15.free 3
              refine hK _ _ ?_
              clear hK K
              refine wpAny_take (i := 7) (v := ?_) rfl (by kernel_rfl) (by kernel_rfl) (by kernel_rfl) (fun _ _ _ h => h) (Or.inl ⟨by rfl, ?_⟩) ?_
              rotate_left 1
              · (intro w; go_simp) <;> with_reducible rfl
              refine wpAny_ready (rs := [8]) (by kernel_rfl) (by simp) ?_
              refine AllReady.cons rfl (fun K hK => ?_) AllReady.nil
              go_simp
              refine hK _ _ ?_
              clear hK K
              refine wpAny_done (by kernel_rfl) ?_ _
              go_wp2_with fail
              go_meet
              exact ⟨k4, _, hk4e, hk4, by simp, ⟨(Below.heap_setCell _ _ _ _ (by show R ≠ G1; omega)).trans hr5.blk⟩, hst5.setNew (by omega) _ _, by simp [World.setCell]; omega, hb05.same (Below.heap_setCell _ _ _ _ (by show G0 ≠ G1; omega)), hb15.set3 _, own_keep5 hky5 (fun g hg hl => Below.heap_setCell _ _ _ _ (by have := (hky5.lt g hg).1; show g ≠ G1; omega)), hkd5.same (fun g hg hl => Below.heap_setCell _ _ _ _ (by show g ≠ G1; omega)), hm5.same (Below.heap_setCell _ _ _ _ (by show M ≠ G1; omega))⟩
        case rest =>
          obtain ⟨k4, kv4, hre, hk4, hkn, hr4, hst4, hB4, hb04, hb14, hky4, hkd4, hm4⟩ := hcut
          have hqk : q ≤ k4 := keyC_place (by rw [HV.out, hre.out]) hk4 hq
          rw [hre.out] at HQ2
          clear hr hst hBs hb0 hb1 hkd hky hsm hkey l3 HV hre
          have hw := want_any R s k4 58 _ hr4 hs hk4 (by decide)
          obtain ⟨o1, ho1⟩ : ∃ o1, wantL 58 (tail s k4) = o1 := ⟨_, rfl⟩
          have HQ3 := HQ2.out
          rw [ho1] at hw HQ3
          match o1, ho1, hw, HQ3 with
          | .error c, _, hw, HQ3 =>
            have HE := Lib.hid (show O = .error c from HQ3.symm)
            clear HQ3 HQ2
            go_wp2_with fail
            refine hw.mono ?_
            rintro e' w5 ⟨hs5, hL⟩
            obtain rfl : e' = Errs c := hL
            go_wp2_with fail
            rw [HE.out]
            exact ⟨rfl, hst4.trans hs5, rfl⟩
          | .ok (u, r1), ho1, hw, HQ3 =>
            have HQ4 := Lib.hid HQ3
            have HO1 := Lib.hid ho1
            clear HQ3 HQ2 ho1
            go_upto_region 8 with fail
            refine hw.mono ?_
            rintro e' w5 ⟨hs5, hL⟩
            obtain ⟨rfl, k5, hk5, rfl, hr5⟩ := hL
            have hst5 := hst4.trans hs5
            have hb05 := hb04.keep hs5 (by omega)
            have hb15 := hb14.keep hs5 (by omega)
            have hky5 : w5.ownsRow B 9 1 kv4 ks.length (strs ks) := own_keep5 hky4 (fun g hg hl => hs5.block g hl (by have := (hky4.lt g hg).1; omega))
            have hkd5 : Kids B kv4.ownBlock v kids w5 := hkd4.same (fun g hg hl => hs5.block g hl (by omega))
            have hm5 : Seen M ks w5 := hm4.same (hs5.block M (World.ownsMap.lt hm4) (by omega))
            have hB5 : B ≤ w5.heap.size := by have := hs5.size; omega
            have hkk : k4 < k5 := by
              have h9 := HO1.out
              unfold wantL at h9
              split at h9
              · rename_i rr er
                have e9 := congrArg Prod.snd (Except.ok.inj h9)
                simp only at e9
                have h10 := eat_lt er
                have h11 := (skip_suffix (tail s k4)).length_le
                rw [e9, tail_length] at h10
                rw [tail_length] at h11
                omega
              · cases h9
            clear hr4 hst4 hB4 hb04 hb14 hky4 hkd4 hm4 hs5 hw HO1
            have hval := hv R k5 w5.drew ⟨hr5.blk⟩ hk5
            rw [show ((a + 1 : Nat) : Int) = (a : Int) + 1 by omega] at hval
            have hwr : IntKind.i64.wrap ((a : Int) + 1) = (a : Int) + 1 := by rw [IntKind.wrap_i64]; omega
            have hvn := fun g (hg : v.ownBlock = some g) => show g < w5.heap.size from ((hkd5.choose_spec.1).lt g hg).2
            have hxn := fun g (hg : kv4.ownBlock = some g) => show g < w5.heap.size from (hky5.lt g hg).2
            have l4 : w5.drew.cell? ⟨G1, 4, none⟩ = some v := hb15.p4
            obtain ⟨o, ho⟩ : ∃ o, valueG numC n (tail s k5) = o := ⟨_, rfl⟩
            rw [ho] at hval
            match o, ho, hval with
            | .error c, ho, hval =>
              have HE : Hid (O = .error c) := by
                show O = _
                rw [← HQ4.out]
                unfold afterKey
                simp only [ho]
              clear HQ4 ho
              go_upto_region 8 with fail
              refine wp_region_any (by kernel_rfl) ?_
              try (change wpAny _ _ _ _ _ _ _ (World.drew _))
              refine wpAny_take (i := 0) (v := ?_) rfl (by kernel_rfl) (by kernel_rfl) (by kernel_rfl) (fun _ _ _ h => h) (Or.inl ⟨by rfl, ?_⟩) ?_
              rotate_left 1
              · (intro w; go_simp) <;> with_reducible rfl
              refine wpAny_take (i := 2) (v := ?_) rfl (by kernel_rfl) (by kernel_rfl) (by kernel_rfl) (fun _ _ _ h => h) (Or.inl ⟨by rfl, ?_⟩) ?_
              rotate_left 1
              · (intro w; go_simp) <;> with_reducible rfl
              refine wpAny_take (i := 3) (v := ?_) rfl (by kernel_rfl) (by kernel_rfl) (by kernel_rfl) (fun _ _ _ h => h) (Or.inl ⟨by rfl, ?_⟩) ?_
              rotate_left 1
              · (intro w; go_simp) <;> with_reducible rfl
              refine wpAny_take (i := 4) (v := ?_) rfl (by kernel_rfl) (by kernel_rfl) (by kernel_rfl) (fun _ _ _ h => h) (Or.inl ⟨by rfl, ?_⟩) ?_
              rotate_left 1
              · (intro w; go_simp) <;> with_reducible rfl
              refine wpAny_ready (rs := [1, 5]) (by kernel_rfl) (by simp) ?_
              refine AllReady.cons rfl (fun K hK => ?_) (AllReady.cons rfl (fun K hK => ?_) AllReady.nil)
              · go_simp
                refine hK _ _ ?_
                clear hK K
                refine wpAny_ready (rs := [5]) (by kernel_rfl) (by simp) ?_
                refine AllReady.cons rfl (fun K hK => ?_) AllReady.nil
                go_simp
                go_wp2_with fail
                refine hval.mono ?_
                rintro e' w6 ⟨hs6, hL⟩
                obtain rfl : e' = Errs c := hL
                have hst6 : Step R w w6 := Step.trans (w' := w5.drew) hst5.drew hs6
                go_wp2_with fail
                rw [HE.out]
                exact ⟨rfl, hst6, rfl⟩
              · go_simp
                go_wp2_with fail
                refine hval.mono ?_
                rintro e' w6 ⟨hs6, hL⟩
                obtain rfl : e' = Errs c := hL
                have hst6 : Step R w w6 := Step.trans (w' := w5.drew) hst5.drew hs6
                go_wp2_with fail
                rw [HE.out]
                exact ⟨rfl, hst6, rfl⟩
            | .ok (j, r), ho, hval =>
              have HQ5 : Hid ((match eatL 125 (skipL r) with
                | some r3 => (.ok (listJ true ks (kids ++ [j]), r3) : Out J)
                | none => match eatL 44 (skipL r) with
                  | some r3 => itemsG (valueG numC n) true f ks (kids ++ [j]) r3
                  | none => .error 3) = O) := by
                have h9 := HQ4.out
                unfold afterKey at h9
                simp only [ho] at h9
                exact h9
              have HV := Lib.hid ho
              clear HQ4 ho
              go_upto_region 8 with fail
              go_cut [] from 25 (fun wx => ∃ k6 v6, Hid (r = tail s k6) ∧ k6 ≤ s.size ∧ Rc R s k6 wx ∧ Step R w wx ∧ B ≤ wx.heap.size ∧ Bx G0 (.int .i64 0) (.int .i64 0) (.string { data := #[] }) (.slice none 0 0) (.slice none 0 0) wx ∧ Bx G1 (.int .i64 7) (.int .i64 0) (.string { data := #[] }) kv4 v6 wx ∧ wx.ownsRow B 9 1 kv4 ks.length (strs ks) ∧ Kids B kv4.ownBlock v6 (kids ++ [j]) wx ∧ Seen M ks wx)
              case first =>
                refine wp_region_any (by kernel_rfl) ?_
                try (change wpAny _ _ _ _ _ _ _ (World.drew _))
                refine wpAny_take (i := 0) (v := ?_) rfl (by kernel_rfl) (by kernel_rfl) (by kernel_rfl) (fun _ _ _ h => h) (Or.inl ⟨by rfl, ?_⟩) ?_
                rotate_left 1
                · (intro w; go_simp) <;> with_reducible rfl
                refine wpAny_take (i := 2) (v := ?_) rfl (by kernel_rfl) (by kernel_rfl) (by kernel_rfl) (fun _ _ _ h => h) (Or.inl ⟨by rfl, ?_⟩) ?_
                rotate_left 1
                · (intro w; go_simp) <;> with_reducible rfl
                refine wpAny_take (i := 3) (v := ?_) rfl (by kernel_rfl) (by kernel_rfl) (by kernel_rfl) (fun _ _ _ h => h) (Or.inl ⟨by rfl, ?_⟩) ?_
                rotate_left 1
                · (intro w; go_simp) <;> with_reducible rfl
                refine wpAny_take (i := 4) (v := ?_) rfl (by kernel_rfl) (by kernel_rfl) (by kernel_rfl) (fun _ _ _ h => h) (Or.inl ⟨by rfl, ?_⟩) ?_
                rotate_left 1
                · (intro w; go_simp) <;> with_reducible rfl
                refine wpAny_ready (rs := [1, 5]) (by kernel_rfl) (by simp) ?_
                refine AllReady.cons rfl (fun K hK => ?_) (AllReady.cons rfl (fun K hK => ?_) AllReady.nil)
                · go_simp
                  refine hK _ _ ?_
                  clear hK K
                  refine wpAny_ready (rs := [5]) (by kernel_rfl) (by simp) ?_
                  refine AllReady.cons rfl (fun K hK => ?_) AllReady.nil
                  go_simp
                  go_wp2_with fail
                  refine hval.mono ?_
                  rintro e' w6 ⟨hs6, c0, c1, c2, c3, c4, rfl, hn6, k6, hk6, hk6e, hr6⟩
                  have hst6 : Step R w w6 := Step.trans (w' := w5.drew) hst5.drew hs6
                  have hb06 : Bx G0 _ _ _ _ _ w6 := hb05.drew.keep hs6 (by omega)
                  have hb16 : Bx G1 _ _ _ _ _ w6 := hb15.drew.keep hs6 (by omega)
                  have hky6 : w6.ownsRow B 9 1 kv4 ks.length (strs ks) := own_keep5 hky5 (fun g hg hl => hs6.block g hl (by have := (hky5.lt g hg).1; omega))
                  have hkd6 : Kids B kv4.ownBlock v kids w6 := hkd5.same (fun g hg hl => hs6.block g hl (by omega))
                  have hm6 : Seen M ks w6 := hm5.same (hs6.block M (World.ownsMap.lt hm5) (by omega))
                  have hz6 : w5.heap.size ≤ w6.heap.size := hs6.size
                  have m4 : w6.cell? ⟨G1, 4, none⟩ = some v := hb16.p4
                  have m5 : (w6.alloc (Obj.cells #[c0, c1, c2, c3, c4] 25)).cell? ⟨G1, 4, none⟩ = some v := (hb16.alloc _).p4
                  go_wp2_with fail
                  refine wpAny_ready (rs := [6]) (by kernel_rfl) (by simp) ?_
                  refine AllReady.cons rfl (fun K hK => ?_) AllReady.nil
                  go_simp
                  refine hK _ _ ?_
                  clear hK K
                  refine wpAny_ready (rs := [7]) (by kernel_rfl) (by simp) ?_
                  refine AllReady.cons rfl (fun K hK => ?_) AllReady.nil
                  refine Kids.step rfl (.tmp 26) (.tmp 31) rfl B kv4.ownBlock _ v kids (hkd6.same (fun g hg hl => Below.heap_alloc w6 (Obj.cells #[c0, c1, c2, c3, c4] 25) g hl)) j c0 c1 c2 c3 c4 w5.heap.size (hn6.keep (fun g hg hl => ⟨hg, Below.heap_alloc w6 _ g hl⟩)) hB5 hvn hxn w6.heap.size _ (0, 0) (Kit.fresh_block w6 _ _) (by first | rfl | simp [Act.eval, Act.put]) (by first | rfl | simp [Act.eval, Act.put]) (by omega) (by simp; omega) ?_
                  intro g7 cap7 w7 hkd7 hgr7 hat7
                  have hsz7 : w6.heap.size + 1 ≤ w7.heap.size := by have := hgr7.size; simpa using this
                  have hne : ∀ g, g < B → v.ownBlock ≠ some g := fun g hg e => by have := (hkd6.choose_spec.1.lt g e).1; omega
                  have hold7 : ∀ g, g < w6.heap.size → v.ownBlock ≠ some g → w7.heap[g]? = w6.heap[g]? := fun g hg hn => (hgr7.block g (by simp; omega) (fun e => hn e.symm)).trans (Below.heap_alloc w6 _ g hg)
                  have hb07 := hb06.same (hold7 G0 hb06.lt (hne G0 (by omega)))
                  have hb17 := hb16.same (hold7 G1 hb16.lt (hne G1 (by omega)))
                  have hr7 : Rc R s k6 w7 := ⟨by rw [hold7 R hr6.lt (hne R (by omega))]; exact hr6.blk⟩
                  have hm7 : Seen M ks w7 := hm6.same (hold7 M (World.ownsMap.lt hm6) (hne M hMB))
                  have hky7 : w7.ownsRow B 9 1 kv4 ks.length (strs ks) := own_keep5 hky6 (fun g hg hl => hold7 g hl (own_ne hky6 (hkd6.choose_spec.1) (by decide) hg))
                  have hst7 : Step R w w7 := ⟨hgr7.os.trans hst6.os, hgr7.tape.trans hst6.tape, hgr7.output.trans hst6.output, by have := hst6.size; omega, fun g hg hn => (hold7 g (by have := hst6.size; omega) (hne g (by omega))).trans (hst6.block g hg hn)⟩
                  have m6 := hb17.p4
                  have m7 := hb17.free 4
                  refine hK _ _ ?_
                  clear hK K
                  refine wpAny_take (i := 8) (v := ?_) rfl (by kernel_rfl) (by kernel_rfl) (by kernel_rfl) (fun _ _ _ h => h) (Or.inl ⟨by rfl, ?_⟩) ?_
                  rotate_left 1
                  · (intro w; go_simp) <;> with_reducible rfl
                  refine wpAny_ready (rs := [9]) (by kernel_rfl) (by simp) ?_
                  refine AllReady.cons rfl (fun K hK => ?_) AllReady.nil
                  go_simp
                  refine hK _ _ ?_
                  clear hK K
                  refine wpAny_done (by kernel_rfl) ?_ _
                  go_wp2_with fail
                  go_meet
                  exact ⟨k6, _, hk6e, hk6, ⟨(Below.heap_setCell _ _ _ _ (by show R ≠ G1; omega)).trans hr7.blk⟩, hst7.setNew (by omega) _ _, by simp [World.setCell]; omega, hb07.same (Below.heap_setCell _ _ _ _ (by show G0 ≠ G1; omega)), hb17.set4 _, own_keep5 hky7 (fun g hg hl => Below.heap_setCell _ _ _ _ (by have := (hky7.lt g hg).1; show g ≠ G1; omega)), hkd7.same (fun g hg hl => Below.heap_setCell _ _ _ _ (by show g ≠ G1; omega)), hm7.same (Below.heap_setCell _ _ _ _ (by show M ≠ G1; omega))⟩
                · go_simp
                  go_wp2_with fail
                  refine hval.mono ?_
                  rintro e' w6 ⟨hs6, c0, c1, c2, c3, c4, rfl, hn6, k6, hk6, hk6e, hr6⟩
                  have hst6 : Step R w w6 := Step.trans (w' := w5.drew) hst5.drew hs6
                  have hb06 : Bx G0 _ _ _ _ _ w6 := hb05.drew.keep hs6 (by omega)
                  have hb16 : Bx G1 _ _ _ _ _ w6 := hb15.drew.keep hs6 (by omega)
                  have hky6 : w6.ownsRow B 9 1 kv4 ks.length (strs ks) := own_keep5 hky5 (fun g hg hl => hs6.block g hl (by have := (hky5.lt g hg).1; omega))
                  have hkd6 : Kids B kv4.ownBlock v kids w6 := hkd5.same (fun g hg hl => hs6.block g hl (by omega))
                  have hm6 : Seen M ks w6 := hm5.same (hs6.block M (World.ownsMap.lt hm5) (by omega))
                  have hz6 : w5.heap.size ≤ w6.heap.size := hs6.size
                  have m4 : w6.cell? ⟨G1, 4, none⟩ = some v := hb16.p4
                  have m5 : (w6.alloc (Obj.cells #[c0, c1, c2, c3, c4] 25)).cell? ⟨G1, 4, none⟩ = some v := (hb16.alloc _).p4
                  go_wp2_with fail
                  refine wpAny_ready (rs := [1, 6]) (by kernel_rfl) (by simp) ?_
                  refine AllReady.cons rfl (fun K hK => ?_) (AllReady.cons rfl (fun K hK => ?_) AllReady.nil)
                  · go_simp
                    refine hK _ _ ?_
                    clear hK K
                    refine wpAny_ready (rs := [6]) (by kernel_rfl) (by simp) ?_
                    refine AllReady.cons rfl (fun K hK => ?_) AllReady.nil
                    go_simp
                    refine hK _ _ ?_
                    clear hK K
                    refine wpAny_ready (rs := [7]) (by kernel_rfl) (by simp) ?_
                    refine AllReady.cons rfl (fun K hK => ?_) AllReady.nil
                    refine Kids.step rfl (.tmp 26) (.tmp 31) rfl B kv4.ownBlock _ v kids (hkd6.same (fun g hg hl => Below.heap_alloc w6 (Obj.cells #[c0, c1, c2, c3, c4] 25) g hl)) j c0 c1 c2 c3 c4 w5.heap.size (hn6.keep (fun g hg hl => ⟨hg, Below.heap_alloc w6 _ g hl⟩)) hB5 hvn hxn w6.heap.size _ (0, 0) (Kit.fresh_block w6 _ _) (by first | rfl | simp [Act.eval, Act.put]) (by first | rfl | simp [Act.eval, Act.put]) (by omega) (by simp; omega) ?_
                    intro g7 cap7 w7 hkd7 hgr7 hat7
                    have hsz7 : w6.heap.size + 1 ≤ w7.heap.size := by have := hgr7.size; simpa using this
                    have hne : ∀ g, g < B → v.ownBlock ≠ some g := fun g hg e => by have := (hkd6.choose_spec.1.lt g e).1; omega
                    have hold7 : ∀ g, g < w6.heap.size → v.ownBlock ≠ some g → w7.heap[g]? = w6.heap[g]? := fun g hg hn => (hgr7.block g (by simp; omega) (fun e => hn e.symm)).trans (Below.heap_alloc w6 _ g hg)
                    have hb07 := hb06.same (hold7 G0 hb06.lt (hne G0 (by omega)))
                    have hb17 := hb16.same (hold7 G1 hb16.lt (hne G1 (by omega)))
                    have hr7 : Rc R s k6 w7 := ⟨by rw [hold7 R hr6.lt (hne R (by omega))]; exact hr6.blk⟩
                    have hm7 : Seen M ks w7 := hm6.same (hold7 M (World.ownsMap.lt hm6) (hne M hMB))
                    have hky7 : w7.ownsRow B 9 1 kv4 ks.length (strs ks) := own_keep5 hky6 (fun g hg hl => hold7 g hl (own_ne hky6 (hkd6.choose_spec.1) (by decide) hg))
                    have hst7 : Step R w w7 := ⟨hgr7.os.trans hst6.os, hgr7.tape.trans hst6.tape, hgr7.output.trans hst6.output, by have := hst6.size; omega, fun g hg hn => (hold7 g (by have := hst6.size; omega) (hne g (by omega))).trans (hst6.block g hg hn)⟩
                    have m6 := hb17.p4
                    have m7 := hb17.free 4
                    refine hK _ _ ?_
                    clear hK K
                    refine wpAny_take (i := 8) (v := ?_) rfl (by kernel_rfl) (by kernel_rfl) (by kernel_rfl) (fun _ _ _ h => h) (Or.inl ⟨by rfl, ?_⟩) ?_
                    rotate_left 1
                    · (intro w; go_simp) <;> with_reducible rfl
                    refine wpAny_ready (rs := [9]) (by kernel_rfl) (by simp) ?_
                    refine AllReady.cons rfl (fun K hK => ?_) AllReady.nil
                    go_simp
                    refine hK _ _ ?_
                    clear hK K
                    refine wpAny_done (by kernel_rfl) ?_ _
                    go_wp2_with fail
                    go_meet
                    exact ⟨k6, _, hk6e, hk6, ⟨(Below.heap_setCell _ _ _ _ (by show R ≠ G1; omega)).trans hr7.blk⟩, hst7.setNew (by omega) _ _, by simp [World.setCell]; omega, hb07.same (Below.heap_setCell _ _ _ _ (by show G0 ≠ G1; omega)), hb17.set4 _, own_keep5 hky7 (fun g hg hl => Below.heap_setCell _ _ _ _ (by have := (hky7.lt g hg).1; show g ≠ G1; omega)), hkd7.same (fun g hg hl => Below.heap_setCell _ _ _ _ (by show g ≠ G1; omega)), hm7.same (Below.heap_setCell _ _ _ _ (by show M ≠ G1; omega))⟩
                  · go_simp
                    refine hK _ _ ?_
                    clear hK K
                    refine wpAny_ready (rs := [1]) (by kernel_rfl) (by simp) ?_
                    refine AllReady.cons rfl (fun K hK => ?_) AllReady.nil
                    go_simp
                    refine hK _ _ ?_
                    clear hK K
                    refine wpAny_ready (rs := [7]) (by kernel_rfl) (by simp) ?_
                    refine AllReady.cons rfl (fun K hK => ?_) AllReady.nil
                    refine Kids.step rfl (.tmp 26) (.tmp 31) rfl B kv4.ownBlock _ v kids (hkd6.same (fun g hg hl => Below.heap_alloc w6 (Obj.cells #[c0, c1, c2, c3, c4] 25) g hl)) j c0 c1 c2 c3 c4 w5.heap.size (hn6.keep (fun g hg hl => ⟨hg, Below.heap_alloc w6 _ g hl⟩)) hB5 hvn hxn w6.heap.size _ (0, 0) (Kit.fresh_block w6 _ _) (by first | rfl | simp [Act.eval, Act.put]) (by first | rfl | simp [Act.eval, Act.put]) (by omega) (by simp; omega) ?_
                    intro g7 cap7 w7 hkd7 hgr7 hat7
                    have hsz7 : w6.heap.size + 1 ≤ w7.heap.size := by have := hgr7.size; simpa using this
                    have hne : ∀ g, g < B → v.ownBlock ≠ some g := fun g hg e => by have := (hkd6.choose_spec.1.lt g e).1; omega
                    have hold7 : ∀ g, g < w6.heap.size → v.ownBlock ≠ some g → w7.heap[g]? = w6.heap[g]? := fun g hg hn => (hgr7.block g (by simp; omega) (fun e => hn e.symm)).trans (Below.heap_alloc w6 _ g hg)
                    have hb07 := hb06.same (hold7 G0 hb06.lt (hne G0 (by omega)))
                    have hb17 := hb16.same (hold7 G1 hb16.lt (hne G1 (by omega)))
                    have hr7 : Rc R s k6 w7 := ⟨by rw [hold7 R hr6.lt (hne R (by omega))]; exact hr6.blk⟩
                    have hm7 : Seen M ks w7 := hm6.same (hold7 M (World.ownsMap.lt hm6) (hne M hMB))
                    have hky7 : w7.ownsRow B 9 1 kv4 ks.length (strs ks) := own_keep5 hky6 (fun g hg hl => hold7 g hl (own_ne hky6 (hkd6.choose_spec.1) (by decide) hg))
                    have hst7 : Step R w w7 := ⟨hgr7.os.trans hst6.os, hgr7.tape.trans hst6.tape, hgr7.output.trans hst6.output, by have := hst6.size; omega, fun g hg hn => (hold7 g (by have := hst6.size; omega) (hne g (by omega))).trans (hst6.block g hg hn)⟩
                    have m6 := hb17.p4
                    have m7 := hb17.free 4
                    refine hK _ _ ?_
                    clear hK K
                    refine wpAny_take (i := 8) (v := ?_) rfl (by kernel_rfl) (by kernel_rfl) (by kernel_rfl) (fun _ _ _ h => h) (Or.inl ⟨by rfl, ?_⟩) ?_
                    rotate_left 1
                    · (intro w; go_simp) <;> with_reducible rfl
                    refine wpAny_ready (rs := [9]) (by kernel_rfl) (by simp) ?_
                    refine AllReady.cons rfl (fun K hK => ?_) AllReady.nil
                    go_simp
                    refine hK _ _ ?_
                    clear hK K
                    refine wpAny_done (by kernel_rfl) ?_ _
                    go_wp2_with fail
                    go_meet
                    exact ⟨k6, _, hk6e, hk6, ⟨(Below.heap_setCell _ _ _ _ (by show R ≠ G1; omega)).trans hr7.blk⟩, hst7.setNew (by omega) _ _, by simp [World.setCell]; omega, hb07.same (Below.heap_setCell _ _ _ _ (by show G0 ≠ G1; omega)), hb17.set4 _, own_keep5 hky7 (fun g hg hl => Below.heap_setCell _ _ _ _ (by have := (hky7.lt g hg).1; show g ≠ G1; omega)), hkd7.same (fun g hg hl => Below.heap_setCell _ _ _ _ (by show g ≠ G1; omega)), hm7.same (Below.heap_setCell _ _ _ _ (by show M ≠ G1; omega))⟩
              case rest =>
                obtain ⟨k6, v6, hre, hk6, hr6, hst6, hB6, hb06, hb16, hky6, hkd6, hm6⟩ := hcut
                have hkk6 : k5 ≤ k6 := val_place (by rw [HV.out, hre.out]) hk6 hk5
                rw [hre.out] at HQ5
                clear hr5 hst5 hB5 hb05 hb15 hkd5 hky5 hm5 hval hvn hxn l4 HV hre
                cases hc : eatL 125 (skipL (tail s k6)) with
                | some r1 =>
                  have HE := Lib.hid (show O = .ok (listJ true ks (kids ++ [j]), r1) by rw [← HQ5.out, hc])
                  have HC := Lib.hid hc
                  clear hc HQ5
                  go_wp2_with fail
                  refine (found_yes R s k6 125 r1 _ hr6 hs hk6 HC.out).mono ?_
                  rintro e' w7 ⟨rfl, hs7, k7, hk71, hk72, hk7, hr7⟩
                  have hst7 := hst6.trans hs7
                  have hb07 := hb06.keep hs7 (by omega)
                  have hb17 := hb16.keep hs7 (by omega)
                  have hky7 : w7.ownsRow B 9 1 kv4 ks.length (strs ks) := own_keep5 hky6 (fun g hg hl => hs7.block g hl (by have := (hky6.lt g hg).1; omega))
                  have hkd7 : Kids B kv4.ownBlock v6 (kids ++ [j]) w7 := hkd6.same (fun g hg hl => hs7.block g hl (by omega))
                  clear hr6 hst6 hB6 hb06 hb16 hky6 hkd6 hm6 hs7
                  obtain ⟨bo, bp, rfl⟩ := own_form hky7
                  obtain ⟨ao, cp, rfl⟩ := hkd7.form
                  have p0 := hb17.p0
                  have p1 := hb17.p1
                  have p2 := hb17.p2
                  have p3 := hb17.p3
                  have p4 := hb17.p4
                  have z0 := hb07.p0
                  have z1 := hb07.p1
                  have z2 := hb07.p2
                  have z3 := hb07.p3
                  have z4 := hb07.p4
                  have f0 := hb07.free 0
                  have f1 := hb07.free 1
                  have f2 := hb07.free 2
                  have f3 := hb07.free 3
                  have f4 := hb07.free 4
                  go_wp2_with fail
                  refine bodyPost_ret (node_result rfl _ rfl (hb07.setAll _ _ _ _ _)) rfl ?_
                  rw [HE.out]
                  refine ⟨putN_step hst7 (by omega) _ _ _ _ _, _, _, _, _, _, rfl, ?_, k7, hk72, hk7, ⟨(putN_block w7 G0 _ _ _ _ _ R (by omega)).trans hr7.blk⟩⟩
                  refine NodeAt.keep (putN_kept (P := fun g => B ≤ g) (fun g hg => by have : B ≤ g := hg; omega) _ _ _ _ _ |>.trans (P' := fun g => B ≤ g) (kept_mono (fun g hg => by have : B ≤ g := hg; show w.heap.size ≤ g; omega)) (by rw [putN_size]; exact Nat.le_refl _)) ?_
                  obtain ⟨cs, y1, y2⟩ := hkd7.read (fun g => B ≤ g) (fun g hg => hg)
                  have y3 := cells_own (P := fun g => B ≤ g) hky7 (fun g hg => hg)
                  rw [listJ, NodeAt]
                  rw [show (kids ++ [j]).length = kids.length + 1 by simp] at y1 ⊢
                  rw [hkn] at y3 ⊢
                  exact ⟨_, _, rfl, y3, cs, y1, y2⟩
                | none =>
                  have HC := Lib.hid hc
                  have HQ6 : Hid ((match eatL 44 (skipL (tail s k6)) with
                    | some r1 => itemsG (valueG numC n) true f ks (kids ++ [j]) r1
                    | none => .error 3) = O) := by
                    have h9 := HQ5.out
                    rw [hc] at h9
                    exact h9
                  clear hc HQ5
                  go_wp2_with fail
                  refine (found_no R s k6 125 _ hr6 hs hk6 (by decide) HC.out).mono ?_
                  rintro e' w7 ⟨rfl, hs7, k7, hk71, hk72, hk7, hr7⟩
                  have hst7 := hst6.trans hs7
                  have hb07 := hb06.keep hs7 (by omega)
                  have hb17 := hb16.keep hs7 (by omega)
                  have hky7 : w7.ownsRow B 9 1 kv4 ks.length (strs ks) := own_keep5 hky6 (fun g hg hl => hs7.block g hl (by have := (hky6.lt g hg).1; omega))
                  have hkd7 : Kids B kv4.ownBlock v6 (kids ++ [j]) w7 := hkd6.same (fun g hg hl => hs7.block g hl (by omega))
                  have hm7 : Seen M ks w7 := hm6.same (hs7.block M (World.ownsMap.lt hm6) (by omega))
                  have hB7 : B ≤ w7.heap.size := by have := hs7.size; omega
                  have hw := want_any R s k7 44 w7 hr7 hs hk72 (by decide)
                  have hwl : wantL 44 (tail s k7) = wordO (eatL 44 (skipL (tail s k6))) := by
                    show wordO (eatL 44 (skipL (tail s k7))) = _
                    rw [← hk7, skip_skip]
                  rw [hwl] at hw
                  have HQ7 := HQ6.out
                  clear hwl HQ6 hr6 hst6 hB6 hb06 hb16 hky6 hkd6 hm6
                  cases he : eatL 44 (skipL (tail s k6)) with
                  | none =>
                    rw [he] at hw HQ7
                    have HE := Lib.hid (show O = .error 3 from HQ7.symm)
                    clear HQ7 he
                    go_wp2_with fail
                    refine hw.mono ?_
                    rintro e' w8 ⟨hs8, hL⟩
                    obtain rfl : e' = Errs 3 := hL
                    go_wp2_with fail
                    rw [HE.out]
                    exact ⟨rfl, hst7.trans hs8, rfl⟩
                  | some r1 =>
                    rw [he] at hw HQ7
                    have HQ8 : Hid (itemsG (valueG numC n) true f ks (kids ++ [j]) r1 = O) := HQ7
                    have hlt := eat_lt he
                    have hsl := (skip_suffix (tail s k6)).length_le
                    rw [tail_length] at hsl
                    have hfl := tail_length s q
                    clear HQ7 he
                    go_wp2_with fail
                    refine hw.mono ?_
                    rintro e' w8 ⟨hs8, hL⟩
                    obtain ⟨rfl, k8, hk8, rfl, hr8⟩ := hL
                    have hst8 := hst7.trans hs8
                    have hb08 := hb07.keep hs8 (by omega)
                    have hb18 := hb17.keep hs8 (by omega)
                    have hky8 : w8.ownsRow B 9 1 kv4 ks.length (strs ks) := own_keep5 hky7 (fun g hg hl => hs8.block g hl (by have := (hky7.lt g hg).1; omega))
                    have hkd8 : Kids B kv4.ownBlock v6 (kids ++ [j]) w8 := hkd7.same (fun g hg hl => hs8.block g hl (by omega))
                    have hm8 : Seen M ks w8 := hm7.same (hs8.block M (World.ownsMap.lt hm7) (by omega))
                    have hB8 : B ≤ w8.heap.size := by have := hs8.size; omega
                    rw [tail_length] at hlt
                    go_wp2_with fail
                    go_roundg (s.size - k8)
                    case measure => omega
                    case rel => exact ⟨k8, f, ks, kids ++ [j], kv4, v6, rfl, hk8, by rw [List.length_append, List.length_singleton]; omega, by omega, by rw [tail_length]; omega, HQ8, hr8, hst8, hB8, hb08, hb18, hky8, hkd8, hm8⟩
end Go.Proofs.YtbjngdlkamdmdaaDoor.J7
namespace Go.Proofs.YtbjngdlkamdmdaaDoor.J7
open Go Go.RowKit Go.Joins Kit

/-- The contract of what reads an array, an object, within a others. -/
def LstOk (s : ByteArray) (f : FuncId) (a : Nat) (lst : List UInt8 → Out J) : Prop := ∀ (R i : Nat) (w : World), Rc R s i w → i < s.size →
  Calls Tryd.prog f #[.pointer (some ⟨R, 0, none⟩), .int .i64 (a : Int)] w fun e' w' => ValLeft R s w (lst (tail s (i + 1))) e' w'
set_option maxHeartbeats 1000000 in
theorem array_deep (s : ByteArray) : LstOk s 53 24 (fun _ => .error 4) := by
  intro R i w h hi
  go_enter Tryd.func53, Tryd.ntmps53
  go_wp2_with fail
  refine (enter_deep R (newZ w)).mono ?_
  rintro e' w1 ⟨rfl, hs1⟩
  go_wp2_with fail
  exact ⟨rfl, (newZ_step (Step.refl R w)).trans hs1, rfl⟩
set_option maxHeartbeats 1000000 in
theorem object_deep (s : ByteArray) : LstOk s 54 24 (fun _ => .error 4) := by
  intro R i w h hi
  go_enter Tryd.func54, Tryd.ntmps54
  go_wp2_with fail
  refine (enter_deep R (newZ w)).mono ?_
  rintro e' w1 ⟨rfl, hs1⟩
  go_wp2_with fail
  exact ⟨rfl, (newZ_step (Step.refl R w)).trans hs1, rfl⟩
def wordJO (k : Int) (o : Out Unit) : Out J := match o with
  | .error e => .error e
  | .ok (_, r) => .ok (leafJ k, r)
theorem wordJ_O (W l : List UInt8) (k : Int) : wordJ W k l = wordJO k (wantWordL W l) := by
  unfold wordJ wordJO wantWordL
  cases wordL W l <;> rfl
def strJO (o : Out (List UInt8)) : Out J := match o with
  | .error e => .error e
  | .ok (t, r) => .ok (strJ t, r)
theorem textJ_O (r : List UInt8) : textJ r = strJO (quoL (34 :: r)) := by
  unfold textJ strJO quoL
  rw [eatL, if_pos rfl]
  rfl
theorem CellsAt.slice {P : Nat → Prop} {w : World} {n : Nat} {v : Value} {cs : List Value} (h : CellsAt P w n v cs) : ∃ a l m, v = .slice a l m := by
  rcases h with ⟨⟨a, m, rfl⟩, _⟩ | ⟨g, o, cap, rfl, _⟩ <;> exact ⟨_, _, _, rfl⟩
theorem NodeAt.forms {P : Nat → Prop} {w : World} {j : J} {c0 c1 c2 c3 c4 : Value} (h : NodeAt P w j (.agg #[c0, c1, c2, c3, c4])) :
    ∃ x0 x1 x2 a3 l3 m3 a4 l4 m4, c0 = .int .i64 x0 ∧ c1 = .int .i64 x1 ∧ c2 = .string x2 ∧ c3 = .slice a3 l3 m3 ∧ c4 = .slice a4 l4 m4 := by
  obtain ⟨k, n, t, keys, kids⟩ := j
  rw [NodeAt] at h
  obtain ⟨kv, vv, e, h2, cs, h3, _⟩ := h
  obtain ⟨a3, l3, m3, rfl⟩ := h2.slice
  obtain ⟨a4, l4, m4, rfl⟩ := h3.slice
  injection e with e
  injection e with e
  injection e with e0 e
  injection e with e1 e
  injection e with e2 e
  injection e with e3 e
  injection e with e4 e
  exact ⟨_, _, _, _, _, _, _, _, _, e0, e1, e2, e3, e4⟩
/-- Which way a value goes, by the byte that is next. -/
theorem valueH_at {num : List UInt8 → Out J} (lst : Bool → List UInt8 → Out J) (h0 : num [] = .error 3) (l m : List UInt8) (hm : skipL l = m) (x : UInt8) (hx : pk m = x) :
    (x = 110 ∧ valueH num lst l = wordJO 1 (wantWordL nullW m)) ∨ (x = 102 ∧ valueH num lst l = wordJO 2 (wantWordL falseW m)) ∨ (x = 116 ∧ valueH num lst l = wordJO 3 (wantWordL trueW m)) ∨ (x = 34 ∧ valueH num lst l = strJO (quoL m)) ∨
    (x = 91 ∧ ∃ r, m = 91 :: r ∧ valueH num lst l = lst false r) ∨ (x = 123 ∧ ∃ r, m = 123 :: r ∧ valueH num lst l = lst true r) ∨
    ((x ≠ 110 ∧ x ≠ 102 ∧ x ≠ 116 ∧ x ≠ 34 ∧ x ≠ 91 ∧ x ≠ 123) ∧ valueH num lst l = num m) := by
  unfold valueH
  rw [hm]
  cases m with
  | nil =>
    obtain rfl : x = 0 := hx.symm
    refine Or.inr (Or.inr (Or.inr (Or.inr (Or.inr (Or.inr ⟨by decide, h0.symm⟩)))))
  | cons c r =>
    obtain rfl : c = x := hx
    simp only
    by_cases h1 : c = 110
    · rw [if_pos h1, wordJ_O]; exact Or.inl ⟨h1, rfl⟩
    rw [if_neg h1]
    by_cases h2 : c = 102
    · rw [if_pos h2, wordJ_O]; exact Or.inr (Or.inl ⟨h2, rfl⟩)
    rw [if_neg h2]
    by_cases h3 : c = 116
    · rw [if_pos h3, wordJ_O]; exact Or.inr (Or.inr (Or.inl ⟨h3, rfl⟩))
    rw [if_neg h3]
    by_cases h4 : c = 34
    · rw [if_pos h4, textJ_O]; subst h4; exact Or.inr (Or.inr (Or.inr (Or.inl ⟨rfl, rfl⟩)))
    rw [if_neg h4]
    by_cases h5 : c = 91
    · rw [if_pos h5]; subst h5; exact Or.inr (Or.inr (Or.inr (Or.inr (Or.inl ⟨rfl, r, rfl, rfl⟩))))
    rw [if_neg h5]
    by_cases h6 : c = 123
    · rw [if_pos h6]; subst h6; exact Or.inr (Or.inr (Or.inr (Or.inr (Or.inr (Or.inl ⟨rfl, r, rfl, rfl⟩)))))
    rw [if_neg h6]
    exact Or.inr (Or.inr (Or.inr (Or.inr (Or.inr (Or.inr ⟨⟨h1, h2, h3, h4, h5, h6⟩, rfl⟩)))))
theorem kept_new {P : Nat → Prop} {w w1 : World} {G : Nat} (hP : ∀ g, P g → w.heap.size ≤ g ∧ g ≠ G) (d0 d1 d2 d3 d4 : Value) : Kept P (fun g => w.heap.size ≤ g) w1 (putN w1 G d0 d1 d2 d3 d4) := fun g hg _ => ⟨(hP g hg).1, putN_block w1 G _ _ _ _ _ g (hP g hg).2⟩

set_option maxHeartbeats 8000000 in
set_option maxRecDepth 100000 in
theorem value_of (s : ByteArray) (a : Nat) (hs : s.size ≤ 65536) (ha : a ≤ 24) (lst : Bool → List UInt8 → Out J) (hA : LstOk s 53 a (lst false)) (hB : LstOk s 54 a (lst true)) (R i : Nat) (w : World) (h : Rc R s i w) (hi : i ≤ s.size) :
    Calls Tryd.prog 33 #[.pointer (some ⟨R, 0, none⟩), .int .i64 (a : Int)] w fun e' w' => ValLeft R s w (valueH numC lst (tail s i)) e' w' := by
  have hsz : (s.size : Int) ≤ 65536 := by omega
  have hai : (a : Int) ≤ 24 := by omega
  have hRl := h.lt
  obtain ⟨G, hG⟩ : ∃ G, w.heap.size = G := ⟨_, rfl⟩
  have hGR : G ≠ R := by omega
  have hgs : w.heap.size ≤ G := by omega
  obtain ⟨O, hO⟩ : ∃ O, valueH numC lst (tail s i) = O := ⟨_, rfl⟩
  rw [hO]
  have HO := Lib.hid hO
  clear hO
  have hz0 := newZ_bx w
  rw [hG] at hz0
  have hr0 : Rc R s i (newZ w) := h.alloc _
  have hst0 : Step R w (newZ w) := newZ_step (Step.refl R w)
  go_enter Tryd.func33, Tryd.ntmps33
  go_wp2_with fail
  refine (skip_any R s i (newZ w) hr0 hs hi).mono ?_
  rintro e' w1 ⟨rfl, k, hk1, hk2, hk, hr1, hs1⟩
  (try rw [hG])
  have hst1 := hst0.trans hs1
  have hb1 := hz0.keep hs1 hGR
  clear hst0 hr0 hz0 hs1
  have hpeek := peek_any R s k w1 hr1 hs
  obtain ⟨x, hx⟩ : ∃ x, pk (tail s k) = x := ⟨_, rfl⟩
  rw [hx] at hpeek
  have hway := valueH_at (num := numC) lst rfl (tail s i) (tail s k) hk x hx
  rw [HO.out] at hway
  clear HO hk hx
  rcases hway with ⟨rfl, e⟩ | ⟨rfl, e⟩ | ⟨rfl, e⟩ | ⟨rfl, e⟩ | ⟨rfl, r, hm, e⟩ | ⟨rfl, r, hm, e⟩ | ⟨⟨n1, n2, n3, n4, n5, n6⟩, e⟩
  · have hw := fun w0 h0 => wantWord_any R s ⟨#[110, 117, 108, 108]⟩ k w0 h0 hs hk2 (by decide)
    obtain ⟨o, ho⟩ : ∃ o, wantWordL nullW (tail s k) = o := ⟨_, rfl⟩
    have hwl : wantWordL (ByteArray.mk #[110, 117, 108, 108]).data.toList (tail s k) = o := ho
    rw [hwl] at hw
    rw [ho] at e
    have HE := Lib.hid e
    clear ho hwl e
    go_wp2_with fail
    refine hpeek.mono ?_
    rintro e' w2 ⟨rfl, hr2, hs2⟩
    have hst2 := hst1.trans hs2
    have hb2 := hb1.keep hs2 hGR
    go_wp2_with fail
    refine (hw _ hr2).mono ?_
    rintro e' w3 ⟨hs3, hL⟩
    have hst3 := hst2.trans hs3
    have hb3 := hb2.keep hs3 hGR
    clear hpeek hw hst1 hb1 hst2 hb2
    have HE2 := HE.out
    clear HE
    match o, hL, HE2 with
    | .error c, hL, HE2 =>
      obtain rfl : e' = Errs c := hL
      have HE := Lib.hid (show O = .error c from HE2)
      clear HE2
      go_wp2_with fail
      rw [HE.out]
      exact ⟨rfl, hst3, rfl⟩
    | .ok (u, r), hL, HE2 =>
      obtain ⟨rfl, k3, hk3, rfl, hr3⟩ := hL
      have HE := Lib.hid (show O = .ok (leafJ 1, tail s k3) from HE2)
      clear HE2
      have q0 := hb3.p0
      have q1 := hb3.p1
      have q2 := hb3.p2
      have q3 := hb3.p3
      have q4 := hb3.p4
      have f0 := hb3.free 0
      have f1 := hb3.free 1
      have f2 := hb3.free 2
      have f3 := hb3.free 3
      have f4 := hb3.free 4
      go_wp2_with fail
      refine bodyPost_ret (node_result rfl _ rfl (hb3.setAll _ _ _ _ _)) rfl ?_
      rw [HE.out]
      exact ⟨putN_step hst3 hgs _ _ _ _ _, _, _, _, _, _, rfl, node_plain _ _ _ _ _, k3, hk3, rfl, ⟨(putN_block w3 G _ _ _ _ _ R hGR.symm).trans hr3.blk⟩⟩
  · have hw := fun w0 h0 => wantWord_any R s ⟨#[102, 97, 108, 115, 101]⟩ k w0 h0 hs hk2 (by decide)
    obtain ⟨o, ho⟩ : ∃ o, wantWordL falseW (tail s k) = o := ⟨_, rfl⟩
    have hwl : wantWordL (ByteArray.mk #[102, 97, 108, 115, 101]).data.toList (tail s k) = o := ho
    rw [hwl] at hw
    rw [ho] at e
    have HE := Lib.hid e
    clear ho hwl e
    go_wp2_with fail
    refine hpeek.mono ?_
    rintro e' w2 ⟨rfl, hr2, hs2⟩
    have hst2 := hst1.trans hs2
    have hb2 := hb1.keep hs2 hGR
    go_wp2_with fail
    refine (hw _ hr2).mono ?_
    rintro e' w3 ⟨hs3, hL⟩
    have hst3 := hst2.trans hs3
    have hb3 := hb2.keep hs3 hGR
    clear hpeek hw hst1 hb1 hst2 hb2
    have HE2 := HE.out
    clear HE
    match o, hL, HE2 with
    | .error c, hL, HE2 =>
      obtain rfl : e' = Errs c := hL
      have HE := Lib.hid (show O = .error c from HE2)
      clear HE2
      go_wp2_with fail
      rw [HE.out]
      exact ⟨rfl, hst3, rfl⟩
    | .ok (u, r), hL, HE2 =>
      obtain ⟨rfl, k3, hk3, rfl, hr3⟩ := hL
      have HE := Lib.hid (show O = .ok (leafJ 2, tail s k3) from HE2)
      clear HE2
      have q0 := hb3.p0
      have q1 := hb3.p1
      have q2 := hb3.p2
      have q3 := hb3.p3
      have q4 := hb3.p4
      have f0 := hb3.free 0
      have f1 := hb3.free 1
      have f2 := hb3.free 2
      have f3 := hb3.free 3
      have f4 := hb3.free 4
      go_wp2_with fail
      refine bodyPost_ret (node_result rfl _ rfl (hb3.setAll _ _ _ _ _)) rfl ?_
      rw [HE.out]
      exact ⟨putN_step hst3 hgs _ _ _ _ _, _, _, _, _, _, rfl, node_plain _ _ _ _ _, k3, hk3, rfl, ⟨(putN_block w3 G _ _ _ _ _ R hGR.symm).trans hr3.blk⟩⟩
  · have hw := fun w0 h0 => wantWord_any R s ⟨#[116, 114, 117, 101]⟩ k w0 h0 hs hk2 (by decide)
    obtain ⟨o, ho⟩ : ∃ o, wantWordL trueW (tail s k) = o := ⟨_, rfl⟩
    have hwl : wantWordL (ByteArray.mk #[116, 114, 117, 101]).data.toList (tail s k) = o := ho
    rw [hwl] at hw
    rw [ho] at e
    have HE := Lib.hid e
    clear ho hwl e
    go_wp2_with fail
    refine hpeek.mono ?_
    rintro e' w2 ⟨rfl, hr2, hs2⟩
    have hst2 := hst1.trans hs2
    have hb2 := hb1.keep hs2 hGR
    go_wp2_with fail
    refine (hw _ hr2).mono ?_
    rintro e' w3 ⟨hs3, hL⟩
    have hst3 := hst2.trans hs3
    have hb3 := hb2.keep hs3 hGR
    clear hpeek hw hst1 hb1 hst2 hb2
    have HE2 := HE.out
    clear HE
    match o, hL, HE2 with
    | .error c, hL, HE2 =>
      obtain rfl : e' = Errs c := hL
      have HE := Lib.hid (show O = .error c from HE2)
      clear HE2
      go_wp2_with fail
      rw [HE.out]
      exact ⟨rfl, hst3, rfl⟩
    | .ok (u, r), hL, HE2 =>
      obtain ⟨rfl, k3, hk3, rfl, hr3⟩ := hL
      have HE := Lib.hid (show O = .ok (leafJ 3, tail s k3) from HE2)
      clear HE2
      have q0 := hb3.p0
      have q1 := hb3.p1
      have q2 := hb3.p2
      have q3 := hb3.p3
      have q4 := hb3.p4
      have f0 := hb3.free 0
      have f1 := hb3.free 1
      have f2 := hb3.free 2
      have f3 := hb3.free 3
      have f4 := hb3.free 4
      go_wp2_with fail
      refine bodyPost_ret (node_result rfl _ rfl (hb3.setAll _ _ _ _ _)) rfl ?_
      rw [HE.out]
      exact ⟨putN_step hst3 hgs _ _ _ _ _, _, _, _, _, _, rfl, node_plain _ _ _ _ _, k3, hk3, rfl, ⟨(putN_block w3 G _ _ _ _ _ R hGR.symm).trans hr3.blk⟩⟩
  · have htext := fun w0 h0 => text_any R s k w0 h0 hs hk2
    obtain ⟨o, ho⟩ : ∃ o, quoL (tail s k) = o := ⟨_, rfl⟩
    rw [ho] at htext e
    have HE := Lib.hid e
    clear ho e
    go_wp2_with fail
    refine hpeek.mono ?_
    rintro e' w2 ⟨rfl, hr2, hs2⟩
    have hst2 := hst1.trans hs2
    have hb2 := hb1.keep hs2 hGR
    go_wp2_with fail
    refine (htext _ hr2).mono ?_
    rintro e' w3 ⟨hs3, hL⟩
    have hst3 := hst2.trans hs3
    have hb3 := hb2.keep hs3 hGR
    clear hpeek htext hst1 hb1 hst2 hb2
    have HE2 := HE.out
    clear HE
    match o, hL, HE2 with
    | .error c, hL, HE2 =>
      obtain rfl : e' = Errs c := hL
      have HE := Lib.hid (show O = .error c from HE2)
      clear HE2
      go_wp2_with fail
      rw [HE.out]
      exact ⟨rfl, hst3, rfl⟩
    | .ok (t, r), hL, HE2 =>
      obtain ⟨rfl, k3, hk3, rfl, hr3⟩ := hL
      have HE := Lib.hid (show O = .ok (strJ t, tail s k3) from HE2)
      clear HE2
      have q0 := hb3.p0
      have q1 := hb3.p1
      have q2 := hb3.p2
      have q3 := hb3.p3
      have q4 := hb3.p4
      have f0 := hb3.free 0
      have f1 := hb3.free 1
      have f2 := hb3.free 2
      have f3 := hb3.free 3
      have f4 := hb3.free 4
      go_wp2_with fail
      refine bodyPost_ret (node_result rfl _ rfl (hb3.setAll _ _ _ _ _)) rfl ?_
      rw [HE.out]
      exact ⟨putN_step hst3 hgs _ _ _ _ _, _, _, _, _, _, rfl, node_plain _ _ _ _ _, k3, hk3, rfl, ⟨(putN_block w3 G _ _ _ _ _ R hGR.symm).trans hr3.blk⟩⟩
  · have hkl : k < s.size := by
      rcases Nat.lt_or_ge k s.size with h' | h'
      · exact h'
      · rw [tail_end h'] at hm; cases hm
    have hre : r = tail s (k + 1) := by rw [tail_cons hkl] at hm; exact (List.cons.inj hm).2.symm
    have hlst := fun w0 h0 => hA R k w0 h0 hkl
    obtain ⟨o, ho⟩ : ∃ o, lst false (tail s (k + 1)) = o := ⟨_, rfl⟩
    rw [hre, ho] at e
    rw [ho] at hlst
    have HE := Lib.hid e
    clear ho e hm hre
    go_wp2_with fail
    refine hpeek.mono ?_
    rintro e' w2 ⟨rfl, hr2, hs2⟩
    have hst2 := hst1.trans hs2
    have hb2 := hb1.keep hs2 hGR
    have hG2 := hb2.lt
    go_wp2_with fail
    refine (hlst _ hr2).mono ?_
    rintro e' w3 ⟨hs3, hL⟩
    have hst3 := hst2.trans hs3
    have hb3 := hb2.keep hs3 hGR
    have hz2 := hst2.size
    clear hpeek hlst hst1 hb1 hst2 hb2
    have HE2 := HE.out
    clear HE
    match o, hL, HE2 with
    | .error c, hL, HE2 =>
      obtain rfl : e' = Errs c := hL
      have HE := Lib.hid (show O = .error c from HE2)
      clear HE2
      go_wp2_with fail
      rw [HE.out]
      exact ⟨rfl, hst3, rfl⟩
    | .ok (j, r), hL, HE2 =>
      obtain ⟨c0, c1, c2, c3, c4, rfl, hn3, k3, hk3, rfl, hr3⟩ := hL
      obtain ⟨x0, x1, x2, a3, l3, m3, a4, l4, m4, rfl, rfl, rfl, rfl, rfl⟩ := hn3.forms
      have HE := Lib.hid (show O = .ok (j, tail s k3) from HE2)
      clear HE2
      have q0 := hb3.p0
      have q1 := hb3.p1
      have q2 := hb3.p2
      have q3 := hb3.p3
      have q4 := hb3.p4
      have f0 := hb3.free 0
      have f1 := hb3.free 1
      have f2 := hb3.free 2
      have f3 := hb3.free 3
      have f4 := hb3.free 4
      go_wp2_with fail
      refine bodyPost_ret (node_result rfl _ rfl (hb3.setAll _ _ _ _ _)) rfl ?_
      rw [HE.out]
      exact ⟨putN_step hst3 hgs _ _ _ _ _, _, _, _, _, _, rfl, hn3.keep (kept_new (fun g hg => by have : w2.heap.size ≤ g := hg; omega) _ _ _ _ _), k3, hk3, rfl, ⟨(putN_block w3 G _ _ _ _ _ R hGR.symm).trans hr3.blk⟩⟩
  · have hkl : k < s.size := by
      rcases Nat.lt_or_ge k s.size with h' | h'
      · exact h'
      · rw [tail_end h'] at hm; cases hm
    have hre : r = tail s (k + 1) := by rw [tail_cons hkl] at hm; exact (List.cons.inj hm).2.symm
    have hlst := fun w0 h0 => hB R k w0 h0 hkl
    obtain ⟨o, ho⟩ : ∃ o, lst true (tail s (k + 1)) = o := ⟨_, rfl⟩
    rw [hre, ho] at e
    rw [ho] at hlst
    have HE := Lib.hid e
    clear ho e hm hre
    go_wp2_with fail
    refine hpeek.mono ?_
    rintro e' w2 ⟨rfl, hr2, hs2⟩
    have hst2 := hst1.trans hs2
    have hb2 := hb1.keep hs2 hGR
    have hG2 := hb2.lt
    go_wp2_with fail
    refine (hlst _ hr2).mono ?_
    rintro e' w3 ⟨hs3, hL⟩
    have hst3 := hst2.trans hs3
    have hb3 := hb2.keep hs3 hGR
    have hz2 := hst2.size
    clear hpeek hlst hst1 hb1 hst2 hb2
    have HE2 := HE.out
    clear HE
    match o, hL, HE2 with
    | .error c, hL, HE2 =>
      obtain rfl : e' = Errs c := hL
      have HE := Lib.hid (show O = .error c from HE2)
      clear HE2
      go_wp2_with fail
      rw [HE.out]
      exact ⟨rfl, hst3, rfl⟩
    | .ok (j, r), hL, HE2 =>
      obtain ⟨c0, c1, c2, c3, c4, rfl, hn3, k3, hk3, rfl, hr3⟩ := hL
      obtain ⟨x0, x1, x2, a3, l3, m3, a4, l4, m4, rfl, rfl, rfl, rfl, rfl⟩ := hn3.forms
      have HE := Lib.hid (show O = .ok (j, tail s k3) from HE2)
      clear HE2
      have q0 := hb3.p0
      have q1 := hb3.p1
      have q2 := hb3.p2
      have q3 := hb3.p3
      have q4 := hb3.p4
      have f0 := hb3.free 0
      have f1 := hb3.free 1
      have f2 := hb3.free 2
      have f3 := hb3.free 3
      have f4 := hb3.free 4
      go_wp2_with fail
      refine bodyPost_ret (node_result rfl _ rfl (hb3.setAll _ _ _ _ _)) rfl ?_
      rw [HE.out]
      exact ⟨putN_step hst3 hgs _ _ _ _ _, _, _, _, _, _, rfl, hn3.keep (kept_new (fun g hg => by have : w2.heap.size ≤ g := hg; omega) _ _ _ _ _), k3, hk3, rfl, ⟨(putN_block w3 G _ _ _ _ _ R hGR.symm).trans hr3.blk⟩⟩
  · have hnum := fun w0 h0 => cnumber_any R s k w0 h0 hs hk2
    obtain ⟨o, ho⟩ : ∃ o, numC (tail s k) = o := ⟨_, rfl⟩
    rw [ho] at hnum e
    have HE := Lib.hid e
    have HN := Lib.hid ho
    have g1 : ((x.toNat : Int) == 110) = false := by rw [beq_eq_false_iff_ne]; exact fun e => n1 (byte_eq e)
    have g2 : ((x.toNat : Int) == 102) = false := by rw [beq_eq_false_iff_ne]; exact fun e => n2 (byte_eq e)
    have g3 : ((x.toNat : Int) == 116) = false := by rw [beq_eq_false_iff_ne]; exact fun e => n3 (byte_eq e)
    have g4 : ((x.toNat : Int) == 34) = false := by rw [beq_eq_false_iff_ne]; exact fun e => n4 (byte_eq e)
    have g5 : ((x.toNat : Int) == 91) = false := by rw [beq_eq_false_iff_ne]; exact fun e => n5 (byte_eq e)
    have g6 : ((x.toNat : Int) == 123) = false := by rw [beq_eq_false_iff_ne]; exact fun e => n6 (byte_eq e)
    clear ho e n1 n2 n3 n4 n5 n6
    go_wp2_with fail
    refine hpeek.mono ?_
    rintro e' w2 ⟨rfl, hr2, hs2⟩
    have hst2 := hst1.trans hs2
    have hb2 := hb1.keep hs2 hGR
    go_wp2_with fail
    refine (hnum _ hr2).mono ?_
    rintro e' w3 ⟨hs3, hL⟩
    have hst3 := hst2.trans hs3
    have hb3 := hb2.keep hs3 hGR
    clear hpeek hnum hst1 hb1 hst2 hb2
    have HE2 := HE.out
    have HN2 := HN.out
    clear HE HN
    match o, hL, HE2, HN2 with
    | .error c, hL, HE2, _ =>
      obtain rfl : e' = Errs c := hL
      have HE := Lib.hid (show O = .error c from HE2)
      clear HE2
      go_wp2_with fail
      rw [HE.out]
      exact ⟨rfl, hst3, rfl⟩
    | .ok (j, r), hL, HE2, HN2 =>
      obtain ⟨hret, k3, hk3, rfl, hr3⟩ := hL
      obtain rfl : e' = .returned (.int .i64 j.num) := hret
      have HE := Lib.hid (show O = .ok (numJ j.num, tail s k3) by rw [HE2, ← numC_num HN2])
      clear HE2 HN2
      obtain ⟨m, hm⟩ : ∃ m, j.num = m := ⟨_, rfl⟩
      rw [hm] at HE ⊢
      clear hm
      have q0 := hb3.p0
      have q1 := hb3.p1
      have q2 := hb3.p2
      have q3 := hb3.p3
      have q4 := hb3.p4
      have f0 := hb3.free 0
      have f1 := hb3.free 1
      have f2 := hb3.free 2
      have f3 := hb3.free 3
      have f4 := hb3.free 4
      go_wp2_with fail
      refine bodyPost_ret (node_result rfl _ rfl (hb3.setAll _ _ _ _ _)) rfl ?_
      rw [HE.out]
      exact ⟨putN_step hst3 hgs _ _ _ _ _, _, _, _, _, _, rfl, node_plain _ _ _ _ _, k3, hk3, rfl, ⟨(putN_block w3 G _ _ _ _ _ R hGR.symm).trans hr3.blk⟩⟩

theorem value_any (s : ByteArray) (hs : s.size ≤ 65536) : ∀ (n a : Nat), a + n = 24 → ValOk s n a
  | 0, a, ha => by
    obtain rfl : a = 24 := by omega
    intro R i w h hi
    exact value_of s 24 hs (by omega) (fun _ _ => .error 4) (array_deep s) (object_deep s) R i w h hi
  | n + 1, a, ha => by
    have hv := value_any s hs n (a + 1) (by omega)
    intro R i w h hi
    exact value_of s a hs (by omega) (listG (valueG numC n)) (fun R i w h hi => array_any s n a hs (by omega) hv R i w h hi) (fun R i w h hi => object_any s n a hs (by omega) hv R i w h hi) R i w h hi
end Go.Proofs.YtbjngdlkamdmdaaDoor.J7
namespace Go.Proofs.YtbjngdlkamdmdaaDoor.J7
open Go Go.RowKit Go.Joins Kit

/-- Bytes that a slice reads as. -/
def BytesAt (w : World) (v : Value) (l : List UInt8) : Prop := (v = .slice none 0 0 ∧ l = []) ∨ ∃ ad cap, v = .slice (some ad) l.length cap ∧ ∀ j (h : j < l.length), w.cell? (ad.add j) = some (.int .u8 (l[j].toNat : Int))
theorem BytesAt.form {w : World} {v : Value} {l : List UInt8} (h : BytesAt w v l) : ∃ a cap, v = .slice a l.length cap := by
  rcases h with ⟨rfl, rfl⟩ | ⟨ad, cap, rfl, _⟩
  · exact ⟨none, 0, rfl⟩
  · exact ⟨_, _, rfl⟩
theorem BytesAt.text {w : World} {v : Value} {l : List UInt8} (h : BytesAt w v l) : (convert 40 9 v).run Tryd.prog w = .ok (.string ⟨l.toArray⟩) w := by
  rcases h with ⟨rfl, rfl⟩ | ⟨ad, cap, rfl, hc⟩
  · kernel_rfl
  · exact run_convert_bytes_back (P := Tryd.prog) w 40 9 5 ad cap l Tryd.underlying40 Tryd.underlying5 Tryd.underlying9 hc
theorem BytesAt.below {w w' : World} {v : Value} {l : List UInt8} (h : BytesAt w v l) (hb : Below w.heap.size w w') : BytesAt w' v l := by
  rcases h with h | ⟨ad, cap, rfl, hc⟩
  · exact Or.inl h
  · refine Or.inr ⟨ad, cap, rfl, fun j hj => ?_⟩
    have h1 := hc j hj
    rw [hb.cell ?_]
    · exact h1
    · rcases Nat.lt_or_ge (ad.add j).block w.heap.size with h' | h'
      · exact h'
      · simp [World.cell?, Array.getElem?_eq_none h'] at h1

set_option maxHeartbeats 1000000 in
/-- The deferred closure, where the reader has given up. -/
theorem caught (N E : Nat) (c : Nat) (c0 c1 c2 c3 c4 : Value) (x : Int) (w : World) (hn : Bx N c0 c1 c2 c3 c4 w) (he : w.heap[E]? = some (.cells #[.int .i64 x] 28 (0, 0))) (hNE : N ≠ E) :
    CallsD Tryd.prog 32 #[.pointer (some ⟨N, 0, none⟩), .pointer (some ⟨E, 0, none⟩)] (.panicking ({ v := .iface 28 (.int .i64 (c : Int)), recovered := false } :: [])) w fun e u' w' =>
      e = .returned (.tuple #[]) ∧ u' = .panicking ({ v := .iface 28 (.int .i64 (c : Int)), recovered := true } :: []) ∧ w' = (putN w N (.int .i64 0) (.int .i64 0) (.string { data := #[] }) (.slice none 0 0) (.slice none 0 0)).setCell ⟨E, 0, none⟩ (.int .i64 (c : Int)) := by
  have p0 := hn.p0
  have p1 := hn.p1
  have p2 := hn.p2
  have p3 := hn.p3
  have p4 := hn.p4
  have f0 := hn.free 0
  have f1 := hn.free 1
  have f2 := hn.free 2
  have f3 := hn.free 3
  have f4 := hn.free 4
  have e0 : w.cell? ⟨E, 0, none⟩ = some (.int .i64 x) := by rw [Lib.cell_of_heap he]; rfl
  have ef : w.frozen? ⟨E, 0, none⟩ = false := Lib.frozen_of_heap he 0
  have hta : ∀ (c : Int) (w : World), (Instr.typeAssert (.iface 28 (.int .i64 c)) 20 28 true).run Tryd.prog w = .ok (.tuple #[.int .i64 c, .bool true]) w := fun _ _ => by kernel_rfl
  refine callsD_of_wpS Tryd.func32 rfl fun k0 cs hu => ?_
  apply wpS_seq
  apply wpS_region
  simp [wpOpsS, go_sem, recoverD, hu, Tryd.ntmps32, Exit.thenS]
  refine wpS_of_wp ?_
  go_wp2_with fail
  cases k0
  simp_all [bodyPostS, results, Tryd.results32, putN]
set_option maxHeartbeats 1000000 in
/-- .. where it has not. -/
theorem idle (N E : Nat) (w : World) :
    CallsD Tryd.prog 32 #[.pointer (some ⟨N, 0, none⟩), .pointer (some ⟨E, 0, none⟩)] .returning w fun e u' w' => e = .returned (.tuple #[]) ∧ u' = .returning ∧ w' = w := by
  refine callsD_of_wpS Tryd.func32 rfl fun k0 cs hu => ?_
  apply wpS_seq
  apply wpS_region
  simp [wpOpsS, go_sem, recoverD, hu, Tryd.ntmps32, Exit.thenS]
  refine wpS_of_wp ?_
  go_wp2_with fail
  cases k0
  simp_all [bodyPostS, results, Tryd.results32]

end Go.Proofs.YtbjngdlkamdmdaaDoor.J7
namespace Go.Proofs.YtbjngdlkamdmdaaDoor.J7
open Go Go.RowKit Go.Joins Kit

/-- What Parse hands back. -/
def ParseLeft (w : World) (o : Except Nat J) (e' : Ending) (w' : World) : Prop :=
  Below w.heap.size w w' ∧ ∃ c0 c1 c2 c3 c4 c, e' = .returned (.tuple #[.agg #[c0, c1, c2, c3, c4], .int .i64 c]) ∧ match o with
    | .ok j => c = 0 ∧ NodeAt (fun g => w.heap.size ≤ g) w' j (.agg #[c0, c1, c2, c3, c4])
    | .error e => c = (e : Int) ∧ (Value.agg #[c0, c1, c2, c3, c4]) = zeroN

theorem parse_results (tmps : Array Value) {w : World} {N E : Nat} {c0 c1 c2 c3 c4 : Value} {c : Int} (h2 : tmps.getD 2 undef = .pointer (some ⟨N, 0, none⟩)) (h3 : tmps.getD 3 undef = .pointer (some ⟨E, 0, none⟩))
    (hn : Bx N c0 c1 c2 c3 c4 w) (he : w.cell? ⟨E, 0, none⟩ = some (.int .i64 c)) : (results Tryd.f20 tmps).run Tryd.prog w = .ok (.tuple #[.agg #[c0, c1, c2, c3, c4], .int .i64 c]) w := by
  have h2' : tmps[2]?.getD undef = .pointer (some ⟨N, 0, none⟩) := by simpa using h2
  have h3' : tmps[3]?.getD undef = .pointer (some ⟨E, 0, none⟩) := by simpa using h3
  have hl := run_loadVar_row (P := Tryd.prog) w N 25 25 _ _ _ hn.blk Tryd.underlying25 rfl (by kernel_rfl)
  have hle : (loadVar 28 ⟨E, 0, none⟩).run Tryd.prog w = .ok (.int .i64 c) w := by simp [go_sem, he]
  simp [results, Tryd.results20, h2', h3', asAddr, hl, hle]

theorem below_putN {w0 w : World} {N : Nat} (h : Below w0.heap.size w0 w) (hN : w0.heap.size ≤ N) (d0 d1 d2 d3 d4 : Value) : Below w0.heap.size w0 (putN w N d0 d1 d2 d3 d4) :=
  ((((h.setCell (p := ⟨N, 0, none⟩) hN d0).setCell (p := ⟨N, 1, none⟩) hN d1).setCell (p := ⟨N, 2, none⟩) hN d2).setCell (p := ⟨N, 3, none⟩) hN d3).setCell (p := ⟨N, 4, none⟩) hN d4
theorem below_set {w0 w : World} {E : Nat} (h : Below w0.heap.size w0 w) (hE : w0.heap.size ≤ E) (v : Value) : Below w0.heap.size w0 (w.setCell ⟨E, 0, none⟩ v) := h.setCell (p := ⟨E, 0, none⟩) hE v
/-- Behind the deferred closure, where it has not. -/
theorem door_ok (O : Except Nat J) (j : J) (w0 w : World) (tmps : Array Value) (N E : Nat) (c0 c1 c2 c3 c4 : Value) (hn : Bx N c0 c1 c2 c3 c4 w) (he : w.cell? ⟨E, 0, none⟩ = some (.int .i64 0))
    (h2 : tmps.getD 2 undef = .pointer (some ⟨N, 0, none⟩)) (h3 : tmps.getD 3 undef = .pointer (some ⟨E, 0, none⟩)) (hO : O = .ok j) (hb : Below w0.heap.size w0 w) (hj : NodeAt (fun g => w0.heap.size ≤ g) w j (.agg #[c0, c1, c2, c3, c4])) :
    Leaves Tryd.prog Tryd.f20 tmps (fun e' w' => ParseLeft w0 O e' w') [{ target := Target.fn (Fn.func 32) #[.pointer (some ⟨N, 0, none⟩), .pointer (some ⟨E, 0, none⟩)], args := #[] }] .returning w := by
  refine leaves_cons (f := 32) (args := #[.pointer (some ⟨N, 0, none⟩), .pointer (some ⟨E, 0, none⟩)]) (by simp) (by simp [go_sem]) ?_
  refine (idle N E w).mono ?_
  rintro e u' w'' ⟨rfl, rfl, rfl⟩
  refine ⟨_, parse_results tmps h2 h3 hn he, ?_⟩
  rw [hO]
  exact ⟨hb, _, _, _, _, _, _, rfl, rfl, hj⟩
/-- Behind the deferred closure, where the reader has given up. -/
theorem door_panic (O : Except Nat J) (w0 w : World) (tmps : Array Value) (N E c : Nat) (c0 c1 c2 c3 c4 : Value) (x : Int) (hn : Bx N c0 c1 c2 c3 c4 w) (he : w.heap[E]? = some (.cells #[.int .i64 x] 28 (0, 0))) (hNE : N ≠ E)
    (h2 : tmps.getD 2 undef = .pointer (some ⟨N, 0, none⟩)) (h3 : tmps.getD 3 undef = .pointer (some ⟨E, 0, none⟩)) (hO : O = .error c) (hb : Below w0.heap.size w0 w) (hN : w0.heap.size ≤ N) (hE : w0.heap.size ≤ E) :
    Leaves Tryd.prog Tryd.f20 tmps (fun e' w' => ParseLeft w0 O e' w') [{ target := Target.fn (Fn.func 32) #[.pointer (some ⟨N, 0, none⟩), .pointer (some ⟨E, 0, none⟩)], args := #[] }]
      (.panicking [{ v := .iface 28 (.int .i64 (c : Int)), recovered := false }]) w := by
  refine leaves_cons (f := 32) (args := #[.pointer (some ⟨N, 0, none⟩), .pointer (some ⟨E, 0, none⟩)]) (by simp) (by simp [go_sem]) ?_
  refine (caught N E c c0 c1 c2 c3 c4 x w hn he hNE).mono ?_
  rintro e u' w'' ⟨rfl, rfl, rfl⟩
  have hbz := putN_bx hn (.int .i64 0) (.int .i64 0) (.string { data := #[] }) (.slice none 0 0) (.slice none 0 0)
  have hbx := hbz.same (w' := (putN w N (.int .i64 0) (.int .i64 0) (.string { data := #[] }) (.slice none 0 0) (.slice none 0 0)).setCell ⟨E, 0, none⟩ (.int .i64 (c : Int))) (Below.heap_setCell _ _ _ _ (by show N ≠ E; exact hNE))
  have hbe : ((putN w N (.int .i64 0) (.int .i64 0) (.string { data := #[] }) (.slice none 0 0) (.slice none 0 0)).setCell ⟨E, 0, none⟩ (.int .i64 (c : Int))).cell? ⟨E, 0, none⟩ = some (.int .i64 (c : Int)) := by
    have h9 : (putN w N (.int .i64 0) (.int .i64 0) (.string { data := #[] }) (.slice none 0 0) (.slice none 0 0)).heap[E]? = some (.cells #[.int .i64 x] 28 (0, 0)) := by rw [putN_block _ _ _ _ _ _ _ _ (fun e => hNE e.symm)]; exact he
    have h8 : ((putN w N (.int .i64 0) (.int .i64 0) (.string { data := #[] }) (.slice none 0 0) (.slice none 0 0)).setCell ⟨E, 0, none⟩ (.int .i64 (c : Int))).heap[E]? = some (.cells #[.int .i64 (c : Int)] 28 (0, 0)) := by simp [World.setCell, Array.getElem?_modify, h9]
    rw [Lib.cell_of_heap h8]; rfl
  refine ⟨_, parse_results tmps h2 h3 hbx hbe, ?_⟩
  rw [hO]
  exact ⟨below_set (below_putN hb hN _ _ _ _ _) hE _, _, _, _, _, _, _, rfl, rfl, rfl⟩

set_option maxHeartbeats 4000000 in
set_option maxRecDepth 100000 in
theorem parse_any (l : List UInt8) (v : Value) (w : World) (hb : BytesAt w v l) :
    Calls Tryd.prog 20 #[v] w fun e' w' => ParseLeft w (parseG numC l) e' w' := by
  have hmf : ∀ (fn : Fn) (first cap : Array Value) (w : World), (Instr.makeFunc fn first cap).run Tryd.prog w = .ok (.func fn first cap) w := fun _ _ _ _ => rfl
  obtain ⟨N, hN⟩ : ∃ N, w.heap.size = N := ⟨_, rfl⟩
  obtain ⟨O, hO⟩ : ∃ O, parseG numC l = O := ⟨_, rfl⟩
  rw [hO]
  unfold parseG at hO
  have hbz := newZ_bx w
  have hsz1 := newZ_size w
  rw [hN] at hbz hsz1
  by_cases hl : 65536 < l.length
  · rw [if_pos hl] at hO
    have HE := Lib.hid hO.symm
    clear hO
    have hli : (65536 : Int) < (l.length : Int) := by omega
    obtain ⟨a, cap, rfl⟩ := hb.form
    have hbx := hbz.alloc (Obj.cells #[Value.int IntKind.i64 2] 28)
    have hbe : ((newZ w).alloc (Obj.cells #[Value.int IntKind.i64 2] 28)).cell? ⟨N + 1, 0, none⟩ = some (.int .i64 2) := by rw [Lib.cell_of_heap (by rw [← hsz1]; exact fresh_block _ _ _)]; rfl
    have hbl : Below w.heap.size w ((newZ w).alloc (Obj.cells #[Value.int IntKind.i64 2] 28)) := ((Below.refl _ w).alloc (Nat.le_refl _) _).alloc (by simp) _
    go_enter_defers Tryd.func20, Tryd.ntmps20
    go_wp2_with fail
    refine ⟨_, parse_results _ rfl rfl hbx hbe, ?_⟩
    rw [HE.out]
    exact ⟨hbl, _, _, _, _, _, _, rfl, rfl, rfl⟩
  · rw [if_neg hl] at hO
    have HO := Lib.hid hO
    clear hO
    have hli : (l.length : Int) ≤ 65536 := by omega
    have hss : (ByteArray.mk l.toArray).size ≤ 65536 := by rw [Lib.size_eq]; show l.length ≤ _; omega
    have hs2 : ((newZ w).alloc (Obj.cells #[Value.int IntKind.i64 0] 28)).heap.size = N + 2 := by simp [hsz1]
    have hb2 : Below w.heap.size w ((newZ w).alloc (Obj.cells #[Value.int IntKind.i64 0] 28)) := ((Below.refl _ w).alloc (Nat.le_refl _) _).alloc (by simp) _
    have hconv := (hb.below hb2).text
    obtain ⟨a, cap, rfl⟩ := hb.form
    have hbx := hbz.alloc (Obj.cells #[Value.int IntKind.i64 0] 28)
    have hbe : ((newZ w).alloc (Obj.cells #[Value.int IntKind.i64 0] 28)).heap[N + 1]? = some (.cells #[.int .i64 0] 28 (0, 0)) := by rw [← hsz1]; exact fresh_block _ _ _
    obtain ⟨w2, hw2⟩ : ∃ w2, (newZ w).alloc (Obj.cells #[Value.int IntKind.i64 0] 28) = w2 := ⟨_, rfl⟩
    obtain ⟨w3, hw3⟩ : ∃ w3, ((newZ w).alloc (Obj.cells #[Value.int IntKind.i64 0] 28)).alloc (Obj.cells #[.string ⟨l.toArray⟩, .int .i64 0] 57) = w3 := ⟨_, rfl⟩
    have hr3 : Rc (N + 2) ⟨l.toArray⟩ 0 w3 := ⟨by rw [← hw3, ← hs2]; exact fresh_block _ _ _⟩
    have hb3 : Below w.heap.size w w3 := by rw [← hw3]; exact hb2.alloc (by rw [hs2]; omega) _
    have hbx3 := hbx.alloc (Obj.cells #[.string ⟨l.toArray⟩, .int .i64 0] 57)
    have hbe3 : w3.heap[N + 1]? = some (.cells #[.int .i64 0] 28 (0, 0)) := by rw [← hw3, Below.heap_alloc _ _ _ (by rw [hs2]; omega)]; exact hbe
    rw [hw3] at hbx3
    have hval : Calls Tryd.prog 33 #[.pointer (some ⟨N + 2, 0, none⟩), .int .i64 0] w3 fun e' w' => ValLeft (N + 2) ⟨l.toArray⟩ w3 (valueG numC 24 l) e' w' := value_any ⟨l.toArray⟩ hss 24 0 rfl (N + 2) 0 w3 hr3 (Nat.zero_le _)
    obtain ⟨o, ho⟩ : ∃ o, valueG numC 24 l = o := ⟨_, rfl⟩
    have HO2 := HO.out
    rw [ho] at hval HO2
    have HO3 := Lib.hid HO2
    clear HO HO2 ho hbe hw2 hb hbz hbx
    have hz3' : N + 3 ≤ w3.heap.size := by rw [← hw3]; simp [hsz1]
    unfold newZ at hconv hw3
    have HW3 := Lib.hid hw3
    clear hw3
    go_enter_defers Tryd.func20, Tryd.ntmps20
    go_wp2_with fail
    rw [HW3.out]
    refine hval.mono ?_
    rintro e' w4 ⟨hs4, hL⟩
    have hb4 : Below w.heap.size w w4 := hs4.below hb3 (by omega)
    have hbx4 := hbx3.keep hs4 (by omega)
    have hbe4 : w4.heap[N + 1]? = some (.cells #[.int .i64 0] 28 (0, 0)) := by rw [hs4.block (N + 1) ((Array.getElem?_eq_some_iff.1 hbe3).1) (by omega)]; exact hbe3
    have HO4 := HO3.out
    clear hval HO3 hconv hr3 hbx3 hbe3
    match o, hL, HO4 with
    | .error c, hL, HO4 =>
      obtain rfl : e' = Errs c := hL
      have HE := Lib.hid (show O = .error c from HO4.symm)
      clear HO4
      go_wp2_with fail
      exact door_panic O w w4 _ N (N + 1) c _ _ _ _ _ _ hbx4 hbe4 (by omega) rfl rfl HE.out hb4 (by omega) (by omega)
    | .ok (j, r), hL, HO4 =>
      obtain ⟨c0, c1, c2, c3, c4, rfl, hn4, k, hk, rfl, hr4⟩ := hL
      obtain ⟨x0, x1, x2, a3, l3, m3, a4, l4, m4, rfl, rfl, rfl, rfl, rfl⟩ := hn4.forms
      have HO5 := Lib.hid HO4
      clear HO4
      have hz3 : N + 3 ≤ w3.heap.size := hz3'
      have p0 := hbx4.p0
      have p1 := hbx4.p1
      have p2 := hbx4.p2
      have p3 := hbx4.p3
      have p4 := hbx4.p4
      have f0 := hbx4.free 0
      have f1 := hbx4.free 1
      have f2 := hbx4.free 2
      have f3 := hbx4.free 3
      have f4 := hbx4.free 4
      obtain ⟨w5, hw5⟩ : ∃ w5, putN w4 N (.int .i64 x0) (.int .i64 x1) (.string x2) (.slice a3 l3 m3) (.slice a4 l4 m4) = w5 := ⟨_, rfl⟩
      have hbx5 : Bx N (.int .i64 x0) (.int .i64 x1) (.string x2) (.slice a3 l3 m3) (.slice a4 l4 m4) w5 := by rw [← hw5]; exact putN_bx hbx4 _ _ _ _ _
      have hbe5 : w5.heap[N + 1]? = some (.cells #[.int .i64 0] 28 (0, 0)) := by rw [← hw5, putN_block _ _ _ _ _ _ _ _ (by omega)]; exact hbe4
      have hr5 : Rc (N + 2) ⟨l.toArray⟩ k w5 := ⟨by rw [← hw5, putN_block _ _ _ _ _ _ _ _ (by omega)]; exact hr4.blk⟩
      have hb5 : Below w.heap.size w w5 := by rw [← hw5]; exact below_putN hb4 (by omega) _ _ _ _ _
      have hn5 : NodeAt (fun g => w3.heap.size ≤ g) w5 j (.agg #[.int .i64 x0, .int .i64 x1, .string x2, .slice a3 l3 m3, .slice a4 l4 m4]) := by
        rw [← hw5]; exact hn4.keep (putN_kept (fun g hg => by have : w3.heap.size ≤ g := hg; omega) _ _ _ _ _)
      have HW5 := Lib.hid hw5
      unfold putN at HW5
      clear hw5 hr4 hn4
      go_wp2_with fail
      rw [HW5.out]
      clear p0 p1 p2 p3 p4 f0 f1 f2 f3 f4 hbx4 hbe4
      refine (skip_any (N + 2) ⟨l.toArray⟩ k w5 hr5 hss hk).mono ?_
      rintro e' w6 ⟨rfl, k2, hk1, hk2, hke, hr6, hs6⟩
      have hbx6 := hbx5.keep hs6 (by omega)
      have hbe6 : w6.heap[N + 1]? = some (.cells #[.int .i64 0] 28 (0, 0)) := by rw [hs6.block (N + 1) ((Array.getElem?_eq_some_iff.1 hbe5).1) (by omega)]; exact hbe5
      have hb6 : Below w.heap.size w w6 := hs6.below hb5 (by omega)
      have hn6 := hn5.keep (hs6.kept (fun g hg => by have : w3.heap.size ≤ g := hg; omega))
      have r0 := hr6.c0
      have r1 := hr6.c1
      have hlen : (ByteArray.mk l.toArray).size = l.length := by rw [Lib.size_eq]
      clear HW5 hr5 hbx5 hbe5 hn5 hb5
      by_cases hlt : k2 < l.length
      · have HE : Hid (O = .error 3) := by
          show O = _
          rw [← HO5.out]
          refine if_neg ?_
          rw [hke]
          intro e
          have h9 := tail_length ⟨l.toArray⟩ k2
          rw [e, List.length_nil] at h9
          omega
        have g : (k2 : Int) < (l.length : Int) := by omega
        rw [hlen] at hk2
        clear HO5 hke
        go_wp2_with fail
        exact door_panic O w w6 _ N (N + 1) 3 _ _ _ _ _ _ hbx6 hbe6 (by omega) rfl rfl HE.out hb6 (by omega) (by omega)
      · have HE : Hid (O = .ok j) := by
          show O = _
          rw [← HO5.out]
          refine if_pos ?_
          rw [hke]
          exact tail_end (by omega)
        have g : decide ((k2 : Int) < (l.length : Int)) = false := by rw [decide_eq_false_iff_not]; omega
        have p0 := hbx6.p0
        have p1 := hbx6.p1
        have p2 := hbx6.p2
        have p3 := hbx6.p3
        have p4 := hbx6.p4
        have f0 := hbx6.free 0
        have f1 := hbx6.free 1
        have f2 := hbx6.free 2
        have f3 := hbx6.free 3
        have f4 := hbx6.free 4
        have e0 : w6.cell? ⟨N + 1, 0, none⟩ = some (.int .i64 0) := by rw [Lib.cell_of_heap hbe6]; rfl
        have ef : w6.frozen? ⟨N + 1, 0, none⟩ = false := Lib.frozen_of_heap hbe6 0
        clear HO5 hke
        have hbx7 := putN_bx hbx6 (.int .i64 x0) (.int .i64 x1) (.string x2) (.slice a3 l3 m3) (.slice a4 l4 m4)
        have hb7 := below_putN hb6 (N := N) (by omega) (.int .i64 x0) (.int .i64 x1) (.string x2) (.slice a3 l3 m3) (.slice a4 l4 m4)
        have hn7 := hn6.keep (putN_kept (w := w6) (G := N) (fun g hg => by have : w3.heap.size ≤ g := hg; omega) (.int .i64 x0) (.int .i64 x1) (.string x2) (.slice a3 l3 m3) (.slice a4 l4 m4))
        have hbe7 : (putN w6 N (.int .i64 x0) (.int .i64 x1) (.string x2) (.slice a3 l3 m3) (.slice a4 l4 m4)).heap[N + 1]? = some (.cells #[.int .i64 0] 28 (0, 0)) := by rw [putN_block _ _ _ _ _ _ _ _ (by omega)]; exact hbe6
        have he8 : ((putN w6 N (.int .i64 x0) (.int .i64 x1) (.string x2) (.slice a3 l3 m3) (.slice a4 l4 m4)).setCell ⟨N + 1, 0, none⟩ (.int .i64 0)).cell? ⟨N + 1, 0, none⟩ = some (.int .i64 0) := by
          have h8 : ((putN w6 N (.int .i64 x0) (.int .i64 x1) (.string x2) (.slice a3 l3 m3) (.slice a4 l4 m4)).setCell ⟨N + 1, 0, none⟩ (.int .i64 0)).heap[N + 1]? = some (.cells #[.int .i64 0] 28 (0, 0)) := by simp [World.setCell, Array.getElem?_modify, hbe7]
          rw [Lib.cell_of_heap h8]; rfl
        have hbx8 := hbx7.same (w' := (putN w6 N (.int .i64 x0) (.int .i64 x1) (.string x2) (.slice a3 l3 m3) (.slice a4 l4 m4)).setCell ⟨N + 1, 0, none⟩ (.int .i64 0)) (Below.heap_setCell _ _ _ _ (by show N ≠ N + 1; omega))
        have hn8 := hn7.keep (P' := fun g => w.heap.size ≤ g) (w' := (putN w6 N (.int .i64 x0) (.int .i64 x1) (.string x2) (.slice a3 l3 m3) (.slice a4 l4 m4)).setCell ⟨N + 1, 0, none⟩ (.int .i64 0)) (fun g hg _ => by
          have hg' : w3.heap.size ≤ g := hg
          exact ⟨by omega, Below.heap_setCell _ _ _ _ (by show g ≠ N + 1; omega)⟩)
        go_wp2_with fail
        exact door_ok O j w _ _ N (N + 1) _ _ _ _ _ hbx8 he8 rfl rfl HE.out (below_set hb7 (by omega) _) hn8
end Go.Proofs.YtbjngdlkamdmdaaDoor.J7
