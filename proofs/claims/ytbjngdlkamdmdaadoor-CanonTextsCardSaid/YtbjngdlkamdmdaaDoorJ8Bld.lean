/-
  The library's Builder in the field of the program's printer: what its methods leave. No law in this text. Conditions: what it holds has at most 2^47 bytes.
-/
import Derived.Test.YtbjngdlkamdmdaaDoorJ7Quote
namespace Go.Proofs.YtbjngdlkamdmdaaDoor.J8
open Go Go.RowKit Go.Joins Kit J7

/-- The printer lies in block b, holds the bytes l; none of its blocks is in S. -/
structure PAt (S : Nat → Prop) (b : Nat) (p v : Value) (l : List UInt8) (w : World) : Prop where
  blk : w.heap[b]? = some (.cells #[p, v] 47 (0, 0))
  own : w.ownsRow 0 5 1 v l.length (Lib.byteCells l)
  ne : v.ownBlock ≠ some b
  out : ∀ g, v.ownBlock = some g → ¬ S g
  self : ¬ S b
  slt : ∀ k, S k → k < w.heap.size
def PB (S : Nat → Prop) (b : Nat) (l : List UInt8) (w : World) : Prop := ∃ p v, (p = .pointer none ∨ p = .pointer (some ⟨b, 0, none⟩)) ∧ PAt S b p v l w
/-- All blocks of S are as they were. -/
structure Ks (S : Nat → Prop) (w w' : World) : Prop where
  os : w'.os = w.os
  tape : w'.tape = w.tape
  output : w'.output = w.output
  size : w.heap.size ≤ w'.heap.size
  block : ∀ k, S k → w'.heap[k]? = w.heap[k]?
theorem Ks.refl (S : Nat → Prop) (w : World) : Ks S w w := ⟨rfl, rfl, rfl, Nat.le_refl _, fun _ _ => rfl⟩
theorem Ks.trans {S : Nat → Prop} {a b c : World} (h : Ks S a b) (k : Ks S b c) : Ks S a c := ⟨k.os.trans h.os, k.tape.trans h.tape, k.output.trans h.output, Nat.le_trans h.size k.size, fun i hi => (k.block i hi).trans (h.block i hi)⟩
theorem Ks.drew (S : Nat → Prop) (w : World) : Ks S w w.drew := ⟨rfl, rfl, rfl, Nat.le_refl _, fun _ _ => rfl⟩
theorem Ks.sub {S S' : Nat → Prop} {a b : World} (h : Ks S' a b) (hs : ∀ k, S k → S' k) : Ks S a b := ⟨h.os, h.tape, h.output, h.size, fun i hi => h.block i (hs i hi)⟩
theorem Ks.of_below {S : Nat → Prop} {a b : World} (h : Below a.heap.size a b) (hs : ∀ k, S k → k < a.heap.size) : Ks S a b := ⟨h.os, h.tape, h.output, h.size, fun k hk => h.block k (hs k hk)⟩
namespace PAt
variable {S : Nat → Prop} {b : Nat} {p v : Value} {l : List UInt8} {w w' : World}
theorem lt (h : PAt S b p v l w) : b < w.heap.size := (Array.getElem?_eq_some_iff.1 h.blk).1
theorem p0 (h : PAt S b p v l w) : w.cell? ⟨b, 0, none⟩ = some p := by rw [Lib.cell_of_heap h.blk]; rfl
theorem p1 (h : PAt S b p v l w) : w.cell? ⟨b, 1, none⟩ = some v := by rw [Lib.cell_of_heap h.blk]; rfl
theorem free (h : PAt S b p v l w) (o : Nat) : w.frozen? ⟨b, o, none⟩ = false := Lib.frozen_of_heap h.blk o
theorem shape (h : PAt S b p v l w) : w.shape? b = some (47, 2) := by simp [World.shape?, h.blk]
theorem ownB (h : PAt S b p v l w) : OwnB 0 v l w := ⟨h.own, Nat.zero_le _⟩
/-- New blocks. -/
theorem below (h : PAt S b p v l w) (hb : Below w.heap.size w w') : PAt S b p v l w' :=
  ⟨(hb.block b h.lt).trans h.blk, Kit.ownsRow_below h.own hb, h.ne, h.out, h.self, fun k hk => Nat.lt_of_lt_of_le (h.slt k hk) hb.size⟩
/-- Other blocks to keep. -/
theorem turn {S' : Nat → Prop} (h : PAt S b p v l w) (hs : ∀ k, S' k → (S k ∨ ∀ g, g = k → g ≠ b ∧ v.ownBlock ≠ some g) ∧ k < w.heap.size) : PAt S' b p v l w :=
  ⟨h.blk, h.own, h.ne, fun g hg hk => by
    rcases (hs g hk).1 with h' | h'
    · exact h.out g hg h'
    · exact (h' g rfl).2 hg,
  fun hk => by
    rcases (hs b hk).1 with h' | h'
    · exact h.self h'
    · exact (h' b rfl).1 rfl,
  fun k hk => (hs k hk).2⟩
/-- Its first cell is written. -/
theorem used (h : PAt S b p v l w) (q : Value) : PAt S b q v l (w.setCell ⟨b, 0, none⟩ q) ∧ Ks S w (w.setCell ⟨b, 0, none⟩ q) := by
  have hk : ∀ k, k ≠ b → (w.setCell ⟨b, 0, none⟩ q).heap[k]? = w.heap[k]? := fun k hk => Below.heap_setCell _ _ _ _ hk
  have hsz : (w.setCell ⟨b, 0, none⟩ q).heap.size = w.heap.size := by simp [World.setCell]
  refine ⟨⟨?_, Bld.own_keep h.own (fun g hg _ => hk g (fun e => h.ne (by rw [hg, e]))), h.ne, h.out, h.self, fun k hk => by rw [hsz]; exact h.slt k hk⟩, ⟨rfl, rfl, rfl, by rw [hsz]; exact Nat.le_refl _, fun k hS => hk k (fun e => h.self (by rw [← e]; exact hS))⟩⟩
  have := h.blk
  simp [World.setCell, Array.getElem?_modify, this]
/-- The grown slice is put into its second cell. -/
theorem put {v' : Value} {l' : List UInt8} (h : PAt S b p v l w) (ho : OwnB 0 v' l' w') (g : Gb w w' v v') : PAt S b p v' l' (w'.setCell ⟨b, 1, none⟩ v') ∧ Ks S w (w'.setCell ⟨b, 1, none⟩ v') := by
  have hk : ∀ k, k ≠ b → (w'.setCell ⟨b, 1, none⟩ v').heap[k]? = w'.heap[k]? := fun k hk => Below.heap_setCell _ _ _ _ hk
  have hsz : (w'.setCell ⟨b, 1, none⟩ v').heap.size = w'.heap.size := by simp [World.setCell]
  have hb : w'.heap[b]? = some (.cells #[p, v] 47 (0, 0)) := (g.block b h.lt h.ne).trans h.blk
  have hne : v'.ownBlock ≠ some b := fun e => by
    rcases g.own b e with e' | e'
    · exact h.ne e'
    · have := h.lt; omega
  have hout : ∀ x, v'.ownBlock = some x → ¬ S x := fun x e hS => by
    rcases g.own x e with e' | e'
    · exact h.out x e' hS
    · have := h.slt x hS; omega
  refine ⟨⟨?_, Bld.own_keep ho.own (fun x hx _ => hk x (fun e => hne (by rw [hx, e]))), hne, hout, h.self, fun k hS => by rw [hsz]; exact Nat.lt_of_lt_of_le (h.slt k hS) g.size⟩, ⟨g.os, g.tape, g.output, by rw [hsz]; exact g.size, fun k hS => ?_⟩⟩
  · simp [World.setCell, Array.getElem?_modify, hb]
  · rw [hk k (fun e => h.self (by rw [← e]; exact hS))]
    exact g.block k (h.slt k hS) (fun e => h.out k e hS)
end PAt
namespace PB
variable {S : Nat → Prop} {b : Nat} {l : List UInt8} {w w' : World}
theorem lt (h : PB S b l w) : b < w.heap.size := by obtain ⟨p, v, _, h⟩ := h; exact h.lt
theorem slt (h : PB S b l w) : ∀ k, S k → k < w.heap.size := by obtain ⟨p, v, _, h⟩ := h; exact h.slt
theorem below (h : PB S b l w) (hb : Below w.heap.size w w') : PB S b l w' := by obtain ⟨p, v, hp, h⟩ := h; exact ⟨p, v, hp, h.below hb⟩
theorem sub {S' : Nat → Prop} (h : PB S b l w) (hs : ∀ k, S' k → S k) : PB S' b l w := by
  obtain ⟨p, v, hp, h⟩ := h
  exact ⟨p, v, hp, h.turn (fun k hk => ⟨Or.inl (hs k hk), h.slt k (hs k hk)⟩)⟩
/-- Beside what there is, new blocks too. -/
theorem more {S' : Nat → Prop} (h : PB S b l w) (hb : Below w.heap.size w w') (hs : ∀ k, S' k → S k ∨ (w.heap.size ≤ k ∧ k < w'.heap.size)) : PB S' b l w' := by
  obtain ⟨p, v, hp, h⟩ := h
  refine ⟨p, v, hp, (h.below hb).turn (fun k hk => ?_)⟩
  rcases hs k hk with h' | ⟨h1, h2⟩
  · exact ⟨Or.inl h', Nat.lt_of_lt_of_le (h.slt k h') hb.size⟩
  · refine ⟨Or.inr (fun g e => ?_), h2⟩
    subst e
    refine ⟨fun e => ?_, fun e => ?_⟩
    · have := h.lt; omega
    · have := (h.ownB.lt e).2; omega
end PB
theorem lies_in : liesAt Tryd.prog Tryd.prog.depth 47 (2 / Tryd.prog.cellsOf 47) 0 45 1 = true := by kernel_rfl
theorem size_bld : (Tryd.prog.info? 45).map (·.size) = some 2 := by kernel_rfl

set_option maxHeartbeats 1000000 in
set_option maxRecDepth 100000 in
theorem check_used (b : Nat) (w : World) (h0 : w.cell? ⟨b, 0, none⟩ = some (.pointer (some ⟨b, 0, none⟩))) :
    Calls Tryd.prog 56 #[.pointer (some ⟨b, 0, none⟩)] w fun e w' => e = .returned (.tuple #[]) ∧ w' = w := by
  obtain ⟨j, hj, _⟩ := Option.map_eq_some_iff.1 size_bld
  go_enter Tryd.func56, Tryd.ntmps56
  go_wp2
  rw [Lib.run_neq_ptr_same w _ Tryd.underlying43 hj]
  go_wp2
  go_end0
  exact ⟨rfl, rfl⟩

set_option maxHeartbeats 1000000 in
set_option maxRecDepth 100000 in
theorem check_fresh (b : Nat) (w : World) (h0 : w.cell? ⟨b, 0, none⟩ = some (.pointer none)) (hsh : w.shape? b = some (47, 2)) (hfz : w.frozen? ⟨b, 0, none⟩ = false) :
    Calls Tryd.prog 56 #[.pointer (some ⟨b, 0, none⟩)] w fun e w' => e = .returned (.tuple #[]) ∧ w' = w.setCell ⟨b, 0, none⟩ (.pointer (some ⟨b, 0, none⟩)) := by
  obtain ⟨j, hj, hjs⟩ := Option.map_eq_some_iff.1 size_bld
  go_enter Tryd.func56, Tryd.ntmps56
  go_wp2
  rw [Lib.run_to_unsafe w ⟨b, 0, none⟩ Tryd.underlying43 Tryd.underlying87 hj (by rw [hjs]; decide) hsh (Nat.zero_lt_succ 1)]
  simp only [Result.andThen]
  rw [Oper.upon_value]
  go_wp2
  rw [run_callFunc_extern Tryd.func71 (by kernel_rfl) (by kernel_rfl) (by kernel_rfl) (e := Extern.AbiNoEscape.same) (by kernel_rfl)]
  rw [Lib.run_noEscape]
  simp only [Result.andThen]
  rw [Oper.upon_value]
  go_wp2
  rw [Lib.run_from_unsafe w ⟨b, 0, none⟩ Tryd.underlying87 Tryd.underlying43 hj hsh lies_in]
  simp only [Result.andThen]
  rw [Oper.upon_value]
  go_wp2
  go_end0
  exact ⟨rfl, rfl⟩
theorem check_any {S : Nat → Prop} {b : Nat} {l : List UInt8} {w : World} (h : PB S b l w) :
    Calls Tryd.prog 56 #[.pointer (some ⟨b, 0, none⟩)] w fun e w' => e = .returned (.tuple #[]) ∧ ∃ v, PAt S b (.pointer (some ⟨b, 0, none⟩)) v l w' ∧ Ks S w w' := by
  obtain ⟨p, v, rfl | rfl, h⟩ := h
  · refine (check_fresh b w h.p0 h.shape (h.free 0)).mono ?_
    rintro e w' ⟨rfl, rfl⟩
    exact ⟨rfl, v, (h.used _).1, (h.used _).2⟩
  · refine (check_used b w h.p0).mono ?_
    rintro e w' ⟨rfl, rfl⟩
    exact ⟨rfl, v, h, Ks.refl _ _⟩

set_option maxHeartbeats 2000000 in
set_option maxRecDepth 100000 in
theorem wbyte_any {S : Nat → Prop} {b : Nat} {l : List UInt8} {w : World} (h : PB S b l w) (c : UInt8) (hl : l.length ≤ 100000000000000) :
    Calls Tryd.prog 58 #[.pointer (some ⟨b, 0, none⟩), .int .u8 (c.toNat : Int)] w fun e w' => e = .returned .nilIface ∧ PB S b (l ++ [c]) w' ∧ Ks S w w' := by
  have hc := check_any h
  clear h
  go_enter Tryd.func58, Tryd.ntmps58
  go_wp2_with fail
  refine hc.mono ?_
  rintro e w1 ⟨rfl, v, h1, k1⟩
  have c1 := h1.p1
  have hB := h1.ownB
  go_wp2_with (at_builtin; refine app_lit rfl _ _ rfl 0 w1 v l hB _ [c] 1 1 rfl (by decide) rfl rfl rfl (by omega) ?_)
  intro v' w2 h2 g2
  have hb2 : w2.heap[b]? = some (.cells #[.pointer (some ⟨b, 0, none⟩), v] 47 (0, 0)) := (g2.block b h1.lt h1.ne).trans h1.blk
  have d1 : w2.cell? ⟨b, 1, none⟩ = some v := by rw [Lib.cell_of_heap hb2]; rfl
  have f1 : w2.frozen? ⟨b, 1, none⟩ = false := Lib.frozen_of_heap hb2 1
  obtain ⟨a, cap, hv'⟩ := h2.form
  rw [List.length_append, List.length_singleton] at hv'
  have hp := h1.put h2 g2
  subst hv'
  clear h2 hB c1
  go_wp2_with fail
  go_ret
  exact ⟨rfl, ⟨_, _, Or.inr rfl, hp.1⟩, k1.trans hp.2⟩

set_option maxHeartbeats 2000000 in
set_option maxRecDepth 100000 in
theorem wstr_any {S : Nat → Prop} {b : Nat} {l : List UInt8} {w : World} (h : PB S b l w) (s : ByteArray) (hl : l.length ≤ 100000000000000) (hs : s.size ≤ 1000000) :
    Calls Tryd.prog 35 #[.pointer (some ⟨b, 0, none⟩), .string s] w fun e w' => e = .returned (.tuple #[.int .i64 s.size, .nilIface]) ∧ PB S b (l ++ s.data.toList) w' ∧ Ks S w w' := by
  have hc := check_any h
  clear h
  go_enter Tryd.func35, Tryd.ntmps35
  go_wp2_with fail
  refine hc.mono ?_
  rintro e w1 ⟨rfl, v, h1, k1⟩
  have c1 := h1.p1
  have hB := h1.ownB
  go_wp2_with (at_builtin; refine app_str rfl _ _ rfl 0 w1 v l hB s rfl rfl (by omega) ?_)
  intro v' w2 h2 g2
  have hb2 : w2.heap[b]? = some (.cells #[.pointer (some ⟨b, 0, none⟩), v] 47 (0, 0)) := (g2.block b h1.lt h1.ne).trans h1.blk
  have d1 : w2.cell? ⟨b, 1, none⟩ = some v := by rw [Lib.cell_of_heap hb2]; rfl
  have f1 : w2.frozen? ⟨b, 1, none⟩ = false := Lib.frozen_of_heap hb2 1
  obtain ⟨a, cap, hv'⟩ := h2.form
  rw [List.length_append, ← Lib.size_eq] at hv'
  have hp := h1.put h2 g2
  subst hv'
  clear h2 hB c1
  go_wp2_with fail
  go_ret2
  exact ⟨rfl, ⟨_, _, Or.inr rfl, hp.1⟩, k1.trans hp.2⟩

set_option maxHeartbeats 1000000 in
set_option maxRecDepth 100000 in
theorem blen_any {S : Nat → Prop} {b : Nat} {l : List UInt8} {w : World} (h : PB S b l w) :
    Calls Tryd.prog 39 #[.pointer (some ⟨b, 0, none⟩)] w fun e w' => e = .returned (.int .i64 l.length) ∧ w' = w := by
  obtain ⟨p, v, _, h⟩ := h
  have c1 := h.p1
  obtain ⟨a, cap, rfl⟩ := h.ownB.form
  clear h
  go_enter Tryd.func39, Tryd.ntmps39
  go_wp2_with fail
  go_ret
  exact ⟨rfl, rfl⟩

/-- Too many bytes already? -/
def full (l : List UInt8) : Bool := decide ((l.length : Int) > 65536)
set_option maxHeartbeats 1000000 in
set_option maxRecDepth 100000 in
theorem isFull_any {S : Nat → Prop} {b : Nat} {l : List UInt8} {w : World} (h : PB S b l w) :
    Calls Tryd.prog 23 #[.pointer (some ⟨b, 0, none⟩)] w fun e w' => e = .returned (.bool (full l)) ∧ w' = w := by
  have hc := blen_any h
  clear h
  go_enter Tryd.func23, Tryd.ntmps23
  go_wp2_with fail
  refine hc.mono ?_
  rintro e w1 ⟨rfl, rfl⟩
  go_wp2_with fail
  all_goals
    go_ret
    exact ⟨ret_bool (by unfold full; first | (simp; done) | (simp; omega)), rfl⟩

set_option maxHeartbeats 1000000 in
set_option maxRecDepth 100000 in
theorem bstring_any {S : Nat → Prop} {b : Nat} {l : List UInt8} {w : World} (h : PB S b l w) (hl0 : l ≠ []) :
    Calls Tryd.prog 24 #[.pointer (some ⟨b, 0, none⟩)] w fun e w' => e = .returned (.string ⟨l.toArray⟩) ∧ Ks S w w' := by
  obtain ⟨p, v, _, h⟩ := h
  have hn0 : l.length ≠ 0 := by simpa using hl0
  obtain ⟨g, cap, cur, rfl, hg, hnc, hcm, hcs, htake⟩ : ∃ g cap cur, v = .slice (some ⟨g, 0, none⟩) l.length cap ∧ w.heap[g]? = some (.cells cur 5 (0, 0)) ∧ l.length ≤ cap ∧ cap ≤ maxLen ∧ cur.size = cap * 1 ∧ cur.toList.take (l.length * 1) = Lib.byteCells l := by
    rcases h.own.2 with ⟨_, hz⟩ | ⟨g, cap, cur, hv, _, r⟩
    · exact absurd hz hn0
    · exact ⟨g, cap, cur, hv, r⟩
  have hblk : w.drew.heap[b]? = some (.cells #[p, .slice (some ⟨g, 0, none⟩) l.length cap] 47 (0, 0)) := h.blk
  have c1 : w.drew.cell? ⟨b, 1, none⟩ = some (.slice (some ⟨g, 0, none⟩) l.length cap) := by rw [Lib.cell_of_heap hblk]; rfl
  have hSD : (Builtin.unsafeSliceData_ #[40] 68 #[.slice (some ⟨g, 0, none⟩) l.length cap]).run Tryd.prog w.drew = .ok (.pointer (some ⟨g, 0, none⟩)) w.drew :=
    Lib.run_unsafeSliceData_row _ _ _ _ _ _ (by omega)
  have hUS : (Builtin.unsafeString_ #[68, 3] 9 #[.pointer (some ⟨g, 0, none⟩), .int .i64 l.length]).run Tryd.prog w.drew = .ok (.string ⟨l.toArray⟩) (w.drew.freeze ⟨g, 0, none⟩ l.length) := by
    refine Lib.run_unsafeString_row w.drew 68 3 9 5 Tryd.underlying68 (by kernel_rfl) g cur.size (by have hg' : w.drew.heap[g]? = some (.cells cur 5 (0, 0)) := hg; simp [World.shape?, hg']) l hl0 (by omega) (by unfold maxLen at hcm; omega) ?_
    intro j x hx
    have := h.own.cells (g := g) rfl j (.int .u8 x.toNat) (by simp [Lib.byteCells, hx])
    exact this
  have hks : Ks S w (w.drew.freeze ⟨g, 0, none⟩ l.length) := by
    have hk : ∀ k, k ≠ g → (w.drew.freeze ⟨g, 0, none⟩ l.length).heap[k]? = w.heap[k]? := fun k hk => by
      unfold World.freeze
      split
      · rfl
      · simp only [Array.getElem?_modify]
        rw [if_neg (Ne.symm hk)]
        rfl
    refine ⟨?_, ?_, ?_, ?_, fun k hS => hk k (fun e => h.out g rfl (by rw [← e]; exact hS))⟩
    · unfold World.freeze; split <;> rfl
    · unfold World.freeze; split <;> rfl
    · unfold World.freeze; split <;> rfl
    · unfold World.freeze
      split
      · exact Nat.le_refl _
      · simp
  clear h hg hblk htake hcs
  go_enter Tryd.func24, Tryd.ntmps24
  go_wp2_with fail
  go_region
  all_goals
    go_wp2_with fail
    go_ret
    exact ⟨rfl, hks⟩
end Go.Proofs.YtbjngdlkamdmdaaDoor.J8
