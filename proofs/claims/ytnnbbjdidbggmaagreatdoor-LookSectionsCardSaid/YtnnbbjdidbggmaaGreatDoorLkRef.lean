/-
  Several texts in one: PtThree F0RMem PtRMem RxIdx PtRUnt PtRHelp PtRVal RfFold Buf2 PtRVals F0RLines F0RMade F0RSpP F0RSplit F0RFs F0RFirst PtRStep PtRPart PtRTree R1Nmb. Conditions: each theorem's own.
-/
import Derived.Test.YtnnbbjdidbggmaaGreatDoorPtBx
import Derived.Test.YtnnbbjdidbggmaaGreatDoorPtPut8
import Derived.Test.YtnnbbjdidbggmaaGreatDoorF0Mem
import Derived.Test.YtnnbbjdidbggmaaGreatDoorPtStep
import Derived.Test.YtnnbbjdidbggmaaGreatDoorPtSt
import Derived.Test.YtnnbbjdidbggmaaGreatDoorKit
import Derived.Test.YtnnbbjdidbggmaaGreatDoorPtPlain
import Derived.Test.YtnnbbjdidbggmaaGreatDoorPtMadeP
import Derived.Test.YtnnbbjdidbggmaaGreatDoorF0RTrim
import Derived.Test.YtnnbbjdidbggmaaGreatDoorTxPlain
import Derived.Test.YtnnbbjdidbggmaaGreatDoorLkLow
import Derived.Test.YtnnbbjdidbggmaaGreatDoorF0Field
import Derived.Test.YtnnbbjdidbggmaaGreatDoorF0Plain
import Derived.Test.YtnnbbjdidbggmaaGreatDoorF0First
import Derived.Test.YtnnbbjdidbggmaaGreatDoorPtSizes
import Derived.Test.YtnnbbjdidbggmaaGreatDoorPtFin
import Derived.Test.YtnnbbjdidbggmaaGreatDoorPtIv
import Derived.Deep.AppendLies
import Derived.IntWalk
import Derived.Deep.CutBlock
import Derived.Deep.CutRange
import Derived.Deep.RegionWith
import Derived.Deep.LoopGhost
import Derived.Deep.RegionHeld3
import Derived.Deep.RegionLaw
import Derived.Lib.IndexLaws
namespace Go.Proofs.YtnnbbjdidbggmaaGreatDoor.Pt
open Go Go.RowKit Go.Joins Kit F0

def newP (w : World) : World := w.alloc (.cells zeroC.toArray 42)
theorem newP_size (w : World) : (newP w).heap.size = w.heap.size + 1 := by simp [newP]
set_option maxHeartbeats 4000000 in
set_option maxRecDepth 100000 in
/-- A new variable of type Part, as a step of a region that draws. -/
theorem step_new8 {ops : Array Oper} {o : Oper} {a : Act} {K : Act → World → Prop} {R : Exit → Act → World → Prop} {E : Prop} (hgd : o.guard = none) (ho : o.op = .alloc 42) (hty : o.type = 0) (W : World) (n : Nat) (hn : W.heap.size = n)
    (k : K (a.put o.dst (.pointer (some ⟨n, 0, none⟩))) (newP W)) :
    if Region.wanted o (yielded ops a.tmps) = true then Oper.wp Tryz.prog o a W K R else E := by
  have hw : Region.wanted o (yielded ops a.tmps) = true := by unfold Region.wanted; rw [hgd]
  rw [if_pos hw]
  clear hw
  subst hn
  obtain ⟨dst, op, type, pos, after, guard⟩ := o
  subst ho hgd hty
  unfold newP zeroC at k
  go_simp
  exact k
/-- A block that holds a part that is nothing yet. -/
def Zx (g : Nat) (w : World) : Prop := Bx g (.string ⟨#[]⟩) (.slice none 0 0) (.string ⟨#[]⟩) (.bool false) (.int .i64 0) (.int .i64 0) (.int .i64 0) (.slice none 0 0) w
theorem Zx.cells {g : Nat} {w : World} (h : Zx g w) : ∀ j, j < 8 → w.cell? ⟨g, 0 + j, none⟩ = zeroC[j]? ∧ w.frozen? ⟨g, 0 + j, none⟩ = false := fun j hj => by
  refine ⟨?_, Bx.free h _⟩
  have : j = 0 ∨ j = 1 ∨ j = 2 ∨ j = 3 ∨ j = 4 ∨ j = 5 ∨ j = 6 ∨ j = 7 := by omega
  rcases this with rfl | rfl | rfl | rfl | rfl | rfl | rfl | rfl
  · exact Bx.p0 h
  · exact Bx.p1 h
  · exact Bx.p2 h
  · exact Bx.p3 h
  · exact Bx.p4 h
  · exact Bx.p5 h
  · exact Bx.p6 h
  · exact Bx.p7 h
theorem put8_far {W : World} {g k : Nat} (d0 d1 d2 d3 d4 d5 d6 d7 : Value) (h : k ≠ g) : (put8 W g 0 d0 d1 d2 d3 d4 d5 d6 d7).heap[k]? = W.heap[k]? := by
  unfold put8
  rw [Below.heap_setCell _ _ _ _ h, Below.heap_setCell _ _ _ _ h, Below.heap_setCell _ _ _ _ h, Below.heap_setCell _ _ _ _ h, Below.heap_setCell _ _ _ _ h, Below.heap_setCell _ _ _ _ h, Below.heap_setCell _ _ _ _ h, Below.heap_setCell _ _ _ _ h]
theorem put8_bx {W : World} {g : Nat} {c0 c1 c2 c3 c4 c5 c6 c7 : Value} (h : Bx g c0 c1 c2 c3 c4 c5 c6 c7 W) (d0 d1 d2 d3 d4 d5 d6 d7 : Value) : Bx g d0 d1 d2 d3 d4 d5 d6 d7 (put8 W g 0 d0 d1 d2 d3 d4 d5 d6 d7) := h.setAll d0 d1 d2 d3 d4 d5 d6 d7
theorem put8_below {n : Nat} {w W : World} {g : Nat} (h : Below n w W) (hg : n ≤ g) (d0 d1 d2 d3 d4 d5 d6 d7 : Value) : Below n w (put8 W g 0 d0 d1 d2 d3 d4 d5 d6 d7) :=
  (((((((h.setCell (p := ⟨g, 0, none⟩) hg d0).setCell (p := ⟨g, 1, none⟩) hg d1).setCell (p := ⟨g, 2, none⟩) hg d2).setCell (p := ⟨g, 3, none⟩) hg d3).setCell (p := ⟨g, 4, none⟩) hg d4).setCell (p := ⟨g, 5, none⟩) hg d5).setCell (p := ⟨g, 6, none⟩) hg d6).setCell (p := ⟨g, 7, none⟩) hg d7
/-- Three such blocks. -/
structure Z3 (W5 W : World) (x y z : Nat) : Prop where
  xy : x ≠ y
  xz : x ≠ z
  yz : y ≠ z
  bx : Zx x W
  by_ : Zx y W
  bz : Zx z W
  lx : W5.heap.size ≤ x
  ly : W5.heap.size ≤ y
  lz : W5.heap.size ≤ z
  below : Below W5.heap.size W5 W
theorem newP_zx (w : World) : Zx w.heap.size (newP w) := Bx.made w _ _ _ _ _ _ _ _
theorem newP_same {w : World} {g : Nat} (h : Zx g w) : Zx g (newP w) := h.same (Below.heap_alloc _ _ _ h.lt)
theorem z3_made (W5 : World) : Z3 W5 (newP (newP (newP W5.drew))) W5.heap.size (W5.heap.size + 1) (W5.heap.size + 2) := by
  have h1 : Zx W5.heap.size (newP W5.drew) := newP_zx W5.drew
  have h2 : Zx (W5.heap.size + 1) (newP (newP W5.drew)) := by
    have := newP_zx (newP W5.drew)
    rw [newP_size] at this
    exact this
  have h3 : Zx (W5.heap.size + 2) (newP (newP (newP W5.drew))) := by
    have := newP_zx (newP (newP W5.drew))
    rw [newP_size, newP_size] at this
    exact this
  have b : Below W5.heap.size W5 (newP (newP (newP W5.drew))) := by
    have b1 : Below W5.heap.size W5 (newP W5.drew) := ((Below.refl _ W5).drew).alloc (Nat.le_refl _) _
    have b2 : Below W5.heap.size W5 (newP (newP W5.drew)) := b1.alloc b1.size _
    exact b2.alloc b2.size _
  exact ⟨by omega, by omega, by omega, newP_same (newP_same h1), newP_same h2, h3, Nat.le_refl _, by omega, by omega, b⟩
theorem Z3.swap1 {W5 W : World} {x y z : Nat} (h : Z3 W5 W x y z) : Z3 W5 W y x z := ⟨h.xy.symm, h.yz, h.xz, h.by_, h.bx, h.bz, h.ly, h.lx, h.lz, h.below⟩
theorem Z3.swap2 {W5 W : World} {x y z : Nat} (h : Z3 W5 W x y z) : Z3 W5 W x z y := ⟨h.xz, h.xy, h.yz.symm, h.bx, h.bz, h.by_, h.lx, h.lz, h.ly, h.below⟩
/-- Three blocks that are filled, one behind the other. -/
theorem Z3.fill {W5 W : World} {x y z : Nat} (h : Z3 W5 W x y z) (a0 a1 a2 a3 a4 a5 a6 a7 b0 b1 b2 b3 b4 b5 b6 b7 c0 c1 c2 c3 c4 c5 c6 c7 : Value) :
    Zx y (put8 W x 0 a0 a1 a2 a3 a4 a5 a6 a7) ∧ Zx z (put8 (put8 W x 0 a0 a1 a2 a3 a4 a5 a6 a7) y 0 b0 b1 b2 b3 b4 b5 b6 b7) ∧ Below W5.heap.size W5 (put8 W x 0 a0 a1 a2 a3 a4 a5 a6 a7) ∧ Below W5.heap.size W5 (put8 (put8 W x 0 a0 a1 a2 a3 a4 a5 a6 a7) y 0 b0 b1 b2 b3 b4 b5 b6 b7) ∧
    Below W5.heap.size W5 (put8 (put8 (put8 W x 0 a0 a1 a2 a3 a4 a5 a6 a7) y 0 b0 b1 b2 b3 b4 b5 b6 b7) z 0 c0 c1 c2 c3 c4 c5 c6 c7) ∧
    Bx x a0 a1 a2 a3 a4 a5 a6 a7 (put8 (put8 (put8 W x 0 a0 a1 a2 a3 a4 a5 a6 a7) y 0 b0 b1 b2 b3 b4 b5 b6 b7) z 0 c0 c1 c2 c3 c4 c5 c6 c7) ∧
    Bx y b0 b1 b2 b3 b4 b5 b6 b7 (put8 (put8 (put8 W x 0 a0 a1 a2 a3 a4 a5 a6 a7) y 0 b0 b1 b2 b3 b4 b5 b6 b7) z 0 c0 c1 c2 c3 c4 c5 c6 c7) ∧
    Bx z c0 c1 c2 c3 c4 c5 c6 c7 (put8 (put8 (put8 W x 0 a0 a1 a2 a3 a4 a5 a6 a7) y 0 b0 b1 b2 b3 b4 b5 b6 b7) z 0 c0 c1 c2 c3 c4 c5 c6 c7) := by
  have hy : Zx y (put8 W x 0 a0 a1 a2 a3 a4 a5 a6 a7) := h.by_.same (put8_far _ _ _ _ _ _ _ _ h.xy.symm)
  have hz1 : Zx z (put8 W x 0 a0 a1 a2 a3 a4 a5 a6 a7) := h.bz.same (put8_far _ _ _ _ _ _ _ _ h.xz.symm)
  have hz : Zx z (put8 (put8 W x 0 a0 a1 a2 a3 a4 a5 a6 a7) y 0 b0 b1 b2 b3 b4 b5 b6 b7) := hz1.same (put8_far _ _ _ _ _ _ _ _ h.yz.symm)
  have l1 := put8_below h.below h.lx a0 a1 a2 a3 a4 a5 a6 a7
  have l2 := put8_below l1 h.ly b0 b1 b2 b3 b4 b5 b6 b7
  have l3 := put8_below l2 h.lz c0 c1 c2 c3 c4 c5 c6 c7
  have x1 := put8_bx h.bx a0 a1 a2 a3 a4 a5 a6 a7
  have x2 : Bx x a0 a1 a2 a3 a4 a5 a6 a7 (put8 (put8 W x 0 a0 a1 a2 a3 a4 a5 a6 a7) y 0 b0 b1 b2 b3 b4 b5 b6 b7) := x1.same (put8_far _ _ _ _ _ _ _ _ h.xy)
  have y1 := put8_bx hy b0 b1 b2 b3 b4 b5 b6 b7
  exact ⟨hy, hz, l1, l2, l3, x2.same (put8_far _ _ _ _ _ _ _ _ h.xz), y1.same (put8_far _ _ _ _ _ _ _ _ h.yz), put8_bx hz c0 c1 c2 c3 c4 c5 c6 c7⟩
/-- Three variables that are made with what they hold, one behind the other. -/
theorem bx3_0 (W5 : World) (o2 o3 : Obj) (a0 a1 a2 a3 a4 a5 a6 a7 : Value) : Bx W5.heap.size a0 a1 a2 a3 a4 a5 a6 a7 (((W5.alloc (.cells #[a0, a1, a2, a3, a4, a5, a6, a7] 42)).alloc o2).alloc o3).drew :=
  (((Bx.made W5 a0 a1 a2 a3 a4 a5 a6 a7).below ((Below.refl _ _).alloc (Nat.le_refl _) o2)).below ((Below.refl _ _).alloc (Nat.le_refl _) o3)).drew
theorem bx3_1 (W5 : World) (o1 o3 : Obj) (a0 a1 a2 a3 a4 a5 a6 a7 : Value) : Bx (W5.heap.size + 1) a0 a1 a2 a3 a4 a5 a6 a7 (((W5.alloc o1).alloc (.cells #[a0, a1, a2, a3, a4, a5, a6, a7] 42)).alloc o3).drew :=
  ((Bx.madeAt (w := W5.alloc o1) (by simp) a0 a1 a2 a3 a4 a5 a6 a7).below ((Below.refl _ _).alloc (Nat.le_refl _) o3)).drew
theorem bx3_2 (W5 : World) (o1 o2 : Obj) (a0 a1 a2 a3 a4 a5 a6 a7 : Value) : Bx (W5.heap.size + 1 + 1) a0 a1 a2 a3 a4 a5 a6 a7 (((W5.alloc o1).alloc o2).alloc (.cells #[a0, a1, a2, a3, a4, a5, a6, a7] 42)).drew :=
  (Bx.madeAt (w := (W5.alloc o1).alloc o2) (by simp) a0 a1 a2 a3 a4 a5 a6 a7).drew
theorem below3 (W5 : World) (o1 o2 o3 : Obj) : Below W5.heap.size W5 (((W5.alloc o1).alloc o2).alloc o3).drew :=
  ((((Below.refl _ W5).alloc (Nat.le_refl _) o1).alloc (by simp) o2).alloc (by simp; omega) o3).drew
end Go.Proofs.YtnnbbjdidbggmaaGreatDoor.Pt
namespace Go.Proofs.YtnnbbjdidbggmaaGreatDoor.F0
open Go Go.RowKit Go.Joins Kit

namespace Rw
variable {B size n : Nat} {e : TypeId} {v : Value} {xs : List Value} {w w' : World}
theorem keep (h : w.ownsRow B e size v n xs) (hk : ∀ g, v.ownBlock = some g → g < w.heap.size → w'.heap[g]? = w.heap[g]?) : w'.ownsRow B e size v n xs := by
  obtain ⟨h1, h2⟩ := h
  refine ⟨h1, ?_⟩
  rcases h2 with h2 | ⟨g, cap, cur, hv, hg, hh, r⟩
  · exact Or.inl h2
  · exact Or.inr ⟨g, cap, cur, hv, hg, by rw [hk g (by rw [hv]; rfl) (Array.getElem?_eq_some_iff.1 hh).1]; exact hh, r⟩
theorem below (h : w.ownsRow B e size v n xs) (hb : Below w.heap.size w w') : w'.ownsRow B e size v n xs := keep h (fun g _ hl => hb.block g hl)
theorem block (h : w.ownsRow B e size v n xs) {g : Nat} (hg : v.ownBlock = some g) : B ≤ g ∧ ∃ cur, w.heap[g]? = some (.cells cur e (0, 0)) := by
  rcases h.2 with ⟨rfl, _⟩ | ⟨g', cap, cur, rfl, hb, hh, _⟩
  · cases hg
  · simp only [Value.ownBlock, Option.some.injEq] at hg
    subst hg
    exact ⟨hb, cur, hh⟩
theorem ne (h : w.ownsRow B e size v n xs) {k : Nat} {o : Obj} (hk : w.heap[k]? = some o) (ho : ∀ cs, o ≠ .cells cs e (0, 0)) : v.ownBlock ≠ some k := fun e' => by
  obtain ⟨_, cur, hh⟩ := block h e'
  rw [hk] at hh
  exact ho cur (Option.some.inj hh)
theorem form (h : w.ownsRow B e size v n xs) : ∃ a cap, v = .slice a n cap := by
  rcases h.2 with ⟨rfl, h0⟩ | ⟨g, cap, cur, rfl, _⟩
  · exact ⟨none, 0, by rw [h0]⟩
  · exact ⟨_, _, rfl⟩
/-- What lies in a row that is not empty. -/
theorem cells (h : w.ownsRow B e size v n xs) (hn : 0 < n) : ∃ g cap, v = .slice (some ⟨g, 0, none⟩) n cap ∧ ∀ (j : Nat), j < n * size → w.cell? ⟨g, j, none⟩ = xs[j]? ∧ w.frozen? ⟨g, j, none⟩ = false := by
  rcases h.2 with ⟨_, h0⟩ | ⟨g, cap, cur, rfl, hb, hh, hr⟩
  · omega
  · have h' : w.ownsRow B e size (.slice (some ⟨g, 0, none⟩) n cap) n xs := ⟨h.1, Or.inr ⟨g, cap, cur, rfl, hb, hh, hr⟩⟩
    exact ⟨g, cap, rfl, fun j hj => ⟨h'.cellAt j hj, Lib.frozen_of_heap hh j⟩⟩
end Rw

/-! ### Lines -/
abbrev Tl := Nat × (List UInt8 × Nat)
def lC : List Tl → List Value
  | [] => []
  | x :: r => .int .i64 (x.1 : Int) :: sV x.2.1 :: .int .i64 (x.2.2 : Int) :: lC r
theorem lC_append : ∀ a b : List Tl, lC (a ++ b) = lC a ++ lC b
  | [], _ => rfl
  | f :: r, b => by rw [List.cons_append, lC, lC, lC_append r b]; rfl
theorem lC_length : ∀ a : List Tl, (lC a).length = a.length * 3
  | [] => rfl
  | f :: r => by rw [lC, List.length_cons, List.length_cons, List.length_cons, lC_length r, List.length_cons]; omega
theorem lC_at : ∀ (a : List Tl) (k : Nat) (h : k < a.length), (lC a)[k * 3 + 1]? = some (sV a[k].2.1) ∧ (lC a)[k * 3 + 2]? = some (.int .i64 (a[k].2.2 : Int))
  | [], k, h => by simp at h
  | f :: r, 0, _ => ⟨rfl, rfl⟩
  | f :: r, k + 1, h => by
    have := lC_at r k (by simpa using h)
    rw [lC, show (k + 1) * 3 + 1 = k * 3 + 1 + 3 by omega, show (k + 1) * 3 + 2 = k * 3 + 2 + 3 by omega]
    simpa using this
theorem infoL : (Tryz.prog.info? 72).map (fun i => (i.zero, i.size, i.bytes)) = some (some (.agg #[.int .i64 0, .string ⟨#[]⟩, .int .i64 0]), 3, 32) := by kernel_rfl
def RowL (B : Nat) (v : Value) (ls : List Tl) (w : World) : Prop := w.ownsRow B 72 3 v ls.length (lC ls)
theorem RowL.new (B : Nat) (w : World) : RowL B (.slice none 0 0) [] w := World.ownsRow_nil _ _ _ _
theorem RowL.app {ops : Array Oper} {rest : List Oper} {o : Oper} {a : Act} {Q : Exit → Act → World → Prop} (hgd : o.guard = none) (sl x : Operand)
    (ho : o.op = .call { callee := .builtin .append, args := #[sl, x], argTypes := #[69, 69] })
    (B : Nat) (w : World) (v : Value) (ls : List Tl) (h : RowL B v ls w) (f : Tl) (b cap : Nat) (hblk : w.heap[b]? = some (.cells #[.int .i64 (f.1 : Int), sV f.2.1, .int .i64 (f.2.2 : Int)] 72 (0, 0))) (hs : a.eval sl = v) (hx : a.eval x = .slice (some ⟨b, 0, none⟩) 1 cap)
    (hlen : ls.length ≤ 1099511627776) (hB : B ≤ w.heap.size)
    (k : ∀ g c w', RowL B (.slice (some ⟨g, 0, none⟩) (ls.length + 1) c) (ls ++ [f]) w' → w.grownBy w' v.ownBlock → (v.ownBlock = some g ∨ g = w.heap.size) → wpList Tryz.prog ops Q rest (a.put o.dst (.slice (some ⟨g, 0, none⟩) (ls.length + 1) c)) w') : wpList Tryz.prog ops Q (o :: rest) a w := by
  obtain ⟨i0, hi, hz0, hz1, hz2⟩ := info_parts infoL
  refine wpList_append_lies w hgd sl x 69 ho B 72 i0 _ 3 32 Tryz.underlying69 hi hz0 hz1 hz2 rfl (by decide) v ls.length _ hs h ⟨b, 0, none⟩ 1 cap [.int .i64 (f.1 : Int), sV f.2.1, .int .i64 (f.2.2 : Int)] hx rfl ?_ ?_ Nat.zero_lt_one ?_ ?_ hB w.heap.size rfl ?_
  · intro j u hj
    exact World.news_of_block hblk j u hj
  · intro u hu
    simp only [List.mem_cons, List.not_mem_nil, or_false] at hu
    rcases hu with rfl | rfl | rfl <;> rfl
  · unfold maxLen; omega
  · omega
  · intro g c w' ho' hg hat _
    refine k g c w' ?_ hg hat
    unfold RowL
    rw [List.length_append, lC_append]
    exact ho'
/-- A line that is read. -/
theorem RowL.at {B : Nat} {v : Value} {ls : List Tl} {w : World} (h : RowL B v ls w) (k : Nat) (hk : k < ls.length) : ∃ g cap, v = .slice (some ⟨g, 0, none⟩) ls.length cap ∧ w.cell? ⟨g, k * 3 + 1, none⟩ = some (sV ls[k].2.1) ∧ w.cell? ⟨g, k * 3 + 2, none⟩ = some (.int .i64 (ls[k].2.2 : Int)) := by
  obtain ⟨g, cap, hv, hc⟩ := Rw.cells h (by omega)
  obtain ⟨q1, q2⟩ := lC_at ls k hk
  exact ⟨g, cap, hv, by rw [(hc (k * 3 + 1) (by omega)).1, q1], by rw [(hc (k * 3 + 2) (by omega)).1, q2]⟩

/-! ### Texts -/
theorem infoT : (Tryz.prog.info? 9).map (fun i => (i.zero, i.size, i.bytes)) = some (some (.string ⟨#[]⟩), 1, 16) := by kernel_rfl
def tC (ts : List (List UInt8)) : List Value := ts.map sV
def RowT (B : Nat) (v : Value) (ts : List (List UInt8)) (w : World) : Prop := w.ownsRow B 9 1 v ts.length (tC ts)
theorem RowT.new (B : Nat) (w : World) : RowT B (.slice none 0 0) [] w := World.ownsRow_nil _ _ _ _
theorem RowT.app {ops : Array Oper} {rest : List Oper} {o : Oper} {a : Act} {Q : Exit → Act → World → Prop} (hgd : o.guard = none) (sl x : Operand)
    (ho : o.op = .call { callee := .builtin .append, args := #[sl, x], argTypes := #[29, 29] })
    (B : Nat) (w : World) (v : Value) (ts : List (List UInt8)) (h : RowT B v ts w) (t : List UInt8) (b cap : Nat) (hblk : w.heap[b]? = some (.cells #[sV t] 9 (0, 0))) (hs : a.eval sl = v) (hx : a.eval x = .slice (some ⟨b, 0, none⟩) 1 cap)
    (hlen : ts.length ≤ 1099511627776) (hB : B ≤ w.heap.size)
    (k : ∀ g c w', RowT B (.slice (some ⟨g, 0, none⟩) (ts.length + 1) c) (ts ++ [t]) w' → w.grownBy w' v.ownBlock → (v.ownBlock = some g ∨ g = w.heap.size) → wpList Tryz.prog ops Q rest (a.put o.dst (.slice (some ⟨g, 0, none⟩) (ts.length + 1) c)) w') : wpList Tryz.prog ops Q (o :: rest) a w := by
  obtain ⟨i0, hi, hz0, hz1, hz2⟩ := info_parts infoT
  refine wpList_append_lies w hgd sl x 29 ho B 9 i0 _ 1 16 Tryz.underlying29 hi hz0 hz1 hz2 rfl (by decide) v ts.length _ hs h ⟨b, 0, none⟩ 1 cap [sV t] hx rfl ?_ ?_ Nat.zero_lt_one ?_ ?_ hB w.heap.size rfl ?_
  · intro j u hj
    exact World.news_of_block hblk j u hj
  · intro u hu
    simp only [List.mem_cons, List.not_mem_nil, or_false] at hu
    subst hu
    rfl
  · unfold maxLen; omega
  · omega
  · intro g c w' ho' hg hat _
    refine k g c w' ?_ hg hat
    unfold RowT tC
    rw [List.length_append, List.map_append]
    exact ho'
/-- A text that is read. -/
theorem RowT.at {B : Nat} {v : Value} {ts : List (List UInt8)} {w : World} (h : RowT B v ts w) (k : Nat) (hk : k < ts.length) : ∃ g cap, v = .slice (some ⟨g, 0, none⟩) ts.length cap ∧ w.cell? ⟨g, k, none⟩ = some (sV ts[k]) ∧ w.frozen? ⟨g, k, none⟩ = false := by
  obtain ⟨g, cap, hv, hc⟩ := Rw.cells h (by omega)
  refine ⟨g, cap, hv, ?_, (hc k (by omega)).2⟩
  rw [(hc k (by omega)).1]
  simp [tC, hk]
/-- A store into the last text. -/
theorem RowT.setLast {B g cap : Nat} {ts : List (List UInt8)} {j : List UInt8} {w : World} (h : RowT B (.slice (some ⟨g, 0, none⟩) (ts ++ [j]).length cap) (ts ++ [j]) w) (t : List UInt8) : RowT B (.slice (some ⟨g, 0, none⟩) (ts ++ [t]).length cap) (ts ++ [t]) (w.setCell ⟨g, ts.length, none⟩ (sV t)) := by
  obtain ⟨h1, h2⟩ := h
  refine ⟨by simp [tC], ?_⟩
  rcases h2 with ⟨h2, _⟩ | ⟨g', cap', cur, hv, hb, hh, hr1, hr2, hr3, hr4⟩
  · cases h2
  · injection hv with e1 e2 e3
    injection e1 with e1
    injection e1 with e1
    subst e1 e3
    have hlen : (ts ++ [j]).length = ts.length + 1 := by simp
    refine Or.inr ⟨g, cap, cur.setIfInBounds ts.length (sV t), by simp, hb, ?_, by simpa using hr1, hr2, by simpa using hr3, ?_⟩
    · simp [World.setCell, Array.getElem?_modify, hh]
    · have hcs : ts.length < cur.size := by rw [hr3]; rw [hlen] at hr1; omega
      have hk : cur.toList.take (ts.length + 1) = tC (ts ++ [j]) := by rw [← hr4]; simp
      have h3 : cur.toList.take ts.length = tC ts := by
        have := congrArg (List.take ts.length) hk
        rw [List.take_take, Nat.min_eq_left (by omega)] at this
        rw [this]
        simp [tC]
      have hl : ts.length < cur.toList.length := by simpa using hcs
      rw [show (ts ++ [t]).length * 1 = ts.length + 1 by simp, Array.toList_setIfInBounds, List.take_set, List.take_succ_eq_append_getElem hl, h3]
      simp [tC]
end Go.Proofs.YtnnbbjdidbggmaaGreatDoor.F0
namespace Go.Proofs.YtnnbbjdidbggmaaGreatDoor.Pt
open Go Go.RowKit Go.Joins Kit F0

/-- The counter: the text, and how many parts there are. -/
def Ct (s : ByteArray) (C n : Nat) (w : World) : Prop := w.heap[C]? = some (.cells #[.string s, .int .i64 (n : Int)] 79 (0, 0))
namespace Ct
variable {s : ByteArray} {C n : Nat} {w w' : World}
theorem lt (h : Ct s C n w) : C < w.heap.size := (Array.getElem?_eq_some_iff.1 h).1
theorem c0 (h : Ct s C n w) : w.cell? ⟨C, 0, none⟩ = some (.string s) := by rw [Lib.cell_of_heap h]; rfl
theorem c1 (h : Ct s C n w) : w.cell? ⟨C, 1, none⟩ = some (.int .i64 (n : Int)) := by rw [Lib.cell_of_heap h]; rfl
theorem free (h : Ct s C n w) (o : Nat) : w.frozen? ⟨C, o, none⟩ = false := Lib.frozen_of_heap h o
theorem same (h : Ct s C n w) (k : w'.heap[C]? = w.heap[C]?) : Ct s C n w' := k.trans h
theorem below (h : Ct s C n w) (k : Below w.heap.size w w') : Ct s C n w' := h.same (k.block C h.lt)
theorem set (h : Ct s C n w) (m : Nat) : Ct s C m (w.setCell ⟨C, 1, none⟩ (.int .i64 (m : Int))) := by
  unfold Ct at h ⊢
  simp [World.setCell, Array.getElem?_modify, h]
end Ct
/-- What a call keeps. -/
structure Rp (s : ByteArray) (C n R P : Nat) (c0 c1 c2 c3 c4 c5 c6 c7 : Value) (w W : World) : Prop where
  ct : Ct s C n W
  zr : Zx R W
  bp : Bx P c0 c1 c2 c3 c4 c5 c6 c7 W
  st : Step C w W
  hR : w.heap.size ≤ R
  hP : w.heap.size ≤ P
  ne : R ≠ P
  hC : C < w.heap.size
namespace Rp
variable {s : ByteArray} {C n R P : Nat} {c0 c1 c2 c3 c4 c5 c6 c7 : Value} {w W W' : World}
theorem below (h : Rp s C n R P c0 c1 c2 c3 c4 c5 c6 c7 w W) (k : Below W.heap.size W W') : Rp s C n R P c0 c1 c2 c3 c4 c5 c6 c7 w W' :=
  ⟨h.ct.below k, h.zr.same (k.block R h.zr.lt), h.bp.below k, h.st.trans (Step.of_below k), h.hR, h.hP, h.ne, h.hC⟩
theorem neC (h : Rp s C n R P c0 c1 c2 c3 c4 c5 c6 c7 w W) : C ≠ P := by have := h.hC; have := h.hP; omega
theorem put (h : Rp s C n R P c0 c1 c2 c3 c4 c5 c6 c7 w W) (o : Nat) (v : Value) {d0 d1 d2 d3 d4 d5 d6 d7 : Value} (hb : Bx P d0 d1 d2 d3 d4 d5 d6 d7 (W.setCell ⟨P, o, none⟩ v)) : Rp s C n R P d0 d1 d2 d3 d4 d5 d6 d7 w (W.setCell ⟨P, o, none⟩ v) :=
  ⟨h.ct.same (Below.heap_setCell _ _ _ _ h.neC), h.zr.same (Below.heap_setCell _ _ _ _ h.ne), hb, h.st.setNew h.hP o v, h.hR, h.hP, h.ne, h.hC⟩
theorem set0 (h : Rp s C n R P c0 c1 c2 c3 c4 c5 c6 c7 w W) (v : Value) : Rp s C n R P v c1 c2 c3 c4 c5 c6 c7 w (W.setCell ⟨P, 0, none⟩ v) := h.put 0 v (h.bp.set0 v)
theorem set1 (h : Rp s C n R P c0 c1 c2 c3 c4 c5 c6 c7 w W) (v : Value) : Rp s C n R P c0 v c2 c3 c4 c5 c6 c7 w (W.setCell ⟨P, 1, none⟩ v) := h.put 1 v (h.bp.set1 v)
theorem set2 (h : Rp s C n R P c0 c1 c2 c3 c4 c5 c6 c7 w W) (v : Value) : Rp s C n R P c0 c1 v c3 c4 c5 c6 c7 w (W.setCell ⟨P, 2, none⟩ v) := h.put 2 v (h.bp.set2 v)
theorem set3 (h : Rp s C n R P c0 c1 c2 c3 c4 c5 c6 c7 w W) (v : Value) : Rp s C n R P c0 c1 c2 v c4 c5 c6 c7 w (W.setCell ⟨P, 3, none⟩ v) := h.put 3 v (h.bp.set3 v)
theorem set7 (h : Rp s C n R P c0 c1 c2 c3 c4 c5 c6 c7 w W) (v : Value) : Rp s C n R P c0 c1 c2 c3 c4 c5 c6 v w (W.setCell ⟨P, 7, none⟩ v) := h.put 7 v (h.bp.set7 v)
end Rp
theorem Rp.call {s : ByteArray} {C n m R P : Nat} {c0 c1 c2 c3 c4 c5 c6 c7 : Value} {w W W' : World} (h : Rp s C n R P c0 c1 c2 c3 c4 c5 c6 c7 w W) (k : Step C W W') (hc : Ct s C m W') : Rp s C m R P c0 c1 c2 c3 c4 c5 c6 c7 w W' :=
  ⟨hc, h.zr.same (k.block R h.zr.lt (by have := h.hR; have := h.hC; omega)), h.bp.same (k.block P h.bp.lt (by have := h.hP; have := h.hC; omega)), h.st.trans k, h.hR, h.hP, h.ne, h.hC⟩
theorem Rp.grown {s : ByteArray} {C n R P : Nat} {c0 c1 c2 c3 c4 c5 c6 c7 : Value} {w W W' : World} {row : Option Nat} (h : Rp s C n R P c0 c1 c2 c3 c4 c5 c6 c7 w W) (hRP : R < P) (hg : W.grownBy W' row) (hr : ∀ r, row = some r → P < r) : Rp s C n R P c0 c1 c2 c3 c4 c5 c6 c7 w W' :=
  ⟨h.ct.same (hg.block C h.ct.lt (fun e => by have := hr C e.symm; have := h.hC; have := h.hP; omega)), h.zr.same (hg.block R h.zr.lt (fun e => by have := hr R e.symm; omega)), h.bp.same (hg.block P h.bp.lt (fun e => by have := hr P e.symm; omega)),
    h.st.grown hg (fun r e => by have := hr r e; have := h.hP; omega), h.hR, h.hP, h.ne, h.hC⟩
/-- append of a part, as a step of a region that draws. -/
theorem Kids.step8 {ops : Array Oper} {o : Oper} {a : Act} {K : Act → World → Prop} {R : Exit → Act → World → Prop} {E : Prop} (hgd : o.guard = none) (sl x : Operand)
    (ho : o.op = .call { callee := .builtin .append, args := #[sl, x], argTypes := #[40, 40] })
    (B : Nat) (w : World) (v : Value) (kids : List P) (hK : Kids B v kids w) (j : P) (c0 c1 c2 c3 c4 c5 c6 c7 : Value) (hj : PartAt (fun k => B ≤ k ∧ v.ownBlock ≠ some k) w j (.agg #[c0, c1, c2, c3, c4, c5, c6, c7]))
    (b cap : Nat) (fr : Nat × Nat) (hblk : w.heap[b]? = some (.cells #[c0, c1, c2, c3, c4, c5, c6, c7] 42 fr)) (hs : a.eval sl = v) (hx : a.eval x = .slice (some ⟨b, 0, none⟩) 1 cap) (hlen : kids.length ≤ 65536) (hsz : B ≤ w.heap.size)
    (h : ∀ g c w', Kids B (.slice (some ⟨g, 0, none⟩) (kids.length + 1) c) (kids ++ [j]) w' → w.grownBy w' v.ownBlock → K (a.put o.dst (.slice (some ⟨g, 0, none⟩) (kids.length + 1) c)) w') :
    if Region.wanted o (yielded ops a.tmps) = true then Oper.wp Tryz.prog o a w K R else E := by
  obtain ⟨i0, hi, hz0, hz1, hz2⟩ := info_parts infoP
  obtain ⟨cs, hown, hkids⟩ := hK
  have h1 := part_one hj
  refine step_append_lies w hgd sl x 40 ho B 42 i0 _ 8 112 Tryz.underlying40 hi hz0 hz1 hz2 rfl (by decide) v kids.length cs hs hown ⟨b, 0, none⟩ 1 cap [c0, c1, c2, c3, c4, c5, c6, c7] hx rfl ?_ h1 (by decide) ?_ ?_ hsz w.heap.size rfl ?_
  · intro k u hk
    exact World.news_of_block hblk k u hk
  · unfold maxLen; omega
  · omega
  · intro g c w' ho' hg hat _
    have hkk : Kept (fun k => B ≤ k ∧ v.ownBlock ≠ some k) (fun k => B ≤ k ∧ (Value.slice (some ⟨g, 0, none⟩) (kids.length + 1) c).ownBlock ≠ some k) w w' := kept_block fun k _ _ _ hk hb => by
      have hl := (Array.getElem?_eq_some_iff.1 hb).1
      refine ⟨⟨hk.1, fun e => ?_⟩, hg.block k hl (fun e => hk.2 e.symm)⟩
      simp only [Value.ownBlock, Option.some.injEq] at e
      subst e
      rcases hat with hat | hat
      · exact hk.2 hat
      · omega
    refine h g c w' ⟨cs ++ [c0, c1, c2, c3, c4, c5, c6, c7], by rw [List.length_append]; exact ho', kids_snoc (PartAt.keep hkk hj) (KidsAt.keep hkk hkids)⟩ hg
/-- What stands when the part is told. -/
theorem Rp.fin {s : ByteArray} {C n R B a f b : Nat} {ty en : List UInt8} {ab : Bool} {ps : List Fl} {ks : List P} {qa ka : Option Addr} {qc kc : Nat} {w W : World}
    (h : Rp s C n R B (.string ⟨ty.toArray⟩) (.slice qa ps.length qc) (.string ⟨en.toArray⟩) (.bool ab) (.int .i64 (a : Int)) (.int .i64 (f : Int)) (.int .i64 (b : Int)) (.slice ka ks.length kc) w W) (hRP : R < B)
    (hps : CellsAt (fun g => B < g) W ps.length (.slice qa ps.length qc) (fC ps)) {KB : Nat} (hKB : B < KB) (hks : Kids KB (.slice ka ks.length kc) ks W) :
    Bx R (.string ⟨ty.toArray⟩) (.slice qa ps.length qc) (.string ⟨en.toArray⟩) (.bool ab) (.int .i64 (a : Int)) (.int .i64 (f : Int)) (.int .i64 (b : Int)) (.slice ka ks.length kc) (finW W R (.string ⟨ty.toArray⟩) (.slice qa ps.length qc) (.string ⟨en.toArray⟩) (.bool ab) (.int .i64 (a : Int)) (.int .i64 (f : Int)) (.int .i64 (b : Int)) (.slice ka ks.length kc)) ∧
    PartAt (fun g => w.heap.size ≤ g) (finW W R (.string ⟨ty.toArray⟩) (.slice qa ps.length qc) (.string ⟨en.toArray⟩) (.bool ab) (.int .i64 (a : Int)) (.int .i64 (f : Int)) (.int .i64 (b : Int)) (.slice ka ks.length kc)) (.mk ty ps en ab a f b ks)
      (.agg #[.string ⟨ty.toArray⟩, .slice qa ps.length qc, .string ⟨en.toArray⟩, .bool ab, .int .i64 (a : Int), .int .i64 (f : Int), .int .i64 (b : Int), .slice ka ks.length kc]) ∧
    Ct s C n (finW W R (.string ⟨ty.toArray⟩) (.slice qa ps.length qc) (.string ⟨en.toArray⟩) (.bool ab) (.int .i64 (a : Int)) (.int .i64 (f : Int)) (.int .i64 (b : Int)) (.slice ka ks.length kc)) ∧
    Step C w (finW W R (.string ⟨ty.toArray⟩) (.slice qa ps.length qc) (.string ⟨en.toArray⟩) (.bool ab) (.int .i64 (a : Int)) (.int .i64 (f : Int)) (.int .i64 (b : Int)) (.slice ka ks.length kc)) := by
  have h0 := h.hR
  have h1 := h.hC
  have hk : ∀ Q : Nat → Prop, (∀ g, Q g → B < g) → Kept Q (fun g => w.heap.size ≤ g) W (finW W R (.string ⟨ty.toArray⟩) (.slice qa ps.length qc) (.string ⟨en.toArray⟩) (.bool ab) (.int .i64 (a : Int)) (.int .i64 (f : Int)) (.int .i64 (b : Int)) (.slice ka ks.length kc)) :=
    fun Q hQ => finW_kept W R _ _ _ _ _ _ _ _ (fun g hg => by have := hQ g hg; exact ⟨by omega, by omega⟩)
  refine ⟨Bx.setAll h.zr _ _ _ _ _ _ _ _, ?_, h.ct.same (finW_other _ _ _ _ _ _ _ _ _ _ C (by omega)), ?_⟩
  · rw [PartAt]
    obtain ⟨cs, k1, k2⟩ := hks.read (fun g => B < g) (fun g hg => Nat.lt_of_lt_of_le hKB hg)
    exact ⟨_, _, rfl, hps.keep (hk _ (fun g hg => hg)), cs, k1.keep (hk _ (fun g hg => hg)), KidsAt.keep (hk _ (fun g hg => hg)) k2⟩
  · unfold finW
    exact (((((((h.st.setNew h.hR 0 _).setNew h.hR 1 _).setNew h.hR 2 _).setNew h.hR 3 _).setNew h.hR 4 _).setNew h.hR 5 _).setNew h.hR 6 _).setNew h.hR 7 _
theorem rowL_at0 {B : Nat} {v : Value} {ls : List Tl} {w : World} (h : RowL B v ls w) (k : Nat) (hk : k < ls.length) : ∃ g cap, v = .slice (some ⟨g, 0, none⟩) ls.length cap ∧ g < w.heap.size ∧ w.cell? ⟨g, k * 3, none⟩ = some (.int .i64 (ls[k].1 : Int)) ∧ w.cell? ⟨g, k * 3 + 1, none⟩ = some (sV ls[k].2.1) ∧ w.cell? ⟨g, k * 3 + 2, none⟩ = some (.int .i64 (ls[k].2.2 : Int)) := by
  obtain ⟨g, cap, hv, hc⟩ := Rw.cells h (by omega)
  obtain ⟨q1, q2⟩ := lC_at ls k hk
  have q0 : ∀ (l : List Tl) (k : Nat) (h : k < l.length), (lC l)[k * 3]? = some (.int .i64 (l[k].1 : Int)) := by
    intro l
    induction l with
    | nil => intro k h; simp at h
    | cons x l ih =>
      intro k h
      cases k with
      | zero => rfl
      | succ k =>
        have := ih k (by simpa using h)
        rw [lC, show (k + 1) * 3 = k * 3 + 3 by omega]
        simpa using this
  have hz : w.cell? ⟨g, k * 3, none⟩ = some (.int .i64 (ls[k].1 : Int)) := by rw [(hc (k * 3) (by omega)).1, q0 ls k hk]
  exact ⟨g, cap, hv, cell_lt hz, hz, by rw [(hc (k * 3 + 1) (by omega)).1, q1], by rw [(hc (k * 3 + 2) (by omega)).1, q2]⟩
/-- What stands behind the call's beginning. -/
theorem rp_made {s : ByteArray} {C n : Nat} {w : World} (h : Ct s C n w) (y : Int) (hy : y = ((n + 1 : Nat) : Int)) : Ct s C (n + 1) ((newP w).setCell ⟨C, 1, none⟩ (.int .i64 y)) ∧ Zx w.heap.size ((newP w).setCell ⟨C, 1, none⟩ (.int .i64 y)) ∧ Step C w ((newP w).setCell ⟨C, 1, none⟩ (.int .i64 y)) := by
  subst hy
  have h1 : Ct s C n (newP w) := h.below ((Below.refl _ w).alloc (Nat.le_refl _) _)
  have h2 : Step C w (newP w) := (Step.refl C w).alloc _
  refine ⟨h1.set (n + 1), (newP_zx w).same (Below.heap_setCell _ _ _ _ (by show w.heap.size ≠ C; have := h.lt; omega)), h2.set _ _⟩
theorem rp_begin {s : ByteArray} {C n R : Nat} {w W : World} {c0 c1 c2 c3 c4 c5 c6 c7 : Value} (hc : Ct s C n W) (hz : Zx R W) (hs : Step C w W) (hR : w.heap.size ≤ R) (hC : C < w.heap.size) :
    Rp s C n R W.heap.size c0 c1 c2 c3 c4 c5 c6 c7 w (W.alloc (.cells #[c0, c1, c2, c3, c4, c5, c6, c7] 42)) :=
  ⟨hc.below ((Below.refl _ W).alloc (Nat.le_refl _) _), hz.same (Below.heap_alloc _ _ _ hz.lt), Bx.made W _ _ _ _ _ _ _ _, hs.alloc _, hR, hs.size, by have := hz.lt; omega, hC⟩
end Go.Proofs.YtnnbbjdidbggmaaGreatDoor.Pt
namespace Go.Proofs.YtnnbbjdidbggmaaGreatDoor.Rx
open Go Go.RowKit Go.Joins Kit

/-- Where sub first stands in l from place i on; -1: nowhere. -/
def idxFrom (l sub : List UInt8) : Nat → Nat → Int
  | 0, _ => -1
  | f + 1, i => if i + sub.length ≤ l.length then (if (l.drop i).take sub.length = sub then (i : Int) else idxFrom l sub f (i + 1)) else -1
theorem take_one (l : List UInt8) (i : Nat) (h : i < l.length) (c : UInt8) : (l.drop i).take [c].length = [c] ↔ l[i] = c := by
  rw [List.drop_eq_getElem_cons h, List.length_singleton, List.take_succ_cons, List.take_zero]
  constructor
  · intro e; exact (List.cons.inj e).1
  · intro e; rw [e]
theorem one_none (l : List UInt8) (c : UInt8) : ∀ (f i : Nat) (_ : ∀ (k : Nat) (h : k < l.length), i ≤ k → l[k] ≠ c), idxFrom l [c] f i = -1
  | 0, _, _ => rfl
  | f + 1, i, h => by
    rw [idxFrom]
    split
    · rename_i hl
      have hi : i < l.length := by rw [List.length_singleton] at hl; omega
      rw [if_neg (fun e => h i hi (Nat.le_refl _) ((take_one l i hi c).1 e)), one_none l c f (i + 1) (fun k hk hle => h k hk (by omega))]
    · rfl
theorem one_some (l : List UInt8) (c : UInt8) (n : Nat) (hn : n < l.length) (hc : l[n] = c) : ∀ (f i : Nat) (_ : i ≤ n) (_ : ∀ (k : Nat) (h : k < l.length), i ≤ k → k < n → l[k] ≠ c) (_ : l.length < i + f), idxFrom l [c] f i = (n : Int)
  | 0, i, _, _, hf => by omega
  | f + 1, i, hi, h, hf => by
    rw [idxFrom, if_pos (by rw [List.length_singleton]; omega)]
    by_cases e : i = n
    · subst e
      rw [if_pos ((take_one l i hn c).2 hc)]
    · rw [if_neg (fun e' => h i (by omega) (Nat.le_refl _) (by omega) ((take_one l i (by omega) c).1 e')), one_some l c n hn hc f (i + 1) (by omega) (fun k hk hle hlt => h k hk (by omega) hlt) (by omega)]
set_option maxHeartbeats 1000000 in
theorem index_any (s sub : ByteArray) (at0 : Nat) (w : World) (hs : s.size ≤ 1099511627776) (hsub : sub.size ≤ 1099511627776) (hat : at0 ≤ 1099511627776) :
    Calls Tryz.prog 40 #[.string s, .string sub, .int .i64 at0] w fun e w' => e = .returned (.int .i64 (idxFrom s.data.toList sub.data.toList (s.size + 1) at0)) ∧ w = w' := by
  have hl1 := Lib.hid (Lib.size_eq s)
  have hl2 := Lib.hid (Lib.size_eq sub)
  go_enter Tryz.func40, Tryz.ntmps40
  go_wp2_with fail
  go_loop [7] (fun i => ∃ k f : Nat, k ≤ 2 * 1099511627776 ∧ i = .int .i64 k ∧ s.size < k + f ∧ Hid (idxFrom s.data.toList sub.data.toList f k = idxFrom s.data.toList sub.data.toList (s.size + 1) at0)) (fun i => s.size + 1 - (intOf i).toNat)
  case atStart => exact ⟨at0, s.size + 1, by omega, rfl, by omega, rfl⟩
  case round =>
    obtain ⟨k, f, hk, rfl, hf, hidx⟩ := hrel
    by_cases hlt : k + sub.size ≤ s.size
    · obtain ⟨f, rfl⟩ : ∃ g, f = g + 1 := ⟨f - 1, by omega⟩
      have hstep : Hid (idxFrom s.data.toList sub.data.toList (f + 1) k = if (s.data.toList.drop k).take sub.data.toList.length = sub.data.toList then (k : Int) else idxFrom s.data.toList sub.data.toList f (k + 1)) := by
        show _ = _
        rw [idxFrom, if_pos (by rw [← hl1.out, ← hl2.out]; exact hlt)]
      have hex : (s.extract k (k + sub.size)).toList = (s.data.toList.drop k).take sub.data.toList.length := by
        rw [Lib.extract_toList, show k + sub.size - k = sub.data.toList.length by rw [← hl2.out]; omega]
      have g1 : (k : Int) + sub.size ≤ s.size := by omega
      by_cases he : (s.data.toList.drop k).take sub.data.toList.length = sub.data.toList
      · have heq : ((s.extract k (k + sub.size)).toList == sub.toList) = true := by rw [hex, he, Lib.toList_data]; simp
        have HE := Lib.hid he
        clear he hex
        go_wp2
        go_ret
        exact ⟨ret_int (by rw [← hidx.out, hstep.out, if_pos HE.out]), rfl⟩
      · have heq : ((s.extract k (k + sub.size)).toList == sub.toList) = false := by rw [hex, Lib.toList_data]; simpa using he
        have HE := Lib.hid he
        clear he hex
        go_wp2
        go_round
        case rel => exact ⟨k + 1, f, by omega, by go_num, by omega, by show _ = _; rw [← hidx.out, hstep.out, if_neg HE.out]⟩
        case measure => simp [intOf]; omega
    · have hend : Hid (idxFrom s.data.toList sub.data.toList f k = -1) := by
        show _ = _
        cases f with
        | zero => rfl
        | succ f => rw [idxFrom, if_neg (by rw [← hl1.out, ← hl2.out]; exact hlt)]
      have g1 : ¬ ((k : Int) + sub.size ≤ s.size) := by omega
      go_wp2
      go_ret
      exact ⟨ret_int (by rw [← hidx.out, hend.out]), rfl⟩
/-- At one byte, from the beginning. -/
theorem index_one (s : ByteArray) (c : UInt8) (w : World) (hs : s.size ≤ 1099511627776) :
    Calls Tryz.prog 40 #[.string s, .string ⟨#[c]⟩, .int .i64 0] w fun e w' => w = w' ∧
      ((e = .returned (.int .i64 (-1)) ∧ ∀ x ∈ s.data.toList, x ≠ c) ∨ ∃ a r : List UInt8, s.data.toList = a ++ c :: r ∧ (∀ x ∈ a, x ≠ c) ∧ e = .returned (.int .i64 (a.length : Int))) := by
  refine (index_any s ⟨#[c]⟩ 0 w hs (by show 1 ≤ _; omega) (by omega)).mono ?_
  rintro e w' ⟨rfl, rfl⟩
  refine ⟨rfl, ?_⟩
  rw [show (ByteArray.mk #[c]).data.toList = [c] from rfl]
  have hc : (∀ x ∈ s.data.toList, x ≠ c) ∨ ∃ a r, s.data.toList = a ++ c :: r ∧ ∀ x ∈ a, x ≠ c := by
    induction s.data.toList with
    | nil => exact Or.inl (by simp)
    | cons b l ih =>
      by_cases hb : b = c
      · exact Or.inr ⟨[], l, by rw [hb]; rfl, by simp⟩
      · rcases ih with h | ⟨a, r, h1, h2⟩
        · refine Or.inl (fun x hx => ?_)
          rcases List.mem_cons.1 hx with rfl | hx
          · exact hb
          · exact h x hx
        · refine Or.inr ⟨b :: a, r, by rw [h1]; rfl, fun x hx => ?_⟩
          rcases List.mem_cons.1 hx with rfl | hx
          · exact hb
          · exact h2 x hx
  rcases hc with h | ⟨a, r, h1, h2⟩
  · exact Or.inl ⟨by rw [one_none _ _ _ 0 (fun k hk _ => h _ (List.getElem_mem hk))], h⟩
  · refine Or.inr ⟨a, r, h1, h2, ?_⟩
    have hlt : a.length < s.data.toList.length := by rw [h1, List.length_append, List.length_cons]; omega
    rw [one_some _ c a.length hlt (by simp [h1]) _ 0 (Nat.zero_le _) (fun k hk _ hlt => h2 _ (by simp only [h1]; rw [List.getElem_append_left hlt]; exact List.getElem_mem hlt)) (by rw [← Lib.size_eq]; omega)]
end Go.Proofs.YtnnbbjdidbggmaaGreatDoor.Rx
namespace Go.Proofs.YtnnbbjdidbggmaaGreatDoor.Pt
open Go Go.RowKit Kit

theorem idx_byte (f : List UInt8) (hf : f = [59] ∨ f = [61, 59] ∨ f = [46]) (c : UInt8) : (Rx.idxFrom f [c] (f.length + 1) 0 < 0 ∧ c ∉ f) ∨ (¬ Rx.idxFrom f [c] (f.length + 1) 0 < 0 ∧ c ∈ f) := by
  by_cases h : c ∈ f
  · refine Or.inr ⟨?_, h⟩
    rcases hf with rfl | rfl | rfl
    · rw [List.mem_singleton] at h
      subst h
      decide
    · simp only [List.mem_cons, List.not_mem_nil, or_false] at h
      rcases h with rfl | rfl <;> decide
    · rw [List.mem_singleton] at h
      subst h
      decide
  · refine Or.inl ⟨?_, h⟩
    rw [Rx.one_none f c _ 0 (fun k hk _ e => h (by rw [← e]; exact List.getElem_mem hk))]
    decide
theorem ext_one (s : ByteArray) (k : Nat) (h : k < s.size) : (s.extract k (k + 1)).data.toList = [s[k]] := by
  rw [← Lib.toList_data, Lib.extract_toList, show k + 1 - k = 1 by omega, List.drop_eq_getElem_cons (by rw [← Lib.size_eq]; exact h)]
  rfl

set_option maxHeartbeats 1000000 in
set_option maxRecDepth 100000 in
theorem until_any (s : ByteArray) (f : List UInt8) (hf : f = [59] ∨ f = [61, 59] ∨ f = [46]) (i0 : Nat) (hi : i0 ≤ s.size) (w : World) (hs : s.size ≤ 1099511627776) :
    Calls Tryz.prog 26 #[.string s, .int .i64 (i0 : Int), .string ⟨f.toArray⟩] w fun e w' => w = w' ∧ ∃ k, i0 ≤ k ∧ k ≤ s.size ∧ e = .returned (.int .i64 (k : Int)) ∧ (∀ (j : Nat) (h : j < s.size), i0 ≤ j → j < k → s[j] ∉ f) ∧ ∀ h : k < s.size, s[k] ∈ f := by
  obtain ⟨F, hF⟩ : ∃ F : ByteArray, F = ⟨f.toArray⟩ := ⟨_, rfl⟩
  have hFl : F.data.toList = f := by rw [hF]
  have hFs : F.size ≤ 2 := by rw [Lib.size_eq, hFl]; rcases hf with rfl | rfl | rfl <;> simp
  rw [← hF]
  have HF := Lib.hid hf
  have HFL := Lib.hid hFl
  clear hF hFl hf
  go_enter Tryz.func26, Tryz.ntmps26
  go_wp2_with fail
  go_loop [1] (fun i => ∃ k : Nat, i0 ≤ k ∧ k ≤ s.size ∧ i = .int .i64 (k : Int) ∧ Hid (∀ (j : Nat) (h : j < s.size), i0 ≤ j → j < k → s[j] ∉ f)) (fun i => s.size - (intOf i).toNat)
  case atStart => exact ⟨i0, Nat.le_refl _, hi, rfl, Lib.hid (fun j _ h1 h2 => by omega)⟩
  case round =>
    obtain ⟨k, hk0, hk1, rfl, hno⟩ := hrel
    by_cases hlt : k < s.size
    · have g1 : (k : Int) < (s.size : Int) := by omega
      have HX := Lib.hid (ext_one s k hlt)
      obtain ⟨X, hX⟩ : ∃ X, s.extract k (k + 1) = X := ⟨_, rfl⟩
      rw [hX] at HX
      have hXs : X.size ≤ 1 := by rw [Lib.size_eq, HX.out]; simp
      have HC := Lib.hid (idx_byte f HF.out s[k])
      go_wp2_with fail
      refine (Rx.index_any F X 0 w (by omega) (by omega) (by omega)).mono ?_
      rintro e w1 ⟨rfl, rfl⟩
      have HJ := HC.out
      rw [← HX.out, ← HFL.out, ← Lib.size_eq] at HJ
      obtain ⟨J, hJ⟩ : ∃ J, Rx.idxFrom F.data.toList X.data.toList (F.size + 1) 0 = J := ⟨_, rfl⟩
      rw [hJ] at HJ ⊢
      rcases HJ with ⟨g2, hm⟩ | ⟨g2, hm⟩
      · have HN := Lib.hid hm
        clear hm hJ hX
        go_wp2_with fail
        go_round
        case rel => exact ⟨k + 1, by omega, by omega, by go_num, Lib.hid (fun j h h1 h2 => by
          by_cases e : j = k
          · subst e
            have := HN.out
            rw [HFL.out] at this
            exact this
          · exact hno.out j h h1 (by omega))⟩
        case measure => simp [intOf]; omega
      · have HN := Lib.hid hm
        clear hm hJ hX
        go_wp2_with fail
        go_ret
        refine ⟨rfl, k, hk0, hk1, rfl, hno.out, fun h => ?_⟩
        have := HN.out
        rw [HFL.out] at this
        exact this
    · have g1 : ¬ (k : Int) < (s.size : Int) := by omega
      go_wp2_with fail
      go_ret
      exact ⟨rfl, k, hk0, hk1, rfl, hno.out, fun h => absurd h hlt⟩
/-- The bytes from a place to another one. -/
theorem drop_span (l : List UInt8) (i k : Nat) (h : i ≤ k) : l.drop i = (l.take k).drop i ++ l.drop k := by
  conv => lhs; rw [← List.take_append_drop k l]
  by_cases hk : k ≤ l.length
  · rw [List.drop_append_of_le_length (by rw [List.length_take]; omega)]
  · rw [List.drop_of_length_le (show l.length ≤ k by omega), List.append_nil, List.append_nil]
theorem span_mem {l : List UInt8} {i k : Nat} {x : UInt8} (hk : k ≤ l.length) (h : x ∈ (l.take k).drop i) : ∃ (j : Nat) (hj : j < l.length), i ≤ j ∧ j < k ∧ x = l[j] := by
  obtain ⟨n, hn, rfl⟩ := List.getElem_of_mem h
  rw [List.length_drop, List.length_take] at hn
  exact ⟨i + n, by omega, by omega, by omega, by simp⟩
/-- What until tells, as lists. -/
structure UntL (D f : List UInt8) (i k : Nat) (a : List UInt8) : Prop where
  ge : i ≤ k
  le : k ≤ D.length
  eq : D.drop i = a ++ D.drop k
  len : a.length = k - i
  no : ∀ x ∈ a, x ∉ f
  at_ : ∀ h : k < D.length, D[k] ∈ f
  sp : a = (D.take k).drop i
theorem UntL.mk' {s : ByteArray} {f : List UInt8} {i k : Nat} (h1 : i ≤ k) (h2 : k ≤ s.size) (h3 : ∀ (j : Nat) (h : j < s.size), i ≤ j → j < k → s[j] ∉ f) (h4 : ∀ h : k < s.size, s[k] ∈ f) : UntL s.data.toList f i k ((s.data.toList.take k).drop i) := by
  have hl : k ≤ s.data.toList.length := by rw [← Lib.size_eq]; exact h2
  refine ⟨h1, hl, drop_span _ i k h1, by rw [List.length_drop, List.length_take]; omega, fun x hx => ?_, fun h => ?_, rfl⟩
  · obtain ⟨j, hj, q1, q2, rfl⟩ := span_mem hl hx
    exact h3 j (by rw [Lib.size_eq]; exact hj) q1 q2
  · exact h4 (by rw [Lib.size_eq]; exact h)
theorem UntL.end_ {D f a : List UInt8} {i k : Nat} (h : UntL D f i k a) (hk : k = D.length) : D.drop i = a := by
  rw [h.eq, hk, List.drop_length, List.append_nil]
theorem UntL.cons {D f a : List UInt8} {i k : Nat} (h : UntL D f i k a) (hk : k < D.length) : D.drop i = a ++ D[k] :: D.drop (k + 1) := by
  rw [h.eq, List.drop_eq_getElem_cons hk]
end Go.Proofs.YtnnbbjdidbggmaaGreatDoor.Pt
namespace Go.Proofs.YtnnbbjdidbggmaaGreatDoor.Pt
open Go Go.RowKit Go.Joins Kit F0

theorem rtrL_eq (l : List UInt8) : rtrL l = rtr l := rfl

set_option maxHeartbeats 2000000 in
set_option maxRecDepth 100000 in
theorem rtail_any (s : ByteArray) (w : World) (hs : s.size ≤ 1099511627776) :
    Calls Tryz.prog 88 #[.string s] w fun e w' => e = .returned (sV (rtrL s.data.toList)) ∧ w = w' := by
  go_enter Tryz.func88, Tryz.ntmps88
  go_wp2_with fail
  go_loop [0] (fun v => ∃ T : ByteArray, v = .string T ∧ T.size ≤ s.size ∧ Hid (rtr T.data.toList = rtrL s.data.toList)) (fun v => Lib.strSize v)
  case atStart => exact ⟨s, rfl, Nat.le_refl _, Lib.hid rfl⟩
  case round =>
    obtain ⟨T, rfl, hT, ht⟩ := hrel
    by_cases k0 : T.size = 0
    · have kte := toList_nil k0
      have hend : Hid (rtrL s.data.toList = T.data.toList) := Lib.hid (by rw [← ht.out, List.length_eq_zero_iff.1 (show T.data.toList.length = 0 by rw [← Lib.size_eq]; exact k0)]; rfl)
      go_wp2_with fail
      go_ret
      rw [hend.out]
      exact ⟨rfl, rfl⟩
    · have kte := toList_isEmpty k0
      obtain ⟨c, r, hcr, hc, hx⟩ := drop_last T (by omega)
      have hlt : T.size - 1 < T.size := by omega
      have hc' := hc hlt
      have HX := Lib.hid hx
      have hxs : (T.extract 0 (T.size - 1)).size = T.size - 1 := by rw [ByteArray.size_extract]; omega
      have hk1 : ((T.size : Int) - 1).toNat = T.size - 1 := by omega
      have hpos : (1 : Int) ≤ (T.size : Int) := by omega
      clear hx
      cases hb : blk c
      · have hend : Hid (rtrL s.data.toList = T.data.toList) := Lib.hid (by rw [← ht.out, hcr, rtr_no hb])
        rw [blk_eq] at hb
        have hb1 : c ≠ 32 := fun e => by rw [e] at hb; cases hb
        have hb2 : c ≠ 9 := fun e => by rw [e] at hb; cases hb
        have hn1 : c.toNat ≠ 32 := fun e => hb1 (UInt8.toNat_inj.1 e)
        have hn2 : c.toNat ≠ 9 := fun e => hb2 (UInt8.toNat_inj.1 e)
        have q1 : ((c.toNat : Int) == 32) = false := by rw [beq_eq_false_iff_ne]; omega
        have q2 : ((c.toNat : Int) == 9) = false := by rw [beq_eq_false_iff_ne]; omega
        have q3 : ¬ (c.toNat : Int) = 32 := by omega
        clear hb hb1 hb2 hn1 hn2 hcr
        go_wp2_with fail
        go_ret
        rw [hend.out]
        exact ⟨rfl, rfl⟩
      · have hnx : Hid (rtr (T.extract 0 (T.size - 1)).data.toList = rtrL s.data.toList) := Lib.hid (by rw [HX.out, ← ht.out, hcr, rtr_yes hb])
        rw [blk_eq] at hb
        clear hcr
        by_cases h32 : c = 32
        · subst h32
          go_wp2_with fail
          go_round
          case rel => exact ⟨_, rfl, by rw [hxs]; omega, hnx⟩
          case measure => rw [Lib.strSize_string, Lib.strSize_string, hxs]; omega
        · have hb2 : c = 9 := by
            rw [Bool.or_eq_true, beq_iff_eq, beq_iff_eq] at hb
            rcases hb with e | e
            · exact absurd e h32
            · exact e
          subst hb2
          clear h32
          go_wp2_with fail
          go_round
          case rel => exact ⟨_, rfl, by rw [hxs]; omega, hnx⟩
          case measure => rw [Lib.strSize_string, Lib.strSize_string, hxs]; omega

/-! ### back -/
theorem span_one (D : List UInt8) (f q : Nat) (hf : f ≤ q) (hq : q < D.length) : (D.take (q + 1)).drop f = (D.take q).drop f ++ [D[q]] := by
  rw [List.take_succ_eq_append_getElem hq, List.drop_append_of_le_length (by rw [List.length_take]; omega)]
theorem span_len2 (D : List UInt8) (f q : Nat) (hq : q ≤ D.length) : ((D.take q).drop f).length = q - f := by
  rw [List.length_drop, List.length_take]
  omega
theorem back_same (D : List UInt8) (f : Nat) : backL D f f = f := by
  unfold backL
  rw [show (D.take f).drop f = [] from List.drop_of_length_le (by rw [List.length_take]; omega)]
  rfl
theorem back_no (D : List UInt8) (f q : Nat) (hf : f ≤ q) (hq : q < D.length) (h : D[q] ≠ 10) : backL D f (q + 1) = q + 1 := by
  have hs : Lib.hasSuffix ((D.take q).drop f ++ [D[q]]) [10] = false := by
    unfold Lib.hasSuffix
    rw [Bool.eq_false_iff]
    intro e
    rw [List.isSuffixOf_iff_suffix] at e
    obtain ⟨t, ht⟩ := e
    have := congrArg List.getLast? ht
    simp at this
    exact h this.symm
  unfold backL woEnd
  rw [span_one D f q hf hq, hs, if_neg (by decide), List.length_append, span_len2 D f q (by omega)]
  simp
  omega
theorem back_lf (D : List UInt8) (f q : Nat) (hf : f ≤ q) (hq : q < D.length) (h : D[q] = 10) : backL D f (q + 1) = f + (chopL ((D.take q).drop f)).length := by
  unfold backL woEnd
  rw [span_one D f q hf hq, h, hasSuffix_snoc, trimSuffix_snoc, if_pos rfl]
theorem back_lf0 (D : List UInt8) (f : Nat) (hq : f < D.length) (h : D[f] = 10) : backL D f (f + 1) = f := by
  rw [back_lf D f f (Nat.le_refl _) hq h, show (D.take f).drop f = [] from List.drop_of_length_le (by rw [List.length_take]; omega)]
  rfl
theorem back_crlf (D : List UInt8) (f q : Nat) (hf : f ≤ q) (hq : q + 1 < D.length) (h : D[q + 1] = 10) (h2 : D[q] = 13) : backL D f (q + 2) = q := by
  rw [back_lf D f (q + 1) (by omega) hq h, span_one D f q hf (by omega), h2, chopL_cr, span_len2 D f q (by omega)]
  omega
theorem back_lf1 (D : List UInt8) (f q : Nat) (hf : f ≤ q) (hq : q + 1 < D.length) (h : D[q + 1] = 10) (h2 : D[q] ≠ 13) : backL D f (q + 2) = q + 1 := by
  rw [back_lf D f (q + 1) (by omega) hq h, span_one D f q hf (by omega), chopL_other (by simpa using h2), List.length_append, span_len2 D f q (by omega)]
  simp
  omega

set_option maxHeartbeats 2000000 in
set_option maxRecDepth 100000 in
theorem rback_any (s : ByteArray) (f p : Nat) (hfp : f ≤ p) (hp : p ≤ s.size) (w : World) (hs : s.size ≤ 1099511627776) :
    Calls Tryz.prog 89 #[.string s, .int .i64 (p : Int), .int .i64 (f : Int)] w fun e w' => e = .returned (.int .i64 (backL s.data.toList f p : Int)) ∧ w = w' := by
  have HSL := Lib.hid (Lib.size_eq s)
  by_cases hpf : p = f
  · subst hpf
    rw [back_same]
    go_enter Tryz.func89, Tryz.ntmps89
    go_wp2_with fail
    go_ret
    exact ⟨rfl, rfl⟩
  · obtain ⟨q, rfl⟩ : ∃ q, p = q + 1 := ⟨p - 1, by omega⟩
    have hq : q < s.size := by omega
    have HQL : Hid (q < s.data.toList.length ∧ True) := Lib.hid ⟨by rw [← HSL.out]; exact hq, trivial⟩
    have HBQ : Hid (s.data.toList[q]'(HQL.out.1) = s[q]) := Lib.hid (Kit.byte_get s q hq)
    have g1 : (f : Int) < ((q + 1 : Nat) : Int) := by omega
    have g1' : (f : Int) < (q : Int) + 1 := by omega
    by_cases h10 : s[q] = 10
    · have q1 : ((s[q].toNat : Int) == 10) = true := by rw [h10]; rfl
      by_cases hqf : q = f
      · subst hqf
        have HR : Hid (backL s.data.toList q (q + 1) = q) := Lib.hid (back_lf0 _ _ HQL.out.1 (by rw [HBQ.out]; exact h10))
        rw [HR.out]
        have g2 : ¬ (q : Int) < (q : Int) := by omega
        clear h10 HBQ
        go_enter Tryz.func89, Tryz.ntmps89
        go_wp2_with fail
        go_ret
        exact ⟨ret_int (by omega), rfl⟩
      · obtain ⟨r, rfl⟩ : ∃ r, q = r + 1 := ⟨q - 1, by omega⟩
        have hr : r < s.size := by omega
        have HRL : Hid (r < s.data.toList.length ∧ True) := Lib.hid ⟨by rw [← HSL.out]; exact hr, trivial⟩
        have HBR : Hid (s.data.toList[r]'(HRL.out.1) = s[r]) := Lib.hid (Kit.byte_get s r hr)
        have g2 : (f : Int) < (r : Int) + 1 := by omega
        by_cases h13 : s[r] = 13
        · have q2 : ((s[r].toNat : Int) == 13) = true := by rw [h13]; rfl
          have HR : Hid (backL s.data.toList f (r + 1 + 1) = r) := Lib.hid (back_crlf _ f r (by omega) HQL.out.1 (by rw [HBQ.out]; exact h10) (by rw [HBR.out]; exact h13))
          rw [HR.out]
          clear h10 HBQ HBR h13
          go_enter Tryz.func89, Tryz.ntmps89
          go_wp2_with fail
          go_ret
          exact ⟨ret_int (by omega), rfl⟩
        · have n2 : s[r].toNat ≠ 13 := fun e => h13 (UInt8.toNat_inj.1 e)
          have q2 : ((s[r].toNat : Int) == 13) = false := by rw [beq_eq_false_iff_ne]; omega
          have HR : Hid (backL s.data.toList f (r + 1 + 1) = r + 1) := Lib.hid (back_lf1 _ f r (by omega) HQL.out.1 (by rw [HBQ.out]; exact h10) (by rw [HBR.out]; exact h13))
          rw [HR.out]
          clear h10 HBQ HBR h13 n2
          go_enter Tryz.func89, Tryz.ntmps89
          go_wp2_with fail
          go_ret
          exact ⟨ret_int (by omega), rfl⟩
    · have n1 : s[q].toNat ≠ 10 := fun e => h10 (UInt8.toNat_inj.1 e)
      have q1 : ((s[q].toNat : Int) == 10) = false := by rw [beq_eq_false_iff_ne]; omega
      have HR : Hid (backL s.data.toList f (q + 1) = q + 1) := Lib.hid (back_no _ f q (by omega) HQL.out.1 (by rw [HBQ.out]; exact h10))
      rw [HR.out]
      clear h10 HBQ n1
      go_enter Tryz.func89, Tryz.ntmps89
      go_wp2_with fail
      go_ret
      exact ⟨ret_int (by omega), rfl⟩

theorem cutL_no {d : UInt8} : ∀ {l a r : List UInt8} (_ : cutL d l = some (a, r)), ∀ x ∈ a, x ≠ d
  | [], _, _, h, _, _ => by cases h
  | c :: l, a, r, h, x, hx => by
    rw [cutL] at h
    split at h
    · injection h with h
      injection h with h1 h2
      subst h1
      cases hx
    · rename_i hc
      cases hq : cutL d l with
      | none => rw [hq] at h; cases h
      | some y =>
        obtain ⟨a', r'⟩ := y
        rw [hq] at h
        injection h with h
        injection h with h1 h2
        subst h1
        rcases List.mem_cons.1 hx with rfl | hx
        · exact hc
        · exact cutL_no hq x hx
/-! ### typed -/
theorem rtyped_none {w : List UInt8} (h : ∀ x ∈ w, x ≠ 47) : typedL w = false := by unfold typedL; rw [cutL_none h]
theorem rtyped_some {a r : List UInt8} (h : ∀ x ∈ a, x ≠ 47) : typedL (a ++ 47 :: r) = (!a.isEmpty && !r.isEmpty && (cutL 47 r).isNone) := by unfold typedL; rw [cutL_some r h]
theorem cut_no {r : List UInt8} : ∀ (_ : cutL 47 r = none), ∀ x ∈ r, x ≠ 47 := by
  induction r with
  | nil => intro _ x hx; cases hx
  | cons c r ih =>
    intro h x hx
    rw [cutL] at h
    split at h
    · cases h
    · rename_i hc
      cases hq : cutL 47 r with
      | some y => rw [hq] at h; cases h
      | none =>
        rcases List.mem_cons.1 hx with rfl | hx'
        · exact hc
        · exact ih hq x hx'
theorem cut_isNone (r : List UInt8) : (cutL 47 r).isNone = true ↔ ∀ x ∈ r, x ≠ 47 := by
  constructor
  · intro h
    cases hq : cutL 47 r with
    | none => exact cut_no hq
    | some y => rw [hq] at h; cases h
  · intro h
    rw [cutL_none h]
    rfl
/-- Where a byte stands behind a beginning. -/
theorem idx_behind (a r : List UInt8) : (Rx.idxFrom (a ++ 47 :: r) [47] ((a ++ 47 :: r).length + 1) (a.length + 1) < 0 ∧ (cutL 47 r).isNone = true) ∨ (¬ Rx.idxFrom (a ++ 47 :: r) [47] ((a ++ 47 :: r).length + 1) (a.length + 1) < 0 ∧ (cutL 47 r).isNone = false) := by
  cases hq : cutL 47 r with
  | none =>
    refine Or.inl ⟨?_, rfl⟩
    have hn := cut_no hq
    rw [Rx.one_none _ _ _ _ (fun k hk hle => ?_)]
    · decide
    · obtain ⟨d, rfl⟩ : ∃ d, k = a.length + 1 + d := ⟨k - (a.length + 1), by omega⟩
      have hk' : d < r.length := by rw [List.length_append, List.length_cons] at hk; omega
      have : (a ++ 47 :: r)[a.length + 1 + d] = r[d] := by
        rw [List.getElem_append_right (by omega)]
        simp [show a.length + 1 + d - a.length = d + 1 by omega]
      rw [this]
      exact hn _ (List.getElem_mem hk')
  | some y =>
    obtain ⟨b, c⟩ := y
    refine Or.inr ⟨?_, rfl⟩
    have hr := cut_len hq
    have hb : ∀ x ∈ b, x ≠ 47 := cutL_no hq
    subst hr
    have hlen : (a ++ 47 :: (b ++ 47 :: c)).length = a.length + b.length + c.length + 2 := by simp; omega
    rw [Rx.one_some _ 47 (a.length + 1 + b.length) (by omega) (by
      rw [List.getElem_append_right (by omega)]
      simp [show a.length + 1 + b.length - a.length = b.length + 1 by omega]) _ _ (by omega) (fun k hk hle hlt => by
      obtain ⟨d, rfl⟩ : ∃ d, k = a.length + 1 + d := ⟨k - (a.length + 1), by omega⟩
      have hd : d < b.length := by omega
      have : (a ++ 47 :: (b ++ 47 :: c))[a.length + 1 + d] = b[d] := by
        rw [List.getElem_append_right (by omega)]
        simp [show a.length + 1 + d - a.length = d + 1 by omega, List.getElem_append_left hd]
      rw [this]
      exact hb _ (List.getElem_mem hd)) (by omega)]
    omega

set_option maxHeartbeats 2000000 in
set_option maxRecDepth 100000 in
theorem rtyped_any (s : ByteArray) (w : World) (hs : s.size ≤ 1073741824) :
    Calls Tryz.prog 86 #[.string s] w fun e w' => e = .returned (.bool (typedL s.data.toList)) ∧ w = w' := by
  have HSL := Lib.hid (Lib.size_eq s)
  go_enter Tryz.func86, Tryz.ntmps86
  go_wp2_with fail
  refine (Rx.index_one s 47 w (by omega)).mono ?_
  rintro e w1 ⟨rfl, ⟨rfl, hno⟩ | ⟨a, r, hl, ha, rfl⟩⟩
  · have HR : Hid (typedL s.data.toList = false) := Lib.hid (rtyped_none hno)
    clear hno
    go_wp2_with fail
    go_ret
    rw [HR.out]
    exact ⟨rfl, rfl⟩
  · have HR : Hid (typedL s.data.toList = (!a.isEmpty && !r.isEmpty && (cutL 47 r).isNone)) := Lib.hid (by rw [hl]; exact rtyped_some ha)
    have HSZ : Hid (s.size = a.length + 1 + r.length) := Lib.hid (by rw [HSL.out, hl, List.length_append, List.length_cons]; omega)
    have HIX := Lib.hid (idx_behind a r)
    have HLL := Lib.hid hl
    have gsz : (s.size : Int) = (a.length : Int) + 1 + (r.length : Int) := by have := HSZ.out; omega
    have HGS := Lib.hid gsz
    clear hl ha gsz
    cases a with
    | nil =>
      go_wp2_with fail
      go_ret
      rw [HR.out]
      exact ⟨rfl, rfl⟩
    | cons c a =>
      obtain ⟨A, hA⟩ : ∃ A, (c :: a).length = A := ⟨_, rfl⟩
      rw [hA]
      rw [hA] at HGS HSZ HIX
      have hA1 : (0 : Int) < (A : Int) := by rw [← hA, List.length_cons]; omega
      have hAs : A ≤ 1073741824 := by have := HSZ.out; omega
      clear hA
      by_cases hr : r = []
      · subst hr
        have g2 : ¬ (A : Int) < (s.size : Int) - 1 := by have := HGS.out; simp only [List.length_nil] at this; omega
        go_wp2_with fail
        go_ret
        rw [HR.out]
        simp
      · have hrl : 0 < r.length := List.length_pos_iff.2 hr
        have g2 : (A : Int) < (s.size : Int) - 1 := by have := HGS.out; omega
        have HRE : Hid (r.isEmpty = false) := Lib.hid (by cases r with | nil => exact absurd rfl hr | cons _ _ => rfl)
        clear hr hrl
        go_wp2_with fail
        refine (Rx.index_any s ⟨#[47]⟩ (A + 1) w (by omega) (by show 1 ≤ _; omega) (by omega)).mono ?_
        rintro e w1 ⟨rfl, rfl⟩
        have HJ := HIX.out
        rw [← HLL.out, ← Lib.size_eq] at HJ
        rw [show (ByteArray.mk #[47]).data.toList = [47] from rfl]
        obtain ⟨J, hJ⟩ : ∃ J, Rx.idxFrom s.data.toList [47] (s.size + 1) (A + 1) = J := ⟨_, rfl⟩
        rw [hJ] at HJ ⊢
        rcases HJ with ⟨g3, hn⟩ | ⟨g3, hn⟩
        · have HN := Lib.hid hn
          clear hn hJ
          go_wp2_with fail
          go_ret
          rw [HR.out, HRE.out, HN.out]
          exact ⟨rfl, rfl⟩
        · have HN := Lib.hid hn
          clear hn hJ
          go_wp2_with fail
          go_ret
          rw [HR.out, HRE.out, HN.out]
          simp
          exact g3
end Go.Proofs.YtnnbbjdidbggmaaGreatDoor.Pt
namespace Go.Proofs.YtnnbbjdidbggmaaGreatDoor.Pt
open Go F0

theorem ltr_blanks {b : List UInt8} (hb : ∀ x ∈ b, blk x = true) (a : List UInt8) : ltr (b ++ a) = ltr a := by
  induction b with
  | nil => rfl
  | cons x b ih => rw [List.cons_append, ltr_yes (hb x (by simp)), ih (fun y hy => hb y (by simp [hy]))]
theorem small_blanks {b : List UInt8} (hb : ∀ x ∈ b, blk x = true) (a : List UInt8) : smallL (b ++ a) = smallL a := by
  unfold smallL
  rw [← trim_eq, ltr_blanks hb, trim_eq]
theorem ltrL_eq (l : List UInt8) : ltrL l = ltr l := rfl
theorem blk_noEq {x : UInt8} (h : blk x = true) : isEq x = false := by
  rw [blk_eq, Bool.or_eq_true, beq_iff_eq, beq_iff_eq] at h
  rcases h with rfl | rfl <;> rfl
/-- Blanks that are gone by: from i0 to i. -/
def BlkTo (D : List UInt8) (i0 i : Nat) : Prop := i0 ≤ i ∧ i ≤ D.length ∧ ∃ b, D.drop i0 = b ++ D.drop i ∧ ∀ x ∈ b, blk x = true
theorem BlkTo.start (D : List UInt8) (i : Nat) (h : i ≤ D.length) : BlkTo D i i := ⟨Nat.le_refl _, h, [], rfl, by simp⟩
theorem BlkTo.step {D : List UInt8} {i0 i : Nat} (h : BlkTo D i0 i) (hi : i < D.length) (hb : blk D[i] = true) : BlkTo D i0 (i + 1) := by
  obtain ⟨h1, h2, b, h3, h4⟩ := h
  refine ⟨by omega, hi, b ++ [D[i]], ?_, ?_⟩
  · rw [h3, List.drop_eq_getElem_cons hi]; simp
  · intro x hx
    rcases List.mem_append.1 hx with hx | hx
    · exact h4 x hx
    · rw [List.mem_singleton] at hx; rw [hx]; exact hb
/-- Where no blank stands. -/
def NoBlk (D : List UInt8) (i : Nat) : Prop := ∀ h : i < D.length, blk D[i] = false
theorem BlkTo.ltr_ {D : List UInt8} {i0 i : Nat} (h : BlkTo D i0 i) (hn : NoBlk D i) : ltrL (D.drop i0) = D.drop i := by
  obtain ⟨h1, h2, b, h3, h4⟩ := h
  rw [ltrL_eq, h3, ltr_blanks h4]
  by_cases hi : i < D.length
  · rw [List.drop_eq_getElem_cons hi, ltr_no (hn hi)]
  · rw [List.drop_of_length_le (by omega)]; rfl
theorem mem_eqs {c : UInt8} : c ∈ ([61, 59] : List UInt8) ↔ isEq c = true := by
  unfold isEq
  rw [Bool.or_eq_true, beq_iff_eq, beq_iff_eq]
  simp
theorem noeqs {a : List UInt8} (h : ∀ x ∈ a, x ∉ ([61, 59] : List UInt8)) : ∀ x ∈ a, isEq x = false := fun x hx => by
  cases hq : isEq x
  · rfl
  · exact absurd (mem_eqs.2 hq) (h x hx)
theorem nosemi {a : List UInt8} (h : ∀ x ∈ a, x ∉ ([59] : List UInt8)) : ∀ x ∈ a, x ≠ 59 := fun x hx e => h x hx (by rw [e]; simp)
/-- What stands behind a place, if a semicolon is there. -/
def restO (D : List UInt8) (k : Nat) : Option (List UInt8) := if k < D.length then some (D.drop (k + 1)) else none
/-- The name up to a sign of equality, a semicolon, or the end. -/
structure NameTo (D : List UInt8) (k e : Nat) (nm : List UInt8) : Prop where
  lt : k < e
  le : e ≤ D.length
  pre : ∃ a, (∀ x ∈ a, isEq x = false) ∧ D.drop (k + 1) = a ++ D.drop e ∧ nm = smallL a
theorem NameTo.mk' {D : List UInt8} {k i e : Nat} {a : List UInt8} (hb : BlkTo D (k + 1) i) (hu : UntL D [61, 59] i e a) : NameTo D k e (smallL a) := by
  obtain ⟨h1, h2, b, h3, h4⟩ := hb
  have hge := hu.ge
  refine ⟨by omega, hu.le, b ++ a, ?_, ?_, (small_blanks h4 a).symm⟩
  · intro x hx
    rcases List.mem_append.1 hx with hx | hx
    · exact blk_noEq (h4 x hx)
    · exact noeqs hu.no x hx
  · rw [h3, hu.eq, List.append_assoc]
/-- A parameter that is read, and the place behind it. -/
def Nx (D : List UInt8) (k k' : Nat) (nm vl : List UInt8) : Prop := k < k' ∧ k' ≤ D.length ∧ (∀ h : k' < D.length, D[k'] = 59) ∧ nextL (D.drop (k + 1)) = ((nm, vl), restO D k')
theorem rest_end (D : List UInt8) : restO D D.length = none := by unfold restO; rw [if_neg (by omega)]
theorem rest_at {D : List UInt8} {k : Nat} (h : k < D.length) : restO D k = some (D.drop (k + 1)) := by unfold restO; rw [if_pos h]
theorem nx_end {D : List UInt8} {k e : Nat} {nm : List UInt8} (h : NameTo D k e nm) (he : e = D.length) : Nx D k e nm [] := by
  obtain ⟨h1, h2, a, h3, h4, rfl⟩ := h
  subst he
  refine ⟨h1, Nat.le_refl _, fun h => by omega, ?_⟩
  rw [List.drop_length, List.append_nil] at h4
  rw [h4, next_none h3, rest_end]
theorem nx_semi {D : List UInt8} {k e : Nat} {nm : List UInt8} (h : NameTo D k e nm) (he : e < D.length) (hc : D[e] = 59) : Nx D k e nm [] := by
  obtain ⟨h1, h2, a, h3, h4, rfl⟩ := h
  refine ⟨h1, h2, fun _ => hc, ?_⟩
  rw [List.drop_eq_getElem_cons he, hc] at h4
  rw [h4, next_semi _ h3, rest_at he]
theorem nx_empty {D : List UInt8} {k e i : Nat} {nm : List UInt8} (h : NameTo D k e nm) (he : e < D.length) (hc : D[e] = 61) (hb : BlkTo D (e + 1) i) (hi : i = D.length) : Nx D k D.length nm [] := by
  obtain ⟨h1, h2, a, h3, h4, rfl⟩ := h
  refine ⟨by omega, Nat.le_refl _, fun h => by omega, ?_⟩
  rw [List.drop_eq_getElem_cons he, hc] at h4
  have hl := hb.ltr_ (fun h => by omega)
  rw [hi, List.drop_length] at hl
  rw [h4, next_empty h3 hl, rest_end]
theorem nx_value {D : List UInt8} {k e i k' : Nat} {nm v : List UInt8} (h : NameTo D k e nm) (he : e < D.length) (hc : D[e] = 61) (hb : BlkTo D (e + 1) i) (hn : NoBlk D i) (hi : i < D.length) (hq : D[i] ≠ 34) (hu : UntL D [59] i k' v) : Nx D k k' nm (trimL v) := by
  obtain ⟨h1, h2, a, h3, h4, rfl⟩ := h
  have hge := hu.ge
  have hb1 := hb.1
  rw [List.drop_eq_getElem_cons he, hc] at h4
  have hl := hb.ltr_ hn
  have hs := nosemi hu.no
  rw [List.drop_eq_getElem_cons hi] at hl
  refine ⟨by omega, hu.le, fun h => by have := hu.at_ h; simpa using this, ?_⟩
  by_cases hk : k' = D.length
  · have hv := hu.end_ hk
    rw [List.drop_eq_getElem_cons hi] at hv
    have hs2 := hs
    rw [← hv] at hs2 ⊢
    rw [h4, next_last h3 hl hq hs2, hk, rest_end]
  · have hk2 : k' < D.length := by have := hu.le; omega
    have hv := hu.cons hk2
    have h59 : D[k'] = 59 := by have := hu.at_ hk2; simpa using this
    rw [List.drop_eq_getElem_cons hi, h59] at hv
    rw [h4, next_value h3 hl hq hv hs, rest_at hk2]
/-- What the quoted text tells up to a place. -/
def UnqTo (D : List UInt8) (i0 i : Nat) (v : List UInt8) : Prop := i0 ≤ i ∧ i ≤ D.length ∧ unqL (D.drop i0) = (v ++ (unqL (D.drop i)).1, (unqL (D.drop i)).2)
theorem UnqTo.start (D : List UInt8) (i : Nat) (h : i ≤ D.length) : UnqTo D i i [] := ⟨Nat.le_refl _, h, rfl⟩
theorem UnqTo.byte {D : List UInt8} {i0 i : Nat} {v : List UInt8} (h : UnqTo D i0 i v) (hi : i < D.length) (h1 : D[i] ≠ 34) (h2 : D[i] ≠ 92 ∨ i + 1 = D.length) : UnqTo D i0 (i + 1) (v ++ [D[i]]) := by
  obtain ⟨q1, q2, q3⟩ := h
  refine ⟨by omega, hi, ?_⟩
  rw [q3]
  have hd := List.drop_eq_getElem_cons hi
  rcases h2 with h2 | h2
  · rw [hd, unq_byte h1 h2]; simp
  · rw [hd, h2, List.drop_length, unq_one h1]; simp [unqL]
theorem UnqTo.esc {D : List UInt8} {i0 i : Nat} {v : List UInt8} (h : UnqTo D i0 i v) (hi : i + 1 < D.length) (h2 : D[i]'(by omega) = 92) : UnqTo D i0 (i + 2) (v ++ [D[i + 1]]) := by
  obtain ⟨q1, q2, q3⟩ := h
  refine ⟨by omega, hi, ?_⟩
  rw [q3]
  have hd := List.drop_eq_getElem_cons (show i < D.length by omega)
  rw [hd, h2, List.drop_eq_getElem_cons hi, unq_esc]
  simp
/-- The end of a quoted text: its mark, or the end of all. -/
theorem UnqTo.done {D : List UInt8} {i0 i : Nat} {v : List UInt8} (h : UnqTo D i0 i v) (he : ∀ hi : i < D.length, D[i] = 34) : unqL (D.drop i0) = (v, D.drop (min (i + 1) D.length)) := by
  obtain ⟨q1, q2, q3⟩ := h
  rw [q3]
  by_cases hi : i < D.length
  · rw [List.drop_eq_getElem_cons hi, he hi, unq_quote, Nat.min_eq_left hi]; simp
  · rw [Nat.min_eq_right (by omega), List.drop_length, List.drop_of_length_le (by omega)]; simp [unqL]
theorem nx_quote {D : List UInt8} {k e i i3 k' : Nat} {nm v a2 : List UInt8} (h : NameTo D k e nm) (he : e < D.length) (hc : D[e] = 61) (hb : BlkTo D (e + 1) i) (hi : i < D.length) (hq : D[i] = 34)
    (hv : UnqTo D (i + 1) i3 v) (hd : ∀ h : i3 < D.length, D[i3] = 34) (hu : UntL D [59] (min (i3 + 1) D.length) k' a2) : Nx D k k' nm v := by
  obtain ⟨h1, h2, a, h3, h4, rfl⟩ := h
  have hge := hu.ge
  have hb1 := hb.1
  have hv1 := hv.1
  rw [List.drop_eq_getElem_cons he, hc] at h4
  have hl := hb.ltr_ (fun _ => by rw [hq]; decide)
  rw [List.drop_eq_getElem_cons hi, hq] at hl
  have hw := hv.done hd
  refine ⟨by omega, hu.le, fun h => by have := hu.at_ h; simpa using this, ?_⟩
  rw [h4, next_quote h3 hl, hw]
  by_cases hk : k' = D.length
  · have hx := hu.end_ hk
    simp only
    rw [hx, cutL_none (nosemi hu.no), hk, rest_end]
    rfl
  · have hk2 : k' < D.length := by have := hu.le; omega
    have hx := hu.cons hk2
    have h59 : D[k'] = 59 := by have := hu.at_ hk2; simpa using this
    rw [h59] at hx
    simp only
    rw [hx, cutL_some _ (nosemi hu.no), rest_at hk2]
    rfl
/-- The parameters from a place on. -/
def parO (D : List UInt8) (k : Nat) : List Fl := match restO D k with
  | none => []
  | some r => paramsL r
theorem par_end (D : List UInt8) : parO D D.length = [] := by unfold parO; rw [rest_end]
theorem par_step {D : List UInt8} {k k' : Nat} {nm vl : List UInt8} (hk : k < D.length) (h : Nx D k k' nm vl) : parO D k = keepL (nm, vl) ++ parO D k' := by
  obtain ⟨h1, h2, h3, h4⟩ := h
  unfold parO
  rw [rest_at hk]
  show paramsL (D.drop (k + 1)) = _
  cases hr : restO D k' with
  | none => rw [hr] at h4; rw [params_last h4]; simp
  | some r => rw [hr] at h4; rw [params_next h4]
theorem values_par {D a : List UInt8} {k : Nat} (hu : UntL D [59] 0 k a) : valuesL D = (smallL a, parO D k) := by
  by_cases hk : k = D.length
  · have := hu.end_ hk
    rw [List.drop_zero] at this
    rw [hk, par_end, this, values_none (nosemi hu.no)]
  · have hk2 : k < D.length := by have := hu.le; omega
    have h59 : D[k] = 59 := by have := hu.at_ hk2; simpa using this
    have hx := hu.cons hk2
    rw [List.drop_zero, h59] at hx
    unfold parO
    rw [rest_at hk2]
    conv => lhs; rw [hx]
    rw [values_some _ (nosemi hu.no)]
end Go.Proofs.YtnnbbjdidbggmaaGreatDoor.Pt
namespace Go.Proofs.YtnnbbjdidbggmaaGreatDoor.Rf
open Go Go.RowKit Go.Joins Kit Tx

def fold (s : ByteArray) : ByteArray := ⟨(foldL s.data.toList).toArray⟩
def foldTo (l : List UInt8) (k : Nat) : List UInt8 := foldL (l.take k) ++ l.drop k
theorem foldTo_length (l : List UInt8) (k : Nat) : (foldTo l k).length = l.length := by
  unfold foldTo
  rw [List.length_append, foldL_length, ← List.length_append, List.take_append_drop]
theorem foldTo_at (l : List UInt8) (k : Nat) (h : k < l.length) : (foldTo l k)[k]'(by rw [foldTo_length]; exact h) = l[k] := by
  unfold foldTo
  have hk : (foldL (l.take k)).length = k := by rw [foldL_length, List.length_take]; omega
  rw [List.getElem_append_right (by omega)]
  simp [hk]
theorem set_mid (l : List UInt8) (a b : UInt8) (r : List UInt8) : (l ++ b :: r).set l.length a = l ++ a :: r := by
  induction l with
  | nil => rfl
  | cons x l ih => simp [ih]
theorem foldTo_set (l : List UInt8) (k : Nat) (h : k < l.length) : (foldTo l k).set k (foldB l[k]) = foldTo l (k + 1) := by
  unfold foldTo
  have hk : (foldL (l.take k)).length = k := by rw [foldL_length, List.length_take]; omega
  rw [List.drop_eq_getElem_cons h]
  have := set_mid (foldL (l.take k)) (foldB l[k]) l[k] (l.drop (k + 1))
  rw [hk] at this
  rw [this, foldL_take_succ l k h, List.append_assoc]
  rfl
theorem foldTo_keep (l : List UInt8) (k : Nat) (h : k < l.length) (hn : ¬ (65 ≤ l[k].toNat ∧ l[k].toNat ≤ 90)) : foldTo l k = foldTo l (k + 1) := by
  unfold foldTo
  rw [foldL_take_succ l k h, foldB_low hn, List.append_assoc, List.drop_eq_getElem_cons h]
  rfl

set_option maxHeartbeats 1000000 in
set_option maxRecDepth 100000 in
theorem fold_call (s : ByteArray) (w : World) (hs : s.size ≤ 140737488355328) :
    Calls Tryz.prog 87 #[.string s] w fun e w' => e = .returned (.string (fold s)) ∧ Below w.heap.size w w' := by
  have hconv := run_bytes_of_string (P := Tryz.prog) w 9 32 5 s Tryz.underlying9 Tryz.underlying32 Tryz.underlying5
  have hrow := rowB_made w s (grownCap w s.size 0 5)
  generalize grownCap w s.size 0 5 = cap at hconv hrow
  generalize hC : bytesRow s cap = C at hconv hrow
  have HC := Lib.hid hC
  clear hC
  go_enter Tryz.func87, Tryz.ntmps87
  go_wp2_with fail
  clear hconv
  go_loopw [4] (fun i wr => ∃ k : Nat, k ≤ s.size ∧ i = .int .i64 k ∧ RowB wr w.heap.size (foldTo s.data.toList k) ∧ Below w.heap.size w wr) (fun i _ => s.size - (intOf i).toNat)
  case atStart => exact ⟨0, by omega, rfl, hrow, ((Below.refl _ w).alloc (Nat.le_refl _) _).drew⟩
  case round =>
    clear hrow
    obtain ⟨k, hk, rfl, hrow, hb⟩ := hrel
    by_cases hlt : k < s.size
    · have hl : k < s.data.toList.length := by rw [← Lib.size_eq]; exact hlt
      have hlk : k < (foldTo s.data.toList k).length := by rw [foldTo_length]; exact hl
      have hcell := hrow.cell k hlk
      rw [foldTo_at _ _ hl, Kit.byte_get s k hlt] at hcell
      have hfz := hrow.free k hlk
      have hki : (k : Int) < s.size := by omega
      by_cases h1 : 65 ≤ s[k].toNat ∧ s[k].toNat ≤ 90
      · have hset := hrow.set k (foldB s[k])
        have hfs := foldTo_set _ k hl
        rw [Kit.byte_get s k hlt] at hfs
        rw [hfs, foldB_up h1.1 h1.2] at hset
        have hb2 := hb.setCell (p := ⟨w.heap.size, k, none⟩) (Nat.le_refl _) (.int .u8 ((s[k].toNat + 32 : Nat) : Int))
        have HSET := Lib.hid hset
        have HFS := Lib.hid hfs
        have g1 : (65 : Int) ≤ s[k].toNat := by omega
        have g2 : (s[k].toNat : Int) ≤ 90 := by omega
        clear hset hfs h1
        go_wp2
        go_roundw
        case rel => exact ⟨k + 1, by omega, by go_num, HSET.out, hb2⟩
        case measure => simp [intOf]; omega
      · have hfs := foldTo_keep _ k hl (by rw [Kit.byte_get s k hlt]; exact h1)
        rw [hfs] at hrow
        have HFS := Lib.hid hfs
        clear hfs
        rcases (show (s[k].toNat : Int) < 65 ∨ ((65 : Int) ≤ s[k].toNat ∧ (90 : Int) < s[k].toNat) by omega) with g1 | ⟨g1, g2⟩
        all_goals
          clear h1
          go_wp2
          go_roundw
          case rel => exact ⟨k + 1, by omega, by go_num, hrow, hb⟩
          case measure => simp [intOf]; omega
    · have he : k = s.size := by omega
      subst he
      have hfull : foldTo s.data.toList s.size = foldL s.data.toList := by
        unfold foldTo
        rw [List.take_of_length_le (by rw [← Lib.size_eq]; exact Nat.le_refl _), List.drop_of_length_le (by rw [← Lib.size_eq]; exact Nat.le_refl _), List.append_nil]
      rw [hfull] at hrow
      have hrun := hrow.string cap
      rw [foldL_length, ← Lib.size_eq] at hrun
      clear hrow
      go_wp2
      go_ret
      exact ⟨rfl, hb⟩
end Go.Proofs.YtnnbbjdidbggmaaGreatDoor.Rf
namespace Go.Proofs.YtnnbbjdidbggmaaGreatDoor
open Go Go.RowKit Go.Joins

namespace Buf
theorem drewB {W0 w : World} {v : Value} {l : List UInt8} (h : Buf W0 v l w) : Buf W0 v l w.drew := ⟨h.own, h.below.drew⟩
theorem form {W0 w : World} {v : Value} {l : List UInt8} (h : Buf W0 v l w) : ∃ ao cap, v = .slice ao l.length cap := by
  rcases h.own.2 with ⟨rfl, h0⟩ | ⟨g, cap, cur, rfl, _⟩
  · exact ⟨none, 0, by rw [h0]⟩
  · exact ⟨_, _, rfl⟩
theorem allocB {W0 w : World} {v : Value} {l : List UInt8} (h : Buf W0 v l w) (o : Obj) : Buf W0 v l (w.alloc o) := ⟨h.own.alloc o, h.below.alloc h.below.size o⟩
theorem lt_of {W0 w : World} {v : Value} {l : List UInt8} (h : Buf W0 v l w) {g : Nat} (hg : v.ownBlock = some g) : g < w.heap.size := by
  rcases h.own.2 with ⟨rfl, _⟩ | ⟨g', cap, cur, rfl, _, hh, _⟩
  · cases hg
  · simp only [Value.ownBlock, Option.some.injEq] at hg
    subst hg
    rcases Nat.lt_or_ge g' w.heap.size with h' | h'
    · exact h'
    · simp [Array.getElem?_eq_none h'] at hh
/-- What grows beside it leaves it as it was. -/
theorem beside {W0 w w' : World} {v : Value} {l : List UInt8} {row : Option Nat} (h : Buf W0 v l w) (hg : w.grownBy w' row) (hb : Below W0.heap.size W0 w') (hne : ∀ g, v.ownBlock = some g → row ≠ some g) : Buf W0 v l w' := by
  refine ⟨?_, hb⟩
  obtain ⟨h1, h2⟩ := h.own
  refine ⟨h1, ?_⟩
  rcases h2 with h2 | ⟨g, cap, cur, hv, hg2, hh, r⟩
  · exact Or.inl h2
  · have hlt : g < w.heap.size := h.lt_of (by rw [hv]; rfl)
    exact Or.inr ⟨g, cap, cur, hv, hg2, by rw [hg.block g hlt (fun e => hne g (by rw [hv]; rfl) e.symm)]; exact hh, r⟩
/-- append, as a step of a region that draws. -/
theorem step {ops : Array Oper} {o : Oper} {a : Act} {K : Act → World → Prop} {Q : Exit → Act → World → Prop} {E : Prop} (hgd : o.guard = none) (s x : Operand)
    (ho : o.op = .call { callee := .builtin .append, args := #[s, x], argTypes := #[32, 32] })
    (W0 w : World) (v : Value) (l : List UInt8) (hB : Buf W0 v l w) (ns : List UInt8) (m cap b : Nat) (cs : Array Value) (fr : Nat × Nat) (hm : ns.length = m) (hm0 : 0 < m) (hcs : cs.toList = Lib.byteCells ns) (hblk : w.heap[b]? = some (.cells cs 5 fr))
    (hs : a.eval s = v) (hx : a.eval x = .slice (some ⟨b, 0, none⟩) m cap) (hlen : l.length + m ≤ 140737488355328)
    (h : ∀ g c w', Buf W0 (.slice (some ⟨g, 0, none⟩) (l.length + m) c) (l ++ ns) w' → w.grownBy w' v.ownBlock → (v.ownBlock = some g ∨ g = w.heap.size) → Below W0.heap.size W0 w' → K (a.put o.dst (.slice (some ⟨g, 0, none⟩) (l.length + m) c)) w') :
    if Region.wanted o (yielded ops a.tmps) = true then Oper.wp Tryz.prog o a w K Q else E := by
  obtain ⟨i0, hi, hz0, hz1, hz2⟩ := info_parts Kit.info5
  subst hm
  refine step_append_lies w hgd s x 32 ho W0.heap.size 5 i0 (.int .u8 0) 1 1 Tryz.underlying32 hi hz0 hz1 hz2 rfl (by decide) v l.length _ hs hB.own ⟨b, 0, none⟩ ns.length cap (Lib.byteCells ns) hx ?_ ?_ ?_ hm0 ?_ ?_ hB.below.size w.heap.size rfl ?_
  · rw [Lib.byteCells_length, Nat.mul_one]
  · intro j u hj
    exact World.news_of_block hblk j u (by rw [hcs]; exact hj)
  · intro u hu
    unfold Lib.byteCells at hu
    obtain ⟨c, _, rfl⟩ := List.mem_map.1 hu
    rfl
  · unfold maxLen; omega
  · omega
  · intro g c w' ho' hg hat _
    have hb : Below W0.heap.size W0 w' := hB.below.grown hg hB.below.size (fun j hj => (hB.own.lt j hj).1)
    refine h g c w' ⟨?_, hb⟩ hg hat hb
    rw [List.length_append, Lib.byteCells_append]
    exact ho'
/-- append of what stands in a block, in a region that does not draw. -/
theorem app_at {ops : Array Oper} {rest : List Oper} {o : Oper} {a : Act} {Q : Exit → Act → World → Prop} (hgd : o.guard = none) (s x : Operand)
    (ho : o.op = .call { callee := .builtin .append, args := #[s, x], argTypes := #[32, 32] })
    (W0 w : World) (v : Value) (l : List UInt8) (hB : Buf W0 v l w) (ns : List UInt8) (m cap b : Nat) (cs : Array Value) (fr : Nat × Nat) (hm : ns.length = m) (hm0 : 0 < m) (hcs : cs.toList = Lib.byteCells ns) (hblk : w.heap[b]? = some (.cells cs 5 fr))
    (hs : a.eval s = v) (hx : a.eval x = .slice (some ⟨b, 0, none⟩) m cap) (hlen : l.length + m ≤ 140737488355328)
    (h : ∀ g c w', Buf W0 (.slice (some ⟨g, 0, none⟩) (l.length + m) c) (l ++ ns) w' → w.grownBy w' v.ownBlock → (v.ownBlock = some g ∨ g = w.heap.size) → wpList Tryz.prog ops Q rest (a.put o.dst (.slice (some ⟨g, 0, none⟩) (l.length + m) c)) w') : wpList Tryz.prog ops Q (o :: rest) a w := by
  obtain ⟨i0, hi, hz0, hz1, hz2⟩ := info_parts Kit.info5
  subst hm
  refine wpList_append_lies w hgd s x 32 ho W0.heap.size 5 i0 (.int .u8 0) 1 1 Tryz.underlying32 hi hz0 hz1 hz2 rfl (by decide) v l.length _ hs hB.own ⟨b, 0, none⟩ ns.length cap (Lib.byteCells ns) hx ?_ ?_ ?_ hm0 ?_ ?_ hB.below.size w.heap.size rfl ?_
  · rw [Lib.byteCells_length, Nat.mul_one]
  · intro j u hj
    exact World.news_of_block hblk j u (by rw [hcs]; exact hj)
  · intro u hu
    unfold Lib.byteCells at hu
    obtain ⟨c, _, rfl⟩ := List.mem_map.1 hu
    rfl
  · unfold maxLen; omega
  · omega
  · intro g c w' ho' hg hat _
    refine h g c w' ⟨?_, hB.below.grown hg hB.below.size (fun j hj => (hB.own.lt j hj).1)⟩ hg hat
    rw [List.length_append, Lib.byteCells_append]
    exact ho'
end Buf

/-- Two such slices, in blocks of their own. -/
structure Two (W0 : World) (va : Value) (la : List UInt8) (vb : Value) (lb : List UInt8) (w : World) : Prop where
  fst : Buf W0 va la w
  snd : Buf W0 vb lb w
  ne : ∀ g, va.ownBlock = some g → vb.ownBlock ≠ some g
namespace Two
variable {W0 w w' : World} {va vb : Value} {la lb : List UInt8}
theorem empty (hb : Below W0.heap.size W0 w) : Two W0 (.slice none 0 0) [] (.slice none 0 0) [] w := ⟨Buf.empty hb, Buf.empty hb, fun g h => by cases h⟩
theorem drew (h : Two W0 va la vb lb w) : Two W0 va la vb lb w.drew := ⟨h.fst.drewB, h.snd.drewB, h.ne⟩
theorem alloc (h : Two W0 va la vb lb w) (o : Obj) : Two W0 va la vb lb (w.alloc o) := ⟨h.fst.allocB o, h.snd.allocB o, h.ne⟩
theorem swap (h : Two W0 va la vb lb w) : Two W0 vb lb va la w := ⟨h.snd, h.fst, fun g hb ha => h.ne g ha hb⟩
theorem next (h : Two W0 va la vb lb w) (hb : Below w.heap.size w w') : Two W0 va la vb lb w' := ⟨h.fst.next hb, h.snd.next hb, h.ne⟩
theorem nils (h : Two W0 va la vb lb w) : Two W0 va la (.slice none 0 0) [] w := ⟨h.fst, Buf.empty h.fst.below, fun g _ hh => by cases hh⟩
/-- The first grows. -/
theorem grow {g n c : Nat} {l' : List UInt8} (h : Two W0 va la vb lb w) (hB : Buf W0 (.slice (some ⟨g, 0, none⟩) n c) l' w') (hg : w.grownBy w' va.ownBlock) (hat : va.ownBlock = some g ∨ g = w.heap.size) : Two W0 (.slice (some ⟨g, 0, none⟩) n c) l' vb lb w' := by
  refine ⟨hB, h.snd.beside hg hB.below (fun x hx e => h.ne x e hx), ?_⟩
  intro x hx hb
  have hxg : g = x := by simpa [Value.ownBlock] using hx
  subst hxg
  rcases hat with hat | hat
  · exact h.ne g hat hb
  · have := h.snd.lt_of hb
    omega
theorem growN {g n c m : Nat} {l' : List UInt8} (h : Two W0 va la vb lb w) (hB : Buf W0 (.slice (some ⟨g, 0, none⟩) n c) l' w') (hg : w.grownBy w' va.ownBlock) (hat : va.ownBlock = some g ∨ g = m) (hm : w.heap.size = m) : Two W0 (.slice (some ⟨g, 0, none⟩) n c) l' vb lb w' := h.grow hB hg (by rw [hm]; exact hat)
end Two
end Go.Proofs.YtnnbbjdidbggmaaGreatDoor
namespace Go.Proofs.YtnnbbjdidbggmaaGreatDoor.Pt
open Go Go.RowKit Go.Joins Kit F0

theorem rfold2 (l : List UInt8) (w : World) (hs : l.length ≤ 140737488351232) :
    Calls Tryz.prog 87 #[.string ⟨l.toArray⟩] w fun e w' => e = .returned (.string ⟨(Tx.foldL l).toArray⟩) ∧ Below w.heap.size w w' := Rf.fold_call ⟨l.toArray⟩ w (by rw [Lib.size_mk]; omega)
theorem ext_sp (s : ByteArray) (k t : Nat) : (s.extract k t).data.toList = (s.data.toList.take t).drop k := by rw [← Lib.toList_data, Lib.extract_toList, List.drop_take]

theorem fset1 {w : World} {G : Nat} {a b : Value} (d : Value) (h : w.heap[G]? = some (.cells #[a, b] 74 (0, 0))) : (w.setCell ⟨G, 1, none⟩ d).heap[G]? = some (.cells #[a, d] 74 (0, 0)) := by
  simp [World.setCell, Array.getElem?_modify, h]

set_option maxHeartbeats 4000000 in
set_option maxRecDepth 100000 in
theorem rvalues_any (s : ByteArray) (w : World) (hs : s.size ≤ 1073741824) :
    Calls Tryz.prog 85 #[.string s] w fun e w' => ∃ v, e = .returned (.tuple #[sV (valuesL s.data.toList).1, v]) ∧ RowF w.heap.size v (valuesL s.data.toList).2 w' ∧ Below w.heap.size w w' := by
  obtain ⟨VL, hVL⟩ : ∃ VL, valuesL s.data.toList = VL := ⟨_, rfl⟩
  rw [hVL]
  have HVL := Lib.hid hVL
  have HSL := Lib.hid (Lib.size_eq s)
  clear hVL
  go_enter Tryz.func85, Tryz.ntmps85
  go_wp2_with fail
  refine (until_any s [59] (Or.inl rfl) 0 (Nat.zero_le _) w (by omega)).mono ?_
  rintro e w1 ⟨rfl, k0, hk0, hk1, rfl, hno, hat⟩
  have HU := Lib.hid (UntL.mk' hk0 hk1 hno hat)
  have HVP := Lib.hid (values_par HU.out)
  have HX := Lib.hid (ext_sp s 0 k0)
  clear hno hat
  have hk1' : (k0 : Int) ≤ (s.size : Int) := by omega
  go_wp2_with fail
  refine (rtrim_any (s.extract 0 k0) w (by rw [ByteArray.size_extract]; omega)).mono ?_
  rintro e w1 ⟨rfl, rfl⟩
  rw [HX.out, List.drop_zero]
  have HTL : Hid ((trimL (s.data.toList.take k0)).length ≤ 1073741824) := Lib.hid (by
    have h1 := trimL_le (s.data.toList.take k0)
    rw [List.length_take, ← Lib.size_eq] at h1
    omega)
  unfold sV
  go_wp2_with fail
  refine (rfold2 (trimL (s.data.toList.take k0)) w (by have := HTL.out; omega)).mono ?_
  rintro e w1 ⟨rfl, hb1⟩
  have HW : Hid (VL = (smallL (s.data.toList.take k0), parO s.data.toList k0)) := Lib.hid (by rw [← HVL.out, HVP.out, List.drop_zero])
  have HSM : Hid (Tx.foldL (trimL (s.data.toList.take k0)) = VL.1) := Lib.hid (by rw [HW.out]; rfl)
  rw [HSM.out]
  obtain ⟨W1, hW1⟩ : ∃ W1 : ByteArray, (⟨VL.1.toArray⟩ : ByteArray) = W1 := ⟨_, rfl⟩
  rw [hW1]
  have HB1 := Lib.hid hb1
  have H0 : Hid (k0 < s.size → s.data.toList[k0]? = some 59) := Lib.hid (fun h => by
    have h2 : k0 < s.data.toList.length := by rw [← Lib.size_eq]; exact h
    have := HU.out.at_ h2
    rw [List.mem_singleton] at this
    rw [List.getElem?_eq_getElem h2, this])
  have HPA : Hid ([] ++ parO s.data.toList k0 = VL.2) := Lib.hid (by rw [HW.out]; rfl)
  have HW1 := Lib.hid hW1
  clear hW1 hb1
  go_wp2_with fail
  go_loopw [4, 6] (fun kv fv wr => ∃ (k : Nat) (fs : List Fl), kv = .int .i64 (k : Int) ∧ k ≤ s.size ∧ fs.length ≤ k ∧ Hid (k < s.size → s.data.toList[k]? = some 59) ∧ Hid (fs ++ parO s.data.toList k = VL.2) ∧ RowF w.heap.size fv fs wr ∧ Below w.heap.size w wr) (fun kv _ _ => s.size - (intOf kv).toNat)
  case atStart => exact ⟨k0, [], rfl, hk1, Nat.zero_le _, H0, HPA, RowF.new _ _, HB1.out⟩
  case round =>
    obtain ⟨k, fs, rfl, hk, hfl, hsemi, hpar, hrow, hb⟩ := hrel
    obtain ⟨va, vc, rfl⟩ := hrow.form
    have HR := Lib.hid (And.intro hrow hb)
    clear hrow hb
    by_cases hlt : k < s.size
    · have g1 : (k : Int) < (s.size : Int) := by omega
      go_upto_block 2 with fail
      go_cut [7] from 24 to 41 (fun j wx => ∃ i : Nat, j = .int .i64 (i : Int) ∧ i ≤ s.size ∧ Hid (BlkTo s.data.toList (k + 1) i) ∧ Hid (NoBlk s.data.toList i) ∧ wr = wx)
      case first =>
        go_wp2_with fail
        go_loop [7] (fun j => ∃ i : Nat, j = .int .i64 (i : Int) ∧ i ≤ s.size ∧ Hid (BlkTo s.data.toList (k + 1) i)) (fun j => s.size - (intOf j).toNat)
        case atStart => exact ⟨k + 1, by go_num, (show k + 1 ≤ s.size by omega), Lib.hid (BlkTo.start _ _ (by rw [← Lib.size_eq]; exact (show k + 1 ≤ s.size by omega)))⟩
        case round =>
          obtain ⟨i, rfl, hi, hbk⟩ := hrel
          by_cases hil : i < s.size
          · have g3 : (i : Int) < (s.size : Int) := by omega
            have HIL : Hid (i < s.data.toList.length ∧ True) := Lib.hid ⟨by rw [← Lib.size_eq]; exact hil, trivial⟩
            have HBG : Hid (s.data.toList[i]'(HIL.out.1) = s[i]) := Lib.hid (Kit.byte_get s i hil)
            cases hbc : blk s[i]
            · have HNB : Hid (NoBlk s.data.toList i) := Lib.hid (fun h => by rw [HBG.out]; exact hbc)
              rw [blk_eq] at hbc
              have n1 : s[i].toNat ≠ 32 := fun e => by rw [show s[i] = 32 from UInt8.toNat_inj.1 e] at hbc; cases hbc
              have n2 : s[i].toNat ≠ 9 := fun e => by rw [show s[i] = 9 from UInt8.toNat_inj.1 e] at hbc; cases hbc
              have q1 : ((s[i].toNat : Int) == 32) = false := by rw [beq_eq_false_iff_ne]; omega
              have q2 : ((s[i].toNat : Int) == 9) = false := by rw [beq_eq_false_iff_ne]; omega
              have q3 : ¬ (s[i].toNat : Int) = 32 := by omega
              clear hbc n1 n2
              go_wp2_with fail
              go_meet
              exact ⟨i, rfl, hi, hbk, HNB, rfl⟩
            · have HBK : Hid (BlkTo s.data.toList (k + 1) (i + 1)) := Lib.hid (hbk.out.step HIL.out.1 (by rw [HBG.out]; exact hbc))
              rw [blk_eq, Bool.or_eq_true, beq_iff_eq, beq_iff_eq] at hbc
              by_cases h32 : s[i] = 32
              · have q1 : ((s[i].toNat : Int) == 32) = true := by rw [h32]; rfl
                have q3 : (s[i].toNat : Int) = 32 := by rw [h32]; rfl
                clear hbc h32
                go_wp2_with fail
                go_round
                case rel => exact ⟨i + 1, by go_num, by omega, HBK⟩
                case measure => simp [intOf]; omega
              · have h9 : s[i] = 9 := by
                  rcases hbc with e | e
                  · exact absurd e h32
                  · exact e
                have n1 : s[i].toNat ≠ 32 := fun e => h32 (UInt8.toNat_inj.1 e)
                have q1 : ((s[i].toNat : Int) == 32) = false := by rw [beq_eq_false_iff_ne]; omega
                have q2 : ((s[i].toNat : Int) == 9) = true := by rw [h9]; rfl
                have q3 : ¬ (s[i].toNat : Int) = 32 := by omega
                clear h32 hbc n1 h9
                go_wp2_with fail
                go_round
                case rel => exact ⟨i + 1, by go_num, by omega, HBK⟩
                case measure => simp [intOf]; omega
          · have g3 : ¬ (i : Int) < (s.size : Int) := by omega
            have HNB : Hid (NoBlk s.data.toList i) := Lib.hid (fun h => by rw [← Lib.size_eq] at h; exact absurd h hil)
            go_wp2_with fail
            go_meet
            exact ⟨i, rfl, hi, hbk, HNB, rfl⟩
      case rest =>
        obtain ⟨i, rfl, hi, HBK, HNB, rfl⟩ := hcut
        have HIK : Hid (k + 1 ≤ i) := Lib.hid HBK.out.1
        go_wp2_with fail
        refine (until_any s [61, 59] (Or.inr (Or.inl rfl)) i hi wr (by omega)).mono ?_
        rintro e w2 ⟨rfl, e0, he0, he1, rfl, hno, hat⟩
        have HU := Lib.hid (UntL.mk' he0 he1 hno hat)
        have HX := Lib.hid (ext_sp s i e0)
        have HNM := Lib.hid (NameTo.mk' HBK.out HU.out)
        have HAT : Hid (∀ h : e0 < s.size, s[e0] = 61 ∨ s[e0] = 59) := Lib.hid (fun h => by have := hat h; simpa using this)
        clear hno hat
        have hie : (i : Int) ≤ (e0 : Int) := by omega
        have hes : (e0 : Int) ≤ (s.size : Int) := by omega
        obtain ⟨X, hX⟩ : ∃ X, s.extract i e0 = X := ⟨_, rfl⟩
        rw [hX] at HX
        have hXs : X.size ≤ 1073741824 := by rw [← hX, ByteArray.size_extract]; omega
        obtain ⟨A, hA⟩ : ∃ A, (s.data.toList.take e0).drop i = A := ⟨_, rfl⟩
        rw [hA] at HX HNM
        clear hA
        go_wp2_with fail
        refine (rtrim_any X wr (by omega)).mono ?_
        rintro e w2 ⟨rfl, rfl⟩
        rw [HX.out]
        have HTL : Hid ((trimL A).length ≤ 1073741824) := Lib.hid (by
          have h1 := trimL_le A
          rw [← HX.out, ← Lib.size_eq] at h1
          rw [← HX.out]
          omega)
        unfold sV
        go_wp2_with fail
        refine (rfold2 (trimL A) wr (by have := HTL.out; omega)).mono ?_
        rintro e w2 ⟨rfl, hb2⟩
        obtain ⟨nm, hnm⟩ : ∃ nm, Tx.foldL (trimL A) = nm := ⟨_, rfl⟩
        have HNM2 : Hid (NameTo s.data.toList k e0 nm) := Lib.hid (by rw [← hnm]; exact HNM.out)
        rw [hnm]
        clear hnm hX
        have HB2 := Lib.hid hb2
        clear hb2 HNM HTL
        have HBLK := Lib.hid (Kit.fresh_block w2 #[.string ⟨nm.toArray⟩, .string ⟨#[]⟩] 74)
        have HBA : Hid (Below w2.heap.size w2 (w2.alloc (.cells #[.string ⟨nm.toArray⟩, .string ⟨#[]⟩] 74))) := Lib.hid ((Below.refl _ w2).alloc (Nat.le_refl _) _)
        obtain ⟨W3, hW3⟩ : ∃ W3, w2.alloc (.cells #[.string ⟨nm.toArray⟩, .string ⟨#[]⟩] 74) = W3 := ⟨_, rfl⟩
        rw [hW3] at HBLK HBA
        have HW3 := Lib.hid hW3
        clear hW3
        go_upto_region 11 with fail
        rw [HW3.out]
        obtain ⟨G, hG⟩ : ∃ G, w2.heap.size = G := ⟨_, rfl⟩
        rw [hG] at HBLK HBA ⊢
        have HG := Lib.hid hG
        clear hG
        have hke : k < e0 := HNM2.out.lt
        go_cut [62] from 53 to 61 (fun tv wx => ∃ B : Bool, tv = .bool B ∧ Hid (B = true → ∃ h : e0 < s.size, s[e0] = 61) ∧ Hid (B = false → ∀ h : e0 < s.size, s[e0] = 59) ∧ W3 = wx)
        case first =>
          by_cases hel : e0 < s.size
          · have g2 : (e0 : Int) < (s.size : Int) := by omega
            rcases HAT.out hel with h61 | h59
            · have q1 : ((s[e0].toNat : Int) == 61) = true := by rw [h61]; rfl
              have q2 : (s[e0].toNat : Int) = 61 := by rw [h61]; rfl
              have HH := Lib.hid h61
              clear h61
              go_wp2_with fail
              go_meet
              exact ⟨true, rfl, Lib.hid (fun _ => ⟨hel, HH.out⟩), Lib.hid (fun h => by cases h), rfl⟩
            · have q1 : ((s[e0].toNat : Int) == 61) = false := by rw [h59]; rfl
              have q2 : ¬ (s[e0].toNat : Int) = 61 := by rw [h59]; decide
              have HH := Lib.hid h59
              clear h59
              go_wp2_with fail
              go_meet
              exact ⟨false, rfl, Lib.hid (fun h => by cases h), Lib.hid (fun _ _ => HH.out), rfl⟩
          · have g2 : ¬ (e0 : Int) < (s.size : Int) := by omega
            go_wp2_with fail
            go_meet
            exact ⟨false, rfl, Lib.hid (fun h => by cases h), Lib.hid (fun _ h => absurd h hel), rfl⟩
        case rest =>
        obtain ⟨B, rfl, HBT, HBF, rfl⟩ := hcut
        go_upto_if 62 with fail
        go_cut [4, 7, 10] from 63 to 144 (fun kv _ _ wx => ∃ (k2 : Nat) (vl : List UInt8), kv = .int .i64 (k2 : Int) ∧ k < k2 ∧ k2 ≤ s.size ∧ Hid (Nx s.data.toList k k2 nm vl) ∧ Hid (wx.heap[G]? = some (.cells #[.string ⟨nm.toArray⟩, .string ⟨vl.toArray⟩] 74 (0, 0))) ∧ Hid (Below G w2 wx))
        case first =>
          cases B
          · by_cases hel : e0 < s.size
            · have HEL : Hid (e0 < s.data.toList.length ∧ True) := Lib.hid ⟨by rw [← Lib.size_eq]; exact hel, trivial⟩
              have HE59 : Hid (s.data.toList[e0]'(HEL.out.1) = 59) := Lib.hid (by rw [Kit.byte_get s e0 hel]; exact HBF.out rfl hel)
              go_wp2_with fail
              go_meet
              exact ⟨e0, [], rfl, hke, he1, Lib.hid (nx_semi HNM2.out HEL.out.1 HE59.out), HBLK, HBA⟩
            · have HEE : Hid (e0 = s.data.toList.length) := Lib.hid (by rw [← Lib.size_eq]; omega)
              go_wp2_with fail
              go_meet
              exact ⟨e0, [], rfl, hke, he1, Lib.hid (nx_end HNM2.out HEE.out), HBLK, HBA⟩
          · obtain ⟨hel, h61⟩ := HBT.out rfl
            have g2 : (e0 : Int) < (s.size : Int) := by omega
            have HEL : Hid (e0 < s.data.toList.length ∧ True) := Lib.hid ⟨by rw [← Lib.size_eq]; exact hel, trivial⟩
            have HE61 : Hid (s.data.toList[e0]'(HEL.out.1) = 61) := Lib.hid (by rw [Kit.byte_get s e0 hel]; exact h61)
            clear h61
            go_upto_block 4 with fail
            go_cut [7] from 65 to 82 (fun j wx => ∃ i : Nat, j = .int .i64 (i : Int) ∧ i ≤ s.size ∧ Hid (BlkTo s.data.toList (e0 + 1) i) ∧ Hid (NoBlk s.data.toList i) ∧ W3 = wx)
            case first =>
              go_wp2_with fail
              go_loop [7] (fun j => ∃ i : Nat, j = .int .i64 (i : Int) ∧ i ≤ s.size ∧ Hid (BlkTo s.data.toList (e0 + 1) i)) (fun j => s.size - (intOf j).toNat)
              case atStart => exact ⟨e0 + 1, by go_num, (show e0 + 1 ≤ s.size by omega), Lib.hid (BlkTo.start _ _ (by rw [← Lib.size_eq]; exact (show e0 + 1 ≤ s.size by omega)))⟩
              case round =>
                obtain ⟨i, rfl, hi, hbk⟩ := hrel
                by_cases hil : i < s.size
                · have g3 : (i : Int) < (s.size : Int) := by omega
                  have HIL : Hid (i < s.data.toList.length ∧ True) := Lib.hid ⟨by rw [← Lib.size_eq]; exact hil, trivial⟩
                  have HBG : Hid (s.data.toList[i]'(HIL.out.1) = s[i]) := Lib.hid (Kit.byte_get s i hil)
                  cases hbc : blk s[i]
                  · have HNB : Hid (NoBlk s.data.toList i) := Lib.hid (fun h => by rw [HBG.out]; exact hbc)
                    rw [blk_eq] at hbc
                    have n1 : s[i].toNat ≠ 32 := fun e => by rw [show s[i] = 32 from UInt8.toNat_inj.1 e] at hbc; cases hbc
                    have n2 : s[i].toNat ≠ 9 := fun e => by rw [show s[i] = 9 from UInt8.toNat_inj.1 e] at hbc; cases hbc
                    have q1 : ((s[i].toNat : Int) == 32) = false := by rw [beq_eq_false_iff_ne]; omega
                    have q2 : ((s[i].toNat : Int) == 9) = false := by rw [beq_eq_false_iff_ne]; omega
                    have q3 : ¬ (s[i].toNat : Int) = 32 := by omega
                    clear hbc n1 n2
                    go_wp2_with fail
                    go_meet
                    exact ⟨i, rfl, hi, hbk, HNB, rfl⟩
                  · have HBK : Hid (BlkTo s.data.toList (e0 + 1) (i + 1)) := Lib.hid (hbk.out.step HIL.out.1 (by rw [HBG.out]; exact hbc))
                    rw [blk_eq, Bool.or_eq_true, beq_iff_eq, beq_iff_eq] at hbc
                    by_cases h32 : s[i] = 32
                    · have q1 : ((s[i].toNat : Int) == 32) = true := by rw [h32]; rfl
                      have q3 : (s[i].toNat : Int) = 32 := by rw [h32]; rfl
                      clear hbc h32
                      go_wp2_with fail
                      go_round
                      case rel => exact ⟨i + 1, by go_num, by omega, HBK⟩
                      case measure => simp [intOf]; omega
                    · have h9 : s[i] = 9 := by
                        rcases hbc with e | e
                        · exact absurd e h32
                        · exact e
                      have n1 : s[i].toNat ≠ 32 := fun e => h32 (UInt8.toNat_inj.1 e)
                      have q1 : ((s[i].toNat : Int) == 32) = false := by rw [beq_eq_false_iff_ne]; omega
                      have q2 : ((s[i].toNat : Int) == 9) = true := by rw [h9]; rfl
                      have q3 : ¬ (s[i].toNat : Int) = 32 := by omega
                      clear h32 hbc n1 h9
                      go_wp2_with fail
                      go_round
                      case rel => exact ⟨i + 1, by go_num, by omega, HBK⟩
                      case measure => simp [intOf]; omega
                · have g3 : ¬ (i : Int) < (s.size : Int) := by omega
                  have HNB : Hid (NoBlk s.data.toList i) := Lib.hid (fun h => by rw [← Lib.size_eq] at h; exact absurd h hil)
                  go_wp2_with fail
                  go_meet
                  exact ⟨i, rfl, hi, hbk, HNB, rfl⟩
            case rest =>
              obtain ⟨i2, rfl, hi2, HBK2, HNB2, rfl⟩ := hcut
              have HIE : Hid (e0 + 1 ≤ i2) := Lib.hid HBK2.out.1
              obtain ⟨hit, hhit⟩ : ∃ b : Bool, decide (∃ h : i2 < s.size, s[i2] = 34) = b := ⟨_, rfl⟩
              cases hit
              · have hno34 : ∀ h : i2 < s.size, s[i2] ≠ 34 := fun h e => by
                  have := of_decide_eq_false hhit
                  exact this ⟨h, e⟩
                have HN34 := Lib.hid hno34
                clear hhit
                have HWAY : Hid (∀ (k2 : Nat) (hk2 : UntL s.data.toList [59] i2 k2 ((s.data.toList.take k2).drop i2)), Nx s.data.toList k k2 nm (trimL ((s.data.toList.take k2).drop i2))) := Lib.hid (fun k2 hk2 => by
                  by_cases h : i2 < s.size
                  · have h2 : i2 < s.data.toList.length := by rw [← Lib.size_eq]; exact h
                    exact nx_value HNM2.out HEL.out.1 HE61.out HBK2.out HNB2.out h2 (by rw [Kit.byte_get s i2 h]; exact HN34.out h) hk2
                  · have h2 : i2 = s.data.toList.length := by rw [← Lib.size_eq]; omega
                    have h3 : k2 = s.data.toList.length := by have a1 := hk2.ge; have a2 := hk2.le; omega
                    have h4 : (s.data.toList.take k2).drop i2 = [] := List.drop_of_length_le (by rw [List.length_take]; omega)
                    rw [h4, h3]
                    exact nx_empty HNM2.out HEL.out.1 HE61.out HBK2.out h2)
                have HSTEP : Hid (∀ (k2 : Nat), UntL s.data.toList [59] i2 k2 ((s.data.toList.take k2).drop i2) → k < k2) := Lib.hid (fun k2 hk2 => by
                  have a1 := hk2.ge
                  have a2 := HIE.out
                  omega)
                by_cases hil2 : i2 < s.size
                · have g4 : (i2 : Int) < (s.size : Int) := by omega
                  have n1 : s[i2].toNat ≠ 34 := fun e => hno34 hil2 (UInt8.toNat_inj.1 e)
                  have q3 : ((s[i2].toNat : Int) == 34) = false := by rw [beq_eq_false_iff_ne]; omega
                  have q4 : ¬ (s[i2].toNat : Int) = 34 := by omega
                  clear n1 hno34
                  go_wp2_with fail
                  refine (until_any s [59] (Or.inl rfl) i2 hi2 W3 (by omega)).mono ?_
                  rintro e w4 ⟨rfl, k2, hk20, hk21, rfl, hno, hat⟩
                  have HU2 := Lib.hid (UntL.mk' hk20 hk21 hno hat)
                  have HX2 := Lib.hid (ext_sp s i2 k2)
                  clear hno hat
                  have hk2a : (i2 : Int) ≤ (k2 : Int) := by omega
                  have hk2b : (k2 : Int) ≤ (s.size : Int) := by omega
                  go_wp2_with fail
                  refine (rtrim_any (s.extract i2 k2) W3 (by rw [ByteArray.size_extract]; omega)).mono ?_
                  rintro e w4 ⟨rfl, rfl⟩
                  rw [HX2.out]
                  obtain ⟨vl, hvl⟩ : ∃ vl, trimL ((s.data.toList.take k2).drop i2) = vl := ⟨_, rfl⟩
                  have HNX := Lib.hid (HWAY.out k2 HU2.out)
                  rw [hvl] at HNX ⊢
                  clear hvl
                  have hkk := HSTEP.out k2 HU2.out
                  have HBL := Lib.hid (fset1 (.string ⟨vl.toArray⟩) HBLK.out)
                  have HBW := Lib.hid (HBA.out.setCell (p := ⟨G, 1, none⟩) (Nat.le_refl _) (.string ⟨vl.toArray⟩))
                  have c1 : W3.cell? ⟨G, 1, none⟩ = some (.string ⟨#[]⟩) := by rw [Lib.cell_of_heap HBLK.out]; rfl
                  have f1 := Lib.frozen_of_heap HBLK.out 1
                  unfold sV
                  go_wp2_with fail
                  go_meet
                  exact ⟨k2, vl, rfl, hkk, hk21, HNX, HBL, HBW⟩
                · have g4 : ¬ (i2 : Int) < (s.size : Int) := by omega
                  clear hno34
                  go_wp2_with fail
                  refine (until_any s [59] (Or.inl rfl) i2 hi2 W3 (by omega)).mono ?_
                  rintro e w4 ⟨rfl, k2, hk20, hk21, rfl, hno, hat⟩
                  have HU2 := Lib.hid (UntL.mk' hk20 hk21 hno hat)
                  have HX2 := Lib.hid (ext_sp s i2 k2)
                  clear hno hat
                  have hk2a : (i2 : Int) ≤ (k2 : Int) := by omega
                  have hk2b : (k2 : Int) ≤ (s.size : Int) := by omega
                  go_wp2_with fail
                  refine (rtrim_any (s.extract i2 k2) W3 (by rw [ByteArray.size_extract]; omega)).mono ?_
                  rintro e w4 ⟨rfl, rfl⟩
                  rw [HX2.out]
                  obtain ⟨vl, hvl⟩ : ∃ vl, trimL ((s.data.toList.take k2).drop i2) = vl := ⟨_, rfl⟩
                  have HNX := Lib.hid (HWAY.out k2 HU2.out)
                  rw [hvl] at HNX ⊢
                  clear hvl
                  have hkk := HSTEP.out k2 HU2.out
                  have HBL := Lib.hid (fset1 (.string ⟨vl.toArray⟩) HBLK.out)
                  have HBW := Lib.hid (HBA.out.setCell (p := ⟨G, 1, none⟩) (Nat.le_refl _) (.string ⟨vl.toArray⟩))
                  have c1 : W3.cell? ⟨G, 1, none⟩ = some (.string ⟨#[]⟩) := by rw [Lib.cell_of_heap HBLK.out]; rfl
                  have f1 := Lib.frozen_of_heap HBLK.out 1
                  unfold sV
                  go_wp2_with fail
                  go_meet
                  exact ⟨k2, vl, rfl, hkk, hk21, HNX, HBL, HBW⟩
              · obtain ⟨hil2, h34⟩ := of_decide_eq_true hhit
                clear hhit
                have g4 : (i2 : Int) < (s.size : Int) := by omega
                have q3 : ((s[i2].toNat : Int) == 34) = true := by rw [h34]; rfl
                have q4 : (s[i2].toNat : Int) = 34 := by rw [h34]; rfl
                have HI2 : Hid (i2 < s.data.toList.length ∧ True) := Lib.hid ⟨by rw [← Lib.size_eq]; exact hil2, trivial⟩
                have H34 : Hid (s.data.toList[i2]'(HI2.out.1) = 34) := Lib.hid (by rw [Kit.byte_get s i2 hil2]; exact h34)
                clear h34
                go_upto_block 6 with fail
                go_cut [7, 10] from 95 to 125 (fun j bv wx => ∃ (i3 : Nat) (l : List UInt8), j = .int .i64 (i3 : Int) ∧ i3 ≤ s.size ∧ Hid (i2 + 1 ≤ i3) ∧ Hid (UnqTo s.data.toList (i2 + 1) i3 l) ∧ Hid (∀ h : i3 < s.data.toList.length, s.data.toList[i3] = 34) ∧ Buf W3 bv l wx)
                case first =>
                  go_wp2_with fail
                  go_loopw [7, 10] (fun j bv wr => ∃ (i : Nat) (l : List UInt8), j = .int .i64 (i : Int) ∧ i ≤ s.size ∧ l.length ≤ i ∧ Hid (UnqTo s.data.toList (i2 + 1) i l) ∧ Buf W3 bv l wr) (fun j _ _ => s.size - (intOf j).toNat)
                  case atStart => exact ⟨i2 + 1, [], by go_num, hil2, Nat.zero_le _, Lib.hid (UnqTo.start _ _ (by rw [← Lib.size_eq]; exact hil2)), Buf.empty (Below.refl _ _)⟩
                  case round =>
                    obtain ⟨i, l, rfl, hi, hll, hun, hB⟩ := hrel
                    clear q3 q4
                    have HGE : Hid (i2 + 1 ≤ i) := Lib.hid hun.out.1
                    by_cases hil : i < s.size
                    · have g3 : (i : Int) < (s.size : Int) := by omega
                      have HIL : Hid (i < s.data.toList.length ∧ True) := Lib.hid ⟨by rw [← Lib.size_eq]; exact hil, trivial⟩
                      have HBG : Hid (s.data.toList[i]'(HIL.out.1) = s[i]) := Lib.hid (Kit.byte_get s i hil)
                      by_cases h34 : s[i] = 34
                      · have HD : Hid (∀ h : i < s.data.toList.length, s.data.toList[i] = 34) := Lib.hid (fun h => by rw [Kit.byte_get s i hil]; exact h34)
                        have q3 : ((s[i].toNat : Int) != 34) = false := by rw [h34]; rfl
                        have q4 : (s[i].toNat : Int) = 34 := by rw [h34]; rfl
                        clear h34
                        go_wp2_with fail
                        go_meet
                        exact ⟨i, l, rfl, hi, HGE, hun, HD, hB⟩
                      · have n1 : s[i].toNat ≠ 34 := fun e => h34 (UInt8.toNat_inj.1 e)
                        have H34 : Hid (s.data.toList[i]'(HIL.out.1) ≠ 34) := Lib.hid (by rw [HBG.out]; exact h34)
                        have q3 : ((s[i].toNat : Int) != 34) = true := by simp only [bne_iff_ne, ne_eq]; omega
                        have q4 : ¬ (s[i].toNat : Int) = 34 := by omega
                        clear h34 n1
                        by_cases h92 : s[i] = 92
                        · by_cases hn : i + 1 < s.size
                          · have g5 : (i : Int) + 1 < (s.size : Int) := by omega
                            have HNL : Hid (i + 1 < s.data.toList.length ∧ True) := Lib.hid ⟨by rw [← Lib.size_eq]; exact hn, trivial⟩
                            have HN1 : Hid (UnqTo s.data.toList (i2 + 1) (i + 2) (l ++ [s[i + 1]])) := Lib.hid (by
                              have := hun.out.esc HNL.out.1 (by rw [HBG.out]; exact h92)
                              rw [Kit.byte_get s (i + 1) hn] at this
                              exact this)
                            have q5 : ((s[i].toNat : Int) == 92) = true := by rw [h92]; rfl
                            have q6 : (s[i].toNat : Int) = 92 := by rw [h92]; rfl
                            clear h92
                            have hl5 : l.length + 1 ≤ 140737488355328 := by omega
                            go_wp2_with (at_builtin; refine Buf.app rfl _ _ rfl W3 _ _ _ hB _ [s[i + 1]] 1 1 rfl rfl rfl rfl hl5 ?_)
                            intro v2 w4 hB2
                            clear hB
                            go_wp2_with fail
                            go_roundw
                            case rel => exact ⟨i + 2, l ++ [s[i + 1]], by go_num, by omega, by rw [List.length_append, List.length_singleton]; omega, HN1, hB2⟩
                            case measure => simp [intOf]; omega
                          · have g5 : ¬ (i : Int) + 1 < (s.size : Int) := by omega
                            have HN1 : Hid (UnqTo s.data.toList (i2 + 1) (i + 1) (l ++ [s[i]])) := Lib.hid (by
                              have := hun.out.byte HIL.out.1 H34.out (Or.inr (by rw [← Lib.size_eq]; omega))
                              rw [HBG.out] at this
                              exact this)
                            have q5 : ((s[i].toNat : Int) == 92) = true := by rw [h92]; rfl
                            have q6 : (s[i].toNat : Int) = 92 := by rw [h92]; rfl
                            clear h92
                            have hl5 : l.length + 1 ≤ 140737488355328 := by omega
                            go_wp2_with (at_builtin; refine Buf.app rfl _ _ rfl W3 _ _ _ hB _ [s[i]] 1 1 rfl ?pc2 rfl rfl hl5 ?_)
                            case pc2 => simp [Lib.byteCells, q6]
                            intro v2 w4 hB2
                            clear hB
                            go_wp2_with fail
                            go_roundw
                            case rel => exact ⟨i + 1, l ++ [s[i]], by go_num, by omega, by rw [List.length_append, List.length_singleton]; omega, HN1, hB2⟩
                            case measure => simp [intOf]; omega
                        · have HN1 : Hid (UnqTo s.data.toList (i2 + 1) (i + 1) (l ++ [s[i]])) := Lib.hid (by
                            have := hun.out.byte HIL.out.1 H34.out (Or.inl (by rw [HBG.out]; exact h92))
                            rw [HBG.out] at this
                            exact this)
                          have n2 : s[i].toNat ≠ 92 := fun e => h92 (UInt8.toNat_inj.1 e)
                          have q5 : ((s[i].toNat : Int) == 92) = false := by rw [beq_eq_false_iff_ne]; omega
                          have q6 : ¬ (s[i].toNat : Int) = 92 := by omega
                          clear h92 n2
                          have hl5 : l.length + 1 ≤ 140737488355328 := by omega
                          go_wp2_with (at_builtin; refine Buf.app rfl _ _ rfl W3 _ _ _ hB _ [s[i]] 1 1 rfl rfl rfl rfl hl5 ?_)
                          intro v2 w4 hB2
                          clear hB
                          go_wp2_with fail
                          go_roundw
                          case rel => exact ⟨i + 1, l ++ [s[i]], by go_num, by omega, by rw [List.length_append, List.length_singleton]; omega, HN1, hB2⟩
                          case measure => simp [intOf]; omega
                    · have g3 : ¬ (i : Int) < (s.size : Int) := by omega
                      have HD : Hid (∀ h : i < s.data.toList.length, s.data.toList[i] = 34) := Lib.hid (fun h => by rw [← Lib.size_eq] at h; exact absurd h hil)
                      go_wp2_with fail
                      go_meet
                      exact ⟨i, l, rfl, hi, HGE, hun, HD, hB⟩
                case rest =>
                  clear q3 q4
                  obtain ⟨i3, vl, rfl, hi3, HI3, HUN, HD34, hB⟩ := hcut
                  obtain ⟨m, hm⟩ : ∃ m, min (i3 + 1) s.size = m := ⟨_, rfl⟩
                  have hms : m ≤ s.size := by omega
                  have HM : Hid (min (i3 + 1) s.data.toList.length = m) := Lib.hid (by rw [← Lib.size_eq]; exact hm)
                  have HMI : Hid (min ((i3 : Int) + 1) (s.size : Int) = (m : Int)) := Lib.hid (by omega)
                  have HM3 : Hid (i2 + 1 ≤ m) := Lib.hid (by have := HI3.out; omega)
                  have hmin : ∀ (ts : Array TypeId) (t : TypeId) (W : World), (Builtin.min_ ts t #[.int .i64 ((i3 : Int) + 1), .int .i64 (s.size : Int)]).run Tryz.prog W = .ok (.int .i64 (m : Int)) W := fun ts t W => by
                    have h9 := HMI.out
                    simp [Builtin.min_, Builtin.min2]
                    split <;> omega
                  have hstr := hB.string
                  have HGL : Hid (G < W3.heap.size) := Lib.hid (Array.getElem?_eq_some_iff.1 HBLK.out).1
                  have hblk4 := (hB.below.block G HGL.out).trans HBLK.out
                  have HBL := Lib.hid (fset1 (.string ⟨vl.toArray⟩) hblk4)
                  have HBW := Lib.hid ((HBA.out.trans (hB.below.mono (Nat.le_of_lt HGL.out))).setCell (p := ⟨G, 1, none⟩) (Nat.le_refl _) (.string ⟨vl.toArray⟩))
                  have c1 : wc.cell? ⟨G, 1, none⟩ = some (.string ⟨#[]⟩) := by rw [Lib.cell_of_heap hblk4]; rfl
                  have f1 := Lib.frozen_of_heap hblk4 1
                  clear hm hblk4 hB
                  go_wp2_with fail
                  refine (until_any s [59] (Or.inl rfl) m hms _ (by omega)).mono ?_
                  rintro e w4 ⟨rfl, k2, hk20, hk21, rfl, hno, hat⟩
                  have HU2 := Lib.hid (UntL.mk' hk20 hk21 hno hat)
                  clear hno hat
                  have HNX : Hid (Nx s.data.toList k k2 nm vl) := Lib.hid (nx_quote HNM2.out HEL.out.1 HE61.out HBK2.out HI2.out.1 H34.out HUN.out HD34.out (by rw [HM.out]; exact HU2.out))
                  have hkk : k < k2 := by have := HIE.out; have := HM3.out; omega
                  go_wp2_with fail
                  go_meet
                  exact ⟨k2, vl, rfl, hkk, hk21, HNX, HBL, HBW⟩
        case rest =>
          obtain ⟨k2, vl, rfl, hkk, hk2, HNX, HBL, HBW⟩ := hcut
          have HHS : Hid (k < s.data.toList.length ∧ True) := Lib.hid ⟨by rw [← Lib.size_eq]; exact hlt, trivial⟩
          have HPS := Lib.hid (par_step HHS.out.1 HNX.out)
          have HSE : Hid (k2 < s.size → s.data.toList[k2]? = some 59) := Lib.hid (fun h => by
            have h2 : k2 < s.data.toList.length := by rw [← Lib.size_eq]; exact h
            rw [List.getElem?_eq_getElem h2, HNX.out.2.2.1 h2])
          have HBB4 : Hid (Below w.heap.size w wc) := Lib.hid (by
            have h1 := HB2.out
            have h2 := HBW.out
            rw [← HG.out] at h2
            exact HR.out.2.trans ((h1.trans (h2.mono h1.size)).mono HR.out.2.size))
          have HROW4 : Hid (RowF w.heap.size (.slice va fs.length vc) fs wc) := Lib.hid ((HR.out.1.below HB2.out).below (by rw [HG.out]; exact HBW.out))
          have c0 : wc.cell? ⟨G, 0, none⟩ = some (.string ⟨nm.toArray⟩) := by rw [Lib.cell_of_heap HBL.out]; rfl
          have c1 : wc.cell? ⟨G, 1, none⟩ = some (.string ⟨vl.toArray⟩) := by rw [Lib.cell_of_heap HBL.out]; rfl
          cases nm with
          | nil =>
            have HQ : Hid (fs ++ parO s.data.toList k2 = VL.2) := Lib.hid (by rw [← hpar.out, HPS.out]; rfl)
            clear hpar
            go_wp2_with fail
            go_roundw
            case rel => exact ⟨k2, fs, rfl, hk2, by omega, HSE, HQ, HROW4.out, HBB4.out⟩
            case measure => simp [intOf]; omega
          | cons c nr =>
            have HQ : Hid ((fs ++ [(c :: nr, vl)]) ++ parO s.data.toList k2 = VL.2) := Lib.hid (by rw [← hpar.out, HPS.out]; simp [keepL])
            clear hpar
            have hfl2 : fs.length ≤ 1099511627776 := by omega
            have hblk5 : (wc.alloc (.cells #[.string ⟨(c :: nr).toArray⟩, .string ⟨vl.toArray⟩] 74)).heap[wc.heap.size]? = some (.cells #[sV ((c :: nr, vl) : Fl).1, sV ((c :: nr, vl) : Fl).2] 74 (0, 0)) := Kit.fresh_block _ _ _
            have hrow5 : RowF w.heap.size (.slice va fs.length vc) fs (wc.alloc (.cells #[.string ⟨(c :: nr).toArray⟩, .string ⟨vl.toArray⟩] 74)) := HROW4.out.below ((Below.refl _ _).alloc (Nat.le_refl _) _)
            have hB5 : w.heap.size ≤ (wc.alloc (.cells #[.string ⟨(c :: nr).toArray⟩, .string ⟨vl.toArray⟩] 74)).heap.size := Nat.le_trans HBB4.out.size (by simp)
            go_wp2_with (at_builtin; refine RowF.app rfl _ _ rfl w.heap.size _ (.slice va fs.length vc) fs hrow5 ((c :: nr, vl) : Fl) wc.heap.size 1 hblk5 rfl rfl hfl2 hB5 ?_)
            intro g c5 w5 hrow6 hg5 hat5
            have hb5 : Below w.heap.size w w5 := (HBB4.out.alloc HBB4.out.size _).grown hg5 hB5 (fun j hj => (hrow5.block hj).1)
            have H6 := Lib.hid (And.intro hrow6 hb5)
            clear hrow5 hrow6 hg5 hat5 hb5 hblk5 hB5
            go_wp2_with fail
            go_roundw
            case rel => exact ⟨k2, fs ++ [((c :: nr, vl) : Fl)], rfl, hk2, by rw [List.length_append, List.length_singleton]; omega, HSE, HQ, H6.out.1, H6.out.2⟩
            case measure => simp [intOf]; omega
    · have g1 : ¬ (k : Int) < (s.size : Int) := by omega
      have hke : k = s.data.toList.length := by rw [← Lib.size_eq]; omega
      have HF : Hid (fs = VL.2) := Lib.hid (by rw [← hpar.out, hke, par_end, List.append_nil])
      clear hke
      go_wp2_with fail
      go_ret2
      refine ⟨.slice va fs.length vc, ?_, ?_, HR.out.2⟩
      · rw [← HW1.out]; rfl
      · rw [← HF.out]; exact HR.out.1
end Go.Proofs.YtnnbbjdidbggmaaGreatDoor.Pt
namespace Go.Proofs.YtnnbbjdidbggmaaGreatDoor.F0
open Go Go.RowKit Go.Joins Kit

theorem span_succ (l : List UInt8) (k q : Nat) (hk : k ≤ q) (hq : q < l.length) : (l.take (q + 1)).drop k = (l.take q).drop k ++ [l[q]] := by
  rw [List.take_succ_eq_append_getElem hq, List.drop_append_of_le_length (by rw [List.length_take]; omega)]
theorem span_split (l : List UInt8) (k q t : Nat) (hk : k ≤ q) (hq : q < t) (ht : t ≤ l.length) : (l.take t).drop k = (l.take q).drop k ++ l[q] :: (l.take t).drop (q + 1) := by
  have h1 : (l.take t).drop k = ((l.take t).take q).drop k ++ (l.take t).drop q := by
    rw [← List.drop_append_of_le_length (by rw [List.length_take, List.length_take]; omega), List.take_append_drop]
  have h2 := List.drop_eq_getElem_cons (l := l.take t) (i := q) (by rw [List.length_take]; omega)
  rw [h1, List.take_take, Nat.min_eq_left (by omega), h2]
  simp
theorem extr (s : ByteArray) (k t : Nat) : (s.extract k t).data.toList = (s.data.toList.take t).drop k := by
  rw [← Lib.toList_data, Lib.extract_toList, List.drop_take]

theorem line_block (wr : World) (k nx : Nat) (T : ByteArray) (nxI : Int) (h : nxI = (nx : Int)) :
    (wr.alloc (.cells #[.int .i64 (k : Int), .string T, .int .i64 nxI] 72)).heap[wr.heap.size]? = some (.cells #[.int .i64 ((k, (T.data.toList, nx)) : Tl).1, sV ((k, (T.data.toList, nx)) : Tl).2.1, .int .i64 (((k, (T.data.toList, nx)) : Tl).2.2 : Int)] 72 (0, 0)) := by
  subst h
  exact Kit.fresh_block wr _ _

/-- Lines, each of which begins where the one ahead of it ends. -/
def Chain : Nat → List Tl → Nat → Prop
  | p, [], k => p = k
  | p, x :: r, k => x.1 = p ∧ Chain x.2.2 r k
theorem Chain.snoc : ∀ {p k : Nat} {ls : List Tl} (_ : Chain p ls k) (t : List UInt8) (n : Nat), Chain p (ls ++ [(k, (t, n))]) n
  | _, _, [], h, _, _ => ⟨h.symm, rfl⟩
  | _, _, _ :: _, h, t, n => ⟨h.1, Chain.snoc h.2 t n⟩

set_option maxHeartbeats 4000000 in
set_option maxRecDepth 100000 in
theorem rlines_chain (s : ByteArray) (a0 t0 : Nat) (w : World) (hs : s.size ≤ 549755813888) (hat : a0 ≤ t0) (hto : t0 ≤ s.size) :
    Calls Tryz.prog 48 #[.string s, .int .i64 (a0 : Int), .int .i64 (t0 : Int)] w fun e w' => ∃ v ls, e = .returned v ∧ RowL w.heap.size v ls w' ∧ ls.map (·.2) = linesL a0 ((s.data.toList.take t0).drop a0) ∧ Below w.heap.size w w' ∧ ∃ k, Chain a0 ls k := by
  go_enter Tryz.func48, Tryz.ntmps48
  go_wp2_with fail
  go_loopw [1, 7] (fun i v wr => ∃ (k : Nat) (ls : List Tl) (bv : Value), bv = v ∧ i = .int .i64 (k : Int) ∧ a0 ≤ k ∧ k ≤ t0 ∧ ls.length + a0 ≤ k ∧ Hid (ls.map (·.2) ++ linesL k ((s.data.toList.take t0).drop k) = linesL a0 ((s.data.toList.take t0).drop a0)) ∧ RowL w.heap.size bv ls wr ∧ Below w.heap.size w wr ∧ Hid (Chain a0 ls k)) (fun i _ _ => t0 - (intOf i).toNat)
  case atStart => exact ⟨a0, [], _, rfl, rfl, Nat.le_refl _, hat, by simp, Lib.hid rfl, RowL.new _ _, Below.refl _ _, Lib.hid rfl⟩
  case round =>
    obtain ⟨k, ls, v, rfl, rfl, hk0, hk1, hlen, hpre, hrow, hb, hch⟩ := hrel
    by_cases hlt : k < t0
    · have g1 : (k : Int) < (t0 : Int) := by omega
      have hrow := Lib.hid (And.intro hrow (show ls.length ≤ 1099511627776 by omega))
      have hb := Lib.hid hb
      go_wp2_with fail
      go_loop [8] (fun j => ∃ q : Nat, k ≤ q ∧ q ≤ t0 ∧ j = .int .i64 (q : Int) ∧ Hid (∀ c ∈ (s.data.toList.take q).drop k, c ≠ 10)) (fun j => t0 - (intOf j).toNat)
      case atStart => exact ⟨k, Nat.le_refl _, hk1, rfl, Lib.hid (by rw [List.drop_of_length_le (by rw [List.length_take]; omega)]; simp)⟩
      case round =>
        obtain ⟨q, hq0, hq1, rfl, hno⟩ := hrel
        by_cases hqt : q < t0
        · have g2 : (q : Int) < (t0 : Int) := by omega
          have hqs : q < s.size := by omega
          have hql : q < s.data.toList.length := by rw [← Lib.size_eq]; exact hqs
          have hbg := Lib.hid (byte_get s q hqs)
          have HSP := Lib.hid (span_split s.data.toList k q t0 hq0 hqt (by rw [← Lib.size_eq]; exact hto))
          obtain ⟨c, hc⟩ : ∃ c, s[q] = c := ⟨_, rfl⟩
          rw [hc] at hbg
          rw [hbg.out] at HSP
          have HSS := Lib.hid (span_succ s.data.toList k q hq0 hql)
          rw [hbg.out] at HSS
          by_cases hc10 : c = 10
          · have q1 : ((c.toNat : Int) != 10) = false := by rw [hc10]; rfl
            have HC10 := Lib.hid hc10
            clear hc10
            have HEX := Lib.hid (extr s k q)
            have hexs : (s.extract k q).size = q - k := by rw [ByteArray.size_extract]; omega
            have HLN : Hid (linesL k ((s.data.toList.take t0).drop k) = (chopL (s.extract k q).data.toList, q + 1) :: linesL (q + 1) ((s.data.toList.take t0).drop (q + 1))) := Lib.hid (by
              rw [HSP.out, HC10.out, linesL_cut _ _ _ hno.out, ← HEX.out, ← Lib.size_eq, hexs, show k + (q - k) + 1 = q + 1 by omega])
            go_upto_region 7 with fail
            generalize s.extract k q = X at HEX hexs HLN ⊢
            by_cases hE : X.size = 0
            · have hte := toList_nil hE
              have HCH : Hid (chopL X.data.toList = X.data.toList) := Lib.hid (by rw [List.length_eq_zero_iff.1 (show X.data.toList.length = 0 by rw [← Lib.size_eq]; exact hE)]; rfl)
              clear hexs hE
              have HN : Hid ((ls ++ [(k, (X.data.toList, q + 1))]).map (·.2) ++ linesL (q + 1) ((s.data.toList.take t0).drop (q + 1)) = linesL a0 ((s.data.toList.take t0).drop a0)) := Lib.hid (by
                rw [← hpre.out, List.map_append, List.append_assoc, HLN.out, HCH.out]
                rfl)
              have hblk := line_block wr k (q + 1) X ((q : Int) + 1) rfl
              have hrow3 : RowL w.heap.size v ls (wr.alloc (.cells #[.int .i64 (k : Int), .string X, .int .i64 ((q : Int) + 1)] 72)) := Rw.below hrow.out.1 ((Below.refl _ wr).alloc (Nat.le_refl _) _)
              have hB3 : w.heap.size ≤ (wr.alloc (.cells #[.int .i64 (k : Int), .string X, .int .i64 ((q : Int) + 1)] 72)).heap.size := Nat.le_trans hb.out.size (by simp)
              go_wp2_with (at_builtin; refine RowL.app rfl _ _ rfl w.heap.size _ v ls hrow3 (k, (X.data.toList, q + 1)) wr.heap.size 1 hblk rfl rfl hrow.out.2 hB3 ?_)
              intro g c5 w5 hrow5 hg5 hat5
              have HR5 := Lib.hid hrow5
              clear hrow5
              have hb5 : Below w.heap.size w w5 := (hb.out.alloc hb.out.size _).grown hg5 hB3 (fun j hj => (Rw.block hrow3 hj).1)
              clear hblk hrow3 hB3 hg5 hat5
              go_wp2_with fail
              go_roundw
              case rel => exact ⟨q + 1, ls ++ [(k, (X.data.toList, q + 1))], _, rfl, by go_num, by omega, by omega, by rw [List.length_append, List.length_singleton]; omega, HN, HR5.out, hb5, Lib.hid (hch.out.snoc _ _)⟩
              case measure => simp [intOf]; omega
            · have hte := toList_isEmpty hE
              have gX : (X.size : Int) ≤ 549755813888 := by omega
              obtain ⟨d, r, hdr, hd, hdx⟩ := drop_last X (by omega)
              have hlt2 : X.size - 1 < X.size := by omega
              have hd' := hd hlt2
              have hk1' : ((X.size : Int) - 1).toNat = X.size - 1 := by omega
              have hpos : (1 : Int) ≤ (X.size : Int) := by omega
              have HDX := Lib.hid hdx
              clear hdx hexs hE hd
              by_cases hd13 : d = 13
              · have HCH : Hid (chopL X.data.toList = (X.extract 0 (X.size - 1)).data.toList) := Lib.hid (by rw [HDX.out, hdr, hd13, chopL_cr])
                have HDL : Hid ((X.extract 0 (X.size - 1)).data.toList = X.data.toList.dropLast) := Lib.hid (by rw [HDX.out, hdr]; simp)
                subst hd13
                clear hdr
                have HN : Hid ((ls ++ [(k, ((X.extract 0 (X.size - 1)).data.toList, q + 1))]).map (·.2) ++ linesL (q + 1) ((s.data.toList.take t0).drop (q + 1)) = linesL a0 ((s.data.toList.take t0).drop a0)) := Lib.hid (by
                  rw [← hpre.out, List.map_append, List.append_assoc, HLN.out, HCH.out]
                  rfl)
                have hblk := line_block wr k (q + 1) (X.extract 0 (X.size - 1)) ((q : Int) + 1) rfl
                have hrow3 : RowL w.heap.size v ls (wr.alloc (.cells #[.int .i64 (k : Int), .string (X.extract 0 (X.size - 1)), .int .i64 ((q : Int) + 1)] 72)) := Rw.below hrow.out.1 ((Below.refl _ wr).alloc (Nat.le_refl _) _)
                have hB3 : w.heap.size ≤ (wr.alloc (.cells #[.int .i64 (k : Int), .string (X.extract 0 (X.size - 1)), .int .i64 ((q : Int) + 1)] 72)).heap.size := Nat.le_trans hb.out.size (by simp)
                go_wp2_with (at_builtin; refine RowL.app rfl _ _ rfl w.heap.size _ v ls hrow3 (k, ((X.extract 0 (X.size - 1)).data.toList, q + 1)) wr.heap.size 1 hblk rfl rfl hrow.out.2 hB3 ?_)
                intro g c5 w5 hrow5 hg5 hat5
                have HR5 := Lib.hid hrow5
                clear hrow5
                have hb5 : Below w.heap.size w w5 := (hb.out.alloc hb.out.size _).grown hg5 hB3 (fun j hj => (Rw.block hrow3 hj).1)
                clear hblk hrow3 hB3 hg5 hat5
                go_wp2_with fail
                go_roundw
                case rel => exact ⟨q + 1, ls ++ [(k, ((X.extract 0 (X.size - 1)).data.toList, q + 1))], _, rfl, by go_num, by omega, by omega, by rw [List.length_append, List.length_singleton]; omega, HN, by rw [HDL.out]; exact HR5.out, hb5, Lib.hid (hch.out.snoc _ _)⟩
                case measure => simp [intOf]; omega
              · have HCH : Hid (chopL X.data.toList = X.data.toList) := Lib.hid (by
                  rw [hdr]
                  exact chopL_other (by simpa using hd13))
                have q2 : ((d.toNat : Int) == 13) = false := by
                  have : d.toNat ≠ 13 := fun e => hd13 (UInt8.toNat_inj.1 e)
                  rw [beq_eq_false_iff_ne]
                  omega
                clear hdr hd13
                have HN : Hid ((ls ++ [(k, (X.data.toList, q + 1))]).map (·.2) ++ linesL (q + 1) ((s.data.toList.take t0).drop (q + 1)) = linesL a0 ((s.data.toList.take t0).drop a0)) := Lib.hid (by
                  rw [← hpre.out, List.map_append, List.append_assoc, HLN.out, HCH.out]
                  rfl)
                have hblk := line_block wr k (q + 1) X ((q : Int) + 1) rfl
                have hrow3 : RowL w.heap.size v ls (wr.alloc (.cells #[.int .i64 (k : Int), .string X, .int .i64 ((q : Int) + 1)] 72)) := Rw.below hrow.out.1 ((Below.refl _ wr).alloc (Nat.le_refl _) _)
                have hB3 : w.heap.size ≤ (wr.alloc (.cells #[.int .i64 (k : Int), .string X, .int .i64 ((q : Int) + 1)] 72)).heap.size := Nat.le_trans hb.out.size (by simp)
                go_wp2_with (at_builtin; refine RowL.app rfl _ _ rfl w.heap.size _ v ls hrow3 (k, (X.data.toList, q + 1)) wr.heap.size 1 hblk rfl rfl hrow.out.2 hB3 ?_)
                intro g c5 w5 hrow5 hg5 hat5
                have HR5 := Lib.hid hrow5
                clear hrow5
                have hb5 : Below w.heap.size w w5 := (hb.out.alloc hb.out.size _).grown hg5 hB3 (fun j hj => (Rw.block hrow3 hj).1)
                clear hblk hrow3 hB3 hg5 hat5
                go_wp2_with fail
                go_roundw
                case rel => exact ⟨q + 1, ls ++ [(k, (X.data.toList, q + 1))], _, rfl, by go_num, by omega, by omega, by rw [List.length_append, List.length_singleton]; omega, HN, HR5.out, hb5, Lib.hid (hch.out.snoc _ _)⟩
                case measure => simp [intOf]; omega
          · have q1 : ((c.toNat : Int) != 10) = true := by
              have : c.toNat ≠ 10 := fun e => hc10 (UInt8.toNat_inj.1 e)
              simp
              omega
            have HN10 : Hid (∀ c ∈ (s.data.toList.take (q + 1)).drop k, c ≠ 10) := Lib.hid (by
              rw [HSS.out]
              intro x hx
              rcases List.mem_append.1 hx with h | h
              · exact hno.out x h
              · simp only [List.mem_singleton] at h
                rw [h]
                exact hc10)
            clear hc10
            go_wp2_with fail
            go_round
            case rel => exact ⟨q + 1, by omega, by omega, by go_num, HN10⟩
            case measure => simp [intOf]; omega
        · have g2 : ¬ (q : Int) < (t0 : Int) := by omega
          have g3 : (q : Int) ≤ (s.size : Int) := by omega
          have HLN : Hid (linesL k ((s.data.toList.take t0).drop k) = ((s.extract k q).data.toList, q) :: linesL q ((s.data.toList.take t0).drop q)) := Lib.hid (by
            have hq : q = t0 := by omega
            have h1 := hno.out
            subst hq
            have h2 : ((s.data.toList.take q).drop k).length = q - k := by rw [List.length_drop, List.length_take, ← Lib.size_eq]; omega
            have h3 : (s.data.toList.take q).drop q = [] := List.drop_of_length_le (by rw [List.length_take]; omega)
            rw [linesL_last _ _ h1 (fun e => by rw [e] at h2; simp at h2; omega), h2, show k + (q - k) = q by omega, extr, h3, linesL_nil])
          go_upto_region 7 with fail
          generalize s.extract k q = X at HLN ⊢
          have HN : Hid ((ls ++ [(k, (X.data.toList, q))]).map (·.2) ++ linesL (q) ((s.data.toList.take t0).drop (q)) = linesL a0 ((s.data.toList.take t0).drop a0)) := Lib.hid (by
            rw [← hpre.out, List.map_append, List.append_assoc, HLN.out]
            rfl)
          have hblk := line_block wr k (q) X ((q : Int)) rfl
          have hrow3 : RowL w.heap.size v ls (wr.alloc (.cells #[.int .i64 (k : Int), .string X, .int .i64 ((q : Int))] 72)) := Rw.below hrow.out.1 ((Below.refl _ wr).alloc (Nat.le_refl _) _)
          have hB3 : w.heap.size ≤ (wr.alloc (.cells #[.int .i64 (k : Int), .string X, .int .i64 ((q : Int))] 72)).heap.size := Nat.le_trans hb.out.size (by simp)
          go_wp2_with (at_builtin; refine RowL.app rfl _ _ rfl w.heap.size _ v ls hrow3 (k, (X.data.toList, q)) wr.heap.size 1 hblk rfl rfl hrow.out.2 hB3 ?_)
          intro g c5 w5 hrow5 hg5 hat5
          have HR5 := Lib.hid hrow5
          clear hrow5
          have hb5 : Below w.heap.size w w5 := (hb.out.alloc hb.out.size _).grown hg5 hB3 (fun j hj => (Rw.block hrow3 hj).1)
          clear hblk hrow3 hB3 hg5 hat5
          go_wp2_with fail
          go_roundw
          case rel => exact ⟨q, ls ++ [(k, (X.data.toList, q))], _, rfl, by go_num, by omega, by omega, by rw [List.length_append, List.length_singleton]; omega, HN, HR5.out, hb5, Lib.hid (hch.out.snoc _ _)⟩
          case measure => simp [intOf]; omega
    · have g1 : ¬ (k : Int) < (t0 : Int) := by omega
      have hk : k = t0 := by omega
      have hend : Hid (ls.map (·.2) = linesL a0 ((s.data.toList.take t0).drop a0)) := Lib.hid (by
        have := hpre.out
        rwa [hk, List.drop_of_length_le (by rw [List.length_take]; omega), linesL_nil, List.append_nil] at this)
      clear hk
      go_wp2_with fail
      go_ret
      exact ⟨_, rfl, ls, hrow, hend.out, hb, k, hch.out⟩
theorem rlines_any (s : ByteArray) (a0 t0 : Nat) (w : World) (hs : s.size ≤ 549755813888) (hat : a0 ≤ t0) (hto : t0 ≤ s.size) :
    Calls Tryz.prog 48 #[.string s, .int .i64 (a0 : Int), .int .i64 (t0 : Int)] w fun e w' => ∃ v ls, e = .returned v ∧ RowL w.heap.size v ls w' ∧ ls.map (·.2) = linesL a0 ((s.data.toList.take t0).drop a0) ∧ Below w.heap.size w w' :=
  (rlines_chain s a0 t0 w hs hat hto).mono (fun _ _ h => by
    obtain ⟨v, ls, h1, h2, h3, h4, _⟩ := h
    exact ⟨v, ls, h1, h2, h3, h4⟩)
end Go.Proofs.YtnnbbjdidbggmaaGreatDoor.F0
namespace Go.Proofs.YtnnbbjdidbggmaaGreatDoor.F0
open Go Go.RowKit Go.Joins Kit

theorem nameL_all {l : List UInt8} (h0 : l ≠ []) (h : l.all inName = true) : nameL l = true := by
  unfold nameL
  rw [h]
  cases l with
  | nil => exact absurd rfl h0
  | cons c r => rfl
theorem rtrim_call (s : ByteArray) (w : World) (hs : s.size ≤ 1099511627776) :
    Calls Tryz.prog 83 #[.string s] w fun e w' => e = .returned (.string ⟨(trimL s.data.toList).toArray⟩) ∧ w = w' := rtrim_any s w hs
theorem ext_pre (s : ByteArray) (k t : Nat) : (s.extract k t).data.toList = (s.data.toList.take t).drop k := by
  rw [← Lib.toList_data, Lib.extract_toList, List.drop_take]
theorem at_left {s : ByteArray} {a r : List UInt8} {c : UInt8} (h : s.data.toList = a ++ c :: r) (q : Nat) (hq : q < a.length) : ∃ hs : q < s.size, s[q] = a[q] := by
  have hl : q < s.data.toList.length := by rw [h, List.length_append]; omega
  have hs : q < s.size := by rw [Lib.size_eq]; exact hl
  refine ⟨hs, ?_⟩
  rw [← byte_get s q hs]
  simp [h, List.getElem_append_left hq]

set_option maxHeartbeats 2000000 in
set_option maxRecDepth 100000 in
theorem made_any (s : ByteArray) (w : World) (hs : s.size ≤ 1099511627776) :
    Calls Tryz.prog 49 #[.string s] w fun e w' => e = .returned (.tuple #[fV (fieldL s.data.toList), .bool (fieldL s.data.toList).isSome]) ∧ Below w.heap.size w w' := by
  have hblk := Kit.fresh_block w #[.string ⟨#[]⟩, .string ⟨#[]⟩] 74
  have hb0 : Below w.heap.size w (w.alloc (.cells #[.string ⟨#[]⟩, .string ⟨#[]⟩] 74)) := (Below.refl _ w).alloc (Nat.le_refl _) _
  have HBLK := Lib.hid hblk
  have HB0 := Lib.hid hb0
  clear hblk hb0
  go_enter Tryz.func49, Tryz.ntmps49
  go_wp2_with fail
  refine (Rx.index_one s 58 _ hs).mono ?_
  rintro e w1 ⟨rfl, hidx⟩
  have HNO : Hid (∀ tmps : Array Value, tmps.getD 2 undef = .pointer (some ⟨w.heap.size, 0, none⟩) → tmps.getD 3 undef = .bool false → fieldL s.data.toList = none → bodyPost Tryz.prog Tryz.f49 (fun e w' => e = .returned (.tuple #[fV (fieldL s.data.toList), .bool (fieldL s.data.toList).isSome]) ∧ Below w.heap.size w w') .ret { tmps := tmps, defers := [] }
      (w.alloc (.cells #[.string ⟨#[]⟩, .string ⟨#[]⟩] 74))) := Lib.hid (fun tmps h2 h3 hf => by
    refine bodyPost_ret (field_result rfl tmps h2 HBLK.out) rfl ?_
    rw [hf, h3]
    exact ⟨rfl, HB0.out⟩)
  rcases hidx with ⟨rfl, hno⟩ | ⟨a, r, hl, ha, rfl⟩
  · have HF := Lib.hid (fieldL_none hno)
    clear hno
    go_wp2_with fail
    exact HNO.out _ rfl rfl HF.out
  · by_cases ha0 : a = []
    · have HF := Lib.hid (fieldL_no r ha (by rw [ha0]; rfl))
      rw [← hl] at HF
      subst ha0
      clear ha hl
      go_wp2_with fail
      exact HNO.out _ rfl rfl HF.out
    · have hap : 0 < a.length := List.length_pos_iff.2 ha0
      have g0 : ¬ (a.length : Int) ≤ 0 := by omega
      have hsz : a.length + r.length + 1 = s.size := by rw [Lib.size_eq, hl, List.length_append, List.length_cons]; omega
      have HA := Lib.hid ha
      have HL := Lib.hid hl
      have HA0 := Lib.hid ha0
      clear ha hl ha0
      go_wp2_with fail
      go_loop [5] (fun i => ∃ q : Nat, q ≤ a.length ∧ i = .int .i64 (q : Int) ∧ Hid ((a.take q).all inName = true)) (fun i => a.length - (intOf i).toNat)
      case atStart => exact ⟨0, Nat.zero_le _, rfl, Lib.hid rfl⟩
      case round =>
        obtain ⟨q, hq, rfl, hall⟩ := hrel
        by_cases hlt : q < a.length
        · have g1 : (q : Int) < (a.length : Int) := by omega
          obtain ⟨hqs, hget⟩ := at_left HL.out q hlt
          have hst := Lib.hid (all_take_succ inName a q hlt)
          obtain ⟨c, hc⟩ : ∃ c, a[q] = c := ⟨_, rfl⟩
          rw [hc] at hget hst
          have HC := Lib.hid hc
          clear hc
          have hcb := c.toNat_lt
          by_cases h1 : c.toNat < 33
          · have HF := Lib.hid (fieldL_no r HA.out (nameL_false hlt (by rw [HC.out]; exact inName_low h1)))
            rw [← HL.out] at HF
            have g2 : (c.toNat : Int) < 33 := by omega
            clear h1
            go_wp2_with fail
            exact HNO.out _ rfl rfl HF.out
          · by_cases h2 : 126 < c.toNat
            · have HF := Lib.hid (fieldL_no r HA.out (nameL_false hlt (by rw [HC.out]; exact inName_high h2)))
              rw [← HL.out] at HF
              have g2 : ¬ (c.toNat : Int) < 33 := by omega
              have g3 : (126 : Int) < (c.toNat : Int) := by omega
              clear h1 h2
              go_wp2_with fail
              exact HNO.out _ rfl rfl HF.out
            · have hyes : Hid ((a.take (q + 1)).all inName = true) := Lib.hid (by rw [hst.out, hall.out, inName_in (by omega) (by omega)]; rfl)
              have g2 : ¬ (c.toNat : Int) < 33 := by omega
              have g3 : ¬ (126 : Int) < (c.toNat : Int) := by omega
              clear h1 h2
              go_wp2_with fail
              go_round
              case rel => exact ⟨q + 1, by omega, by go_num, hyes⟩
              case measure => simp [intOf]; omega
        · have g1 : ¬ (q : Int) < (a.length : Int) := by omega
          have HF : Hid (fieldL s.data.toList = some (a, trimL r)) := Lib.hid (by
            rw [HL.out]
            refine fieldL_yes r HA.out (nameL_all HA0.out ?_)
            have := hall.out
            rwa [List.take_of_length_le (by omega)] at this)
          have e1 : (s.extract 0 a.length).data.toList = a := by rw [ext_pre s 0 a.length, HL.out]; simp
          have e2 : (s.extract (a.length + 1) s.size).data.toList = r := by
            rw [ext_pre s, List.take_of_length_le (by rw [← Lib.size_eq]; exact Nat.le_refl _), HL.out]
            simp
          have HE := Lib.hid (And.intro e1 e2)
          have hxs : (s.extract (a.length + 1) s.size).size ≤ 1099511627776 := by rw [ByteArray.size_extract]; omega
          have HXS := Lib.hid hxs
          have g4 : (a.length : Int) ≤ (s.size : Int) := by omega
          have g5 : (a.length : Int) + 1 ≤ (s.size : Int) := by omega
          have hw : IntKind.i64.wrap ((a.length : Int) + 1) = (a.length : Int) + 1 := IntWalk.i64_in _ (by omega)
          have g6 : (0 : Int) ≤ (a.length : Int) + 1 := by omega
          have g7 : ((a.length : Int) + 1).toNat = a.length + 1 := by omega
          clear e1 e2 hxs
          go_wp2_with fail
          go_region_with (refine (rtrim_call (s.extract (a.length + 1) s.size) _ HXS.out).mono ?_; rintro e w4 ⟨rfl, rfl⟩)
          all_goals go_wp2_with fail
          have hlist : List.take (s.size - (a.length + 1)) (List.drop (a.length + 1) s.data.toList) = r := by
            rw [HL.out, show s.size - (a.length + 1) = r.length by omega]
            simp
          have hpre : s.extract 0 a.length = ⟨a.toArray⟩ := Kit.bytes_ext HE.out.1
          rw [hlist, hpre]
          refine bodyPost_ret (field_result rfl _ rfl (w := (w.alloc (.cells #[.string ⟨a.toArray⟩, .string ⟨(trimL r).toArray⟩] 74)).drew) (Kit.fresh_block w #[.string ⟨a.toArray⟩, .string ⟨(trimL r).toArray⟩] _)) rfl ?_
          rw [HF.out]
          exact ⟨rfl, ((Below.refl _ w).alloc (Nat.le_refl _) _).drew⟩
end Go.Proofs.YtnnbbjdidbggmaaGreatDoor.F0
namespace Go.Proofs.YtnnbbjdidbggmaaGreatDoor.F0
open Go

/-- A line put to the texts so far. -/
def putT (ts : List (List UInt8)) (t : List UInt8) : List (List UInt8) := if goesL t && !ts.isEmpty then ts.dropLast ++ [(ts.getLast?.getD []) ++ t] else ts ++ [t]
def texL (ls : List (List UInt8)) : List (List UInt8) := ls.foldl putT []
theorem texL_snoc (ls : List (List UInt8)) (t : List UInt8) : texL (ls ++ [t]) = putT (texL ls) t := by simp [texL]
theorem putT_new {ts : List (List UInt8)} {t : List UInt8} (h : goesL t = false ∨ ts = []) : putT ts t = ts ++ [t] := by
  unfold putT
  rw [if_neg]
  rcases h with h | h
  · rw [h]; simp
  · rw [h]; simp
theorem putT_on (ps : List (List UInt8)) (j t : List UInt8) (h : goesL t = true) : putT (ps ++ [j]) t = ps ++ [j ++ t] := by
  unfold putT
  rw [if_pos (by rw [h]; simp)]
  simp
theorem putT_ne (ts : List (List UInt8)) (t : List UInt8) : putT ts t ≠ [] := by
  unfold putT
  split <;> simp
theorem snocT (ts : List (List UInt8)) (h : ts ≠ []) : ∃ ps j, ts = ps ++ [j] := by
  rcases List.eq_nil_or_concat ts with h' | ⟨r, c, h'⟩
  · exact absurd h' h
  · exact ⟨r, c, by simpa using h'⟩
theorem texL_ne {ls : List (List UInt8)} (h : ls ≠ []) : texL ls ≠ [] := by
  obtain ⟨r, c, rfl⟩ := snocT ls h
  rw [texL_snoc]
  exact putT_ne _ _
def TInv (ts : List (List UInt8)) (st : List (List UInt8 × List UInt8) × List UInt8) : Prop := (ts = [] ∧ st = ([], [])) ∨ ∃ ps j, ts = ps ++ [j] ∧ st = (ps.flatMap oneL, j)
theorem tinv_step {ts : List (List UInt8)} {st : List (List UInt8 × List UInt8) × List UInt8} (h : TInv ts st) (t : List UInt8) : TInv (putT ts t) (stepL st t) := by
  rcases h with ⟨rfl, rfl⟩ | ⟨ps, j, rfl, rfl⟩
  · rw [putT_new (Or.inr rfl)]
    refine Or.inr ⟨[], t, rfl, ?_⟩
    unfold stepL
    split
    · rfl
    · rw [show oneL [] = [] from rfl]; rfl
  · cases hg : goesL t
    · rw [putT_new (Or.inl hg)]
      refine Or.inr ⟨ps ++ [j], t, rfl, ?_⟩
      unfold stepL
      rw [hg]
      simp
    · rw [putT_on ps j t hg]
      refine Or.inr ⟨ps, j ++ t, rfl, ?_⟩
      unfold stepL
      rw [hg]
      rfl
theorem tinv_all : ∀ (ls : List (List UInt8)) (ts : List (List UInt8)) (st : List (List UInt8 × List UInt8) × List UInt8) (_ : TInv ts st), TInv (ls.foldl putT ts) (ls.foldl stepL st)
  | [], _, _, h => h
  | t :: r, _, _, h => tinv_all r _ _ (tinv_step h t)
theorem tex_end (ls : List (List UInt8)) : (texL ls).flatMap oneL = endL (stL ls) := by
  have h := tinv_all ls [] ([], []) (Or.inl ⟨rfl, rfl⟩)
  unfold texL stL endL
  rcases h with ⟨h1, h2⟩ | ⟨ps, j, h1, h2⟩
  · rw [h1, h2]; rfl
  · rw [h1, h2]; simp
theorem put_le {M n : Nat} {ts : List (List UInt8)} {t : List UInt8} (h : ∀ x ∈ ts, x.length ≤ n * M) (ht : t.length ≤ M) : ∀ x ∈ putT ts t, x.length ≤ (n + 1) * M := by
  intro x hx
  have hM : (n + 1) * M = n * M + M := Nat.succ_mul n M
  unfold putT at hx
  split at hx
  · rcases List.mem_append.1 hx with h' | h'
    · have := h x (List.dropLast_subset _ h'); omega
    · simp only [List.mem_singleton] at h'
      rw [h', List.length_append]
      cases hl : ts.getLast? with
      | none => simp; omega
      | some y =>
        have := h y (List.mem_of_getLast? hl)
        simp
        omega
  · rcases List.mem_append.1 hx with h' | h'
    · have := h x h'; omega
    · simp only [List.mem_singleton] at h'
      rw [h']
      omega
theorem tex_fold_le (M : Nat) : ∀ (ls : List (List UInt8)) (_ : ∀ t ∈ ls, t.length ≤ M) (n : Nat) (ts : List (List UInt8)) (_ : ∀ x ∈ ts, x.length ≤ n * M), ∀ x ∈ ls.foldl putT ts, x.length ≤ (n + ls.length) * M
  | [], _, n, ts, h => by simpa using h
  | t :: r, hl, n, ts, h => by
    have := tex_fold_le M r (fun x hx => hl x (by simp [hx])) (n + 1) (putT ts t) (put_le h (hl t (by simp)))
    rw [List.length_cons, show n + (r.length + 1) = n + 1 + r.length by omega]
    exact this
theorem tex_le {M : Nat} {ls : List (List UInt8)} (h : ∀ t ∈ ls, t.length ≤ M) : ∀ x ∈ texL ls, x.length ≤ ls.length * M := by
  have := tex_fold_le M ls h 0 [] (by simp)
  simpa [texL] using this
theorem put_count (ts : List (List UInt8)) (t : List UInt8) : (putT ts t).length ≤ ts.length + 1 := by
  unfold putT
  split
  · rw [List.length_append, List.length_dropLast]; simp
  · simp
theorem tex_count : ∀ (ls ts : List (List UInt8)), (ls.foldl putT ts).length ≤ ts.length + ls.length
  | [], _ => by simp
  | t :: r, ts => by
    have h1 := tex_count r (putT ts t)
    have h2 := put_count ts t
    rw [List.foldl_cons, List.length_cons]
    omega
/-- A text that tells a field begins with a byte of its name. -/
theorem field_head {t : List UInt8} {f : List UInt8 × List UInt8} (h : fieldL t = some f) : ∃ c r, t = c :: r ∧ 33 ≤ c.toNat ∧ c.toNat ≤ 126 := by
  unfold fieldL at h
  cases hc : cutL 58 t with
  | none => rw [hc] at h; cases h
  | some x =>
    rw [hc] at h
    obtain ⟨n, v⟩ := x
    simp only at h
    cases hn : nameL n with
    | false => rw [hn] at h; cases h
    | true =>
      unfold nameL at hn
      rw [Bool.and_eq_true] at hn
      cases t with
      | nil => cases hc
      | cons c r =>
        rw [cutL] at hc
        split at hc
        · injection hc with hc
          injection hc with hc _
          rw [← hc] at hn
          simp at hn
        · cases hr : cutL 58 r with
          | none => rw [hr] at hc; cases hc
          | some y =>
            rw [hr] at hc
            simp only [Option.map_some, Option.some.injEq, Prod.mk.injEq] at hc
            rw [← hc.1] at hn
            have := hn.2
            simp only [List.all_cons, Bool.and_eq_true] at this
            have h1 := this.1
            unfold inName at h1
            simp only [Bool.and_eq_true, decide_eq_true_eq] at h1
            exact ⟨c, r, rfl, h1.1, h1.2⟩
end Go.Proofs.YtnnbbjdidbggmaaGreatDoor.F0
namespace Go.Proofs.YtnnbbjdidbggmaaGreatDoor.F0
open Go Go.RowKit Go.Joins Kit

def tx3 (x : Tl) : List UInt8 := x.2.1
/-- Between two lines. -/
structure S1 (B : Nat) (w0 : World) (ls : List Tl) (lv tv : Value) (i : Nat) (W : World) : Prop where
  ln : RowL B lv ls W
  tx : RowT B tv (texL ((ls.take i).map tx3)) W
  ne : ∀ x ∈ ls.take i, tx3 x ≠ []
  below : Below B w0 W
theorem span_len (s : ByteArray) (k t : Nat) (h : k ≤ t) (ht : t ≤ s.size) : ((s.data.toList.take t).drop k).length = t - k := by
  rw [List.length_drop, List.length_take, ← Lib.size_eq]
  omega
theorem text_block (wr : World) (T : ByteArray) : (wr.alloc (.cells #[.string T] 9)).heap[wr.heap.size]? = some (.cells #[sV T.data.toList] 9 (0, 0)) := Kit.fresh_block wr _ _
theorem typeLT : 72 ≠ 9 := by decide
/-- Two rows of two types lie in two blocks. -/
theorem rows_ne {B B' size size' n n' : Nat} {e e' : TypeId} {v v' : Value} {xs xs' : List Value} {w : World} (h : w.ownsRow B e size v n xs) (h' : w.ownsRow B' e' size' v' n' xs') (he : e ≠ e') {g : Nat} (hg : v.ownBlock = some g) : v'.ownBlock ≠ some g := by
  obtain ⟨_, cur, hh⟩ := Rw.block h hg
  exact Rw.ne h' hh (fun cs e' => by injection e' with _ e'; exact he e')

set_option maxHeartbeats 1000000 in
set_option maxRecDepth 100000 in
theorem rsplit_none (s : ByteArray) (a t : Int) (w : World) (h : a < 0 ∨ t < a ∨ (s.size : Int) < t) :
    Calls Tryz.prog 24 #[.string s, .int .i64 a, .int .i64 t] w fun e w' => e = .returned (.tuple #[.slice none 0 0, .int .i64 a]) ∧ Below w.heap.size w w' := by
  by_cases h0 : a < 0
  · clear h
    go_enter Tryz.func24, Tryz.ntmps24
    go_wp2_with fail
    go_ret2
    exact ⟨rfl, Below.refl _ _⟩
  · by_cases h1 : (s.size : Int) < t
    · clear h
      go_enter Tryz.func24, Tryz.ntmps24
      go_wp2_with fail
      go_ret2
      exact ⟨rfl, Below.refl _ _⟩
    · have h2 : t < a := by omega
      clear h
      go_enter Tryz.func24, Tryz.ntmps24
      go_wp2_with fail
      go_ret2
      exact ⟨rfl, Below.refl _ _⟩

set_option maxHeartbeats 4000000 in
set_option maxRecDepth 100000 in
theorem rsplit_some (s : ByteArray) (a0 t0 : Nat) (w : World) (hs : s.size ≤ 32768) (hat : a0 ≤ t0) (hto : t0 ≤ s.size) :
    Calls Tryz.prog 24 #[.string s, .int .i64 (a0 : Int), .int .i64 (t0 : Int)] w fun e w' => ∃ v, e = .returned (.tuple #[v, .int .i64 ((splitL a0 t0 ((s.data.toList.take t0).drop a0)).2 : Int)]) ∧
      RowF w.heap.size v (splitL a0 t0 ((s.data.toList.take t0).drop a0)).1 w' ∧ Below w.heap.size w w' := by
  have g0 : ¬ (a0 : Int) < 0 := by omega
  have g1 : ¬ (t0 : Int) < (a0 : Int) := by omega
  have g2 : ¬ (s.size : Int) < (t0 : Int) := by omega
  go_enter Tryz.func24, Tryz.ntmps24
  go_wp2_with fail
  refine (rlines_any s a0 t0 w (by omega) hat hto).mono ?_
  rintro e w1 ⟨lv, ls, rfl, hrow, hls, hb1⟩
  have HLS := Lib.hid hls
  have HLEN : Hid (ls.length ≤ 32769) := Lib.hid (by
    have h1 := congrArg List.length hls
    rw [List.length_map] at h1
    have h2 := linesG_count ((s.data.toList.take t0).drop a0) [] a0
    rw [span_len s a0 t0 hat hto] at h2
    unfold linesL at h1
    omega)
  have HTXT : Hid (∀ x ∈ ls, (tx3 x).length ≤ 32768) := Lib.hid (fun x hx => by
    have h1 : x.2 ∈ linesL a0 ((s.data.toList.take t0).drop a0) := by rw [← hls]; exact List.mem_map_of_mem hx
    have h2 := (linesG_le _ _ _ _ h1).2
    rw [span_len s a0 t0 hat hto] at h2
    unfold tx3
    simp at h2
    omega)
  obtain ⟨la, lc, rfl⟩ := Rw.form hrow
  have hS0 : S1 w.heap.size w ls (.slice la ls.length lc) (.slice none 0 0) 0 w1 := ⟨hrow, RowT.new _ _, by simp, hb1⟩
  clear hrow hls hb1
  go_upto_block 0 with fail
  have HS0 := Lib.hid hS0
  clear hS0
  go_cut [8, 9, 11, 12] from 36 to 82 (fun tv bd _ _ wx => ∃ (W : World) (ts : List (List UInt8)) (b : Nat), RowT w.heap.size tv ts W ∧ bd = .int .i64 (b : Int) ∧ Hid ((ts.flatMap oneL, b) = splitL a0 t0 ((s.data.toList.take t0).drop a0)) ∧ Hid (ts.length ≤ 32769 ∧ ∀ x ∈ ts, x.length ≤ 1073774592) ∧ Below w.heap.size w W ∧ W = wx)
  case first =>
    go_wp2_with fail
    go_loopw [8, 9, 11] (fun v bd i wr => ∃ (q : Nat) (tv : Value), tv = v ∧ bd = .int .i64 (t0 : Int) ∧ q ≤ ls.length ∧ i = .int .i64 (q : Int) ∧ S1 w.heap.size w ls (.slice la ls.length lc) tv q wr) (fun _ _ i _ => ls.length - (intOf i).toNat)
    case atStart => exact ⟨0, _, rfl, rfl, Nat.zero_le _, rfl, HS0.out⟩
    case round =>
      obtain ⟨q, tv, rfl, rfl, hq, rfl, hS⟩ := hrel
      have HS := Lib.hid hS
      clear hS
      have HSM : Hid ((texL ((ls.take q).map tx3)).length ≤ 32769 ∧ ∀ x ∈ texL ((ls.take q).map tx3), x.length ≤ 1073774592) := Lib.hid (by
        have h1 := tex_count ((ls.take q).map tx3) []
        have h2 := HLEN.out
        have h3 := tex_le (M := 32768) (ls := (ls.take q).map tx3) (fun t ht => by
          obtain ⟨y, hy, rfl⟩ := List.mem_map.1 ht
          exact HTXT.out y (List.mem_of_mem_take hy))
        rw [List.length_map, List.length_take, List.length_nil] at h1
        rw [List.length_map, List.length_take] at h3
        refine ⟨by unfold texL; omega, fun x hx => Nat.le_trans (h3 x hx) ?_⟩
        refine Nat.le_trans (Nat.mul_le_mul_right 32768 (show min q ls.length ≤ 32769 by omega)) (by decide))
      have gls : (ls.length : Int) ≤ 32769 := by have := HLEN.out; omega
      by_cases hlt : q < ls.length
      · have g3 : (q : Int) < (ls.length : Int) := by omega
        obtain ⟨g, cap, hv, c1, c2⟩ := HS.out.ln.at q hlt
        injection hv with e1 _ e3
        subst e1 e3
        have HTK : Hid ((ls.take (q + 1)).map tx3 = (ls.take q).map tx3 ++ [tx3 ls[q]]) := Lib.hid (by rw [List.take_succ_eq_append_getElem hlt, List.map_append]; rfl)
        obtain ⟨Tb, hTb⟩ : ∃ Tb : ByteArray, (⟨(ls[q].2.1).toArray⟩ : ByteArray) = Tb := ⟨_, rfl⟩
        have HTB : Hid (tx3 ls[q] = Tb.data.toList) := Lib.hid (by rw [← hTb]; rfl)
        unfold sV at c1
        rw [hTb] at c1
        obtain ⟨nx, hnx⟩ : ∃ nx, ls[q].2.2 = nx := ⟨_, rfl⟩
        rw [hnx] at c2
        have HNX := Lib.hid hnx
        have gTb : (Tb.size : Int) ≤ 32768 := by
          have h1 := HTXT.out ls[q] (List.getElem_mem hlt)
          rw [HTB.out, ← Lib.size_eq] at h1
          omega
        clear hTb hnx
        by_cases h0 : Tb.size = 0
        · have hte := toList_nil h0
          have HEND : Hid (((texL ((ls.take q).map tx3)).flatMap oneL, nx) = splitL a0 t0 ((s.data.toList.take t0).drop a0)) := Lib.hid (by
            have h1 : ls.map (·.2) = (ls.take q).map (·.2) ++ ([], nx) :: (ls.drop (q + 1)).map (·.2) := by
              conv => lhs; rw [← List.take_append_drop q ls, List.map_append, List.drop_eq_getElem_cons hlt, List.map_cons]
              congr 2
              exact Prod.ext (by have := HTB.out; unfold tx3 at this; rw [this]; exact List.length_eq_zero_iff.1 (by rw [← Lib.size_eq]; exact h0)) HNX.out
            unfold splitL
            rw [← HLS.out, h1, fields_stop (fun x hx => by obtain ⟨y, hy, rfl⟩ := List.mem_map.1 hx; exact HS.out.ne y hy), tex_end, List.map_map]
            rfl)
          clear h0
          go_wp2_with fail
          go_meet
          exact ⟨_, _, nx, HS.out.tx, rfl, HEND, HSM, HS.out.below, rfl⟩
        · have hte := toList_isEmpty h0
          have HNE2 : Hid (∀ x ∈ ls.take (q + 1), tx3 x ≠ []) := Lib.hid (fun x hx => by
            rw [List.take_succ_eq_append_getElem hlt] at hx
            rcases List.mem_append.1 hx with h | h
            · exact HS.out.ne x h
            · simp only [List.mem_singleton] at h
              rw [h, HTB.out]
              exact data_ne h0)
          have hpos : 0 < Tb.size := Nat.pos_of_ne_zero h0
          obtain ⟨c, r, hcr, hc', _⟩ := drop_one Tb hpos
          have HGO : Hid (goesL (tx3 ls[q]) = blk c) := Lib.hid (by rw [HTB.out, hcr, goes_cons, blk_eq])
          clear hcr h0
          by_cases hq0 : q = 0
          · have g4 : ¬ (0 : Int) < (q : Int) := by omega
            have HPUT : Hid (goesL (tx3 ls[q]) = false ∨ texL ((ls.take q).map tx3) = []) := Lib.hid (Or.inr (by rw [hq0]; rfl))
            clear hq0
            have hnew : Hid (texL ((ls.take (q + 1)).map tx3) = texL ((ls.take q).map tx3) ++ [Tb.data.toList]) := Lib.hid (by
              rw [HTK.out, texL_snoc, putT_new HPUT.out, HTB.out])
            have hrow3 : RowT w.heap.size tv (texL ((ls.take q).map tx3)) (wr.alloc (.cells #[.string Tb] 9)) := Rw.below HS.out.tx ((Below.refl _ wr).alloc (Nat.le_refl _) _)
            have hln3 : RowL w.heap.size (.slice (some ⟨g, 0, none⟩) ls.length lc) ls (wr.alloc (.cells #[.string Tb] 9)) := Rw.below HS.out.ln ((Below.refl _ wr).alloc (Nat.le_refl _) _)
            have hB3 : w.heap.size ≤ (wr.alloc (.cells #[.string Tb] 9)).heap.size := Nat.le_trans HS.out.below.size (by simp)
            obtain ⟨TS, hTS⟩ : ∃ TS, texL ((ls.take q).map tx3) = TS := ⟨_, rfl⟩
            rw [hTS] at hrow3 hnew
            have hTSl : TS.length ≤ 1099511627776 := by
              rw [← hTS]
              have h1 := tex_count ((ls.take q).map tx3) []
              rw [List.length_map, List.length_take, List.length_nil] at h1
              have h2 := HLEN.out
              unfold texL
              omega
            have HROW3 := Lib.hid (And.intro hrow3 (And.intro hB3 hTSl))
            have HLN3 := Lib.hid hln3
            have hblk := Lib.hid (text_block wr Tb)
            clear hTS hrow3 hB3 hTSl hln3
            go_wp2_with (at_builtin; refine RowT.app rfl _ _ rfl w.heap.size _ tv TS HROW3.out.1 Tb.data.toList wr.heap.size 1 hblk.out rfl rfl HROW3.out.2.2 HROW3.out.2.1 ?_)
            intro g5 c5 w5 hrow5 hg5 hat5
            have HR5 := Lib.hid hrow5
            have hb5 : Below w.heap.size w w5 := (HS.out.below.alloc HS.out.below.size _).grown hg5 HROW3.out.2.1 (fun j hj => (Rw.block HROW3.out.1 hj).1)
            have hln5 : RowL w.heap.size (.slice (some ⟨g, 0, none⟩) ls.length lc) ls w5 := Rw.keep HLN3.out (fun j hj hl => hg5.block j hl (fun e => rows_ne HLN3.out HROW3.out.1 typeLT hj e.symm))
            have HS5 : Hid (S1 w.heap.size w ls (.slice (some ⟨g, 0, none⟩) ls.length lc) (.slice (some ⟨g5, 0, none⟩) (TS.length + 1) c5) (q + 1) w5) := Lib.hid ⟨hln5, by rw [hnew.out]; exact HR5.out, HNE2.out, hb5⟩
            clear hrow5 hg5 hat5 hb5 hln5
            go_wp2_with fail
            go_roundw
            case rel => exact ⟨q + 1, _, rfl, rfl, by omega, by go_num, HS5.out⟩
            case measure => simp [intOf]; omega
          · have g4 : (0 : Int) < (q : Int) := by omega
            cases hb : blk c
            · have HPUT : Hid (goesL (tx3 ls[q]) = false ∨ texL ((ls.take q).map tx3) = []) := Lib.hid (Or.inl (by rw [HGO.out, hb]))
              rw [blk_eq] at hb
              have hb1 : c ≠ 32 := fun e => by rw [e] at hb; cases hb
              have hb2 : c ≠ 9 := fun e => by rw [e] at hb; cases hb
              have hn1 : c.toNat ≠ 32 := fun e => hb1 (UInt8.toNat_inj.1 e)
              have hn2 : c.toNat ≠ 9 := fun e => hb2 (UInt8.toNat_inj.1 e)
              have q1 : ((c.toNat : Int) == 32) = false := by rw [beq_eq_false_iff_ne]; omega
              have q2 : ((c.toNat : Int) == 9) = false := by rw [beq_eq_false_iff_ne]; omega
              have q3 : ¬ (c.toNat : Int) = 32 := by omega
              clear hb hb1 hb2 hn1 hn2
              have hnew : Hid (texL ((ls.take (q + 1)).map tx3) = texL ((ls.take q).map tx3) ++ [Tb.data.toList]) := Lib.hid (by
                rw [HTK.out, texL_snoc, putT_new HPUT.out, HTB.out])
              have hrow3 : RowT w.heap.size tv (texL ((ls.take q).map tx3)) (wr.alloc (.cells #[.string Tb] 9)) := Rw.below HS.out.tx ((Below.refl _ wr).alloc (Nat.le_refl _) _)
              have hln3 : RowL w.heap.size (.slice (some ⟨g, 0, none⟩) ls.length lc) ls (wr.alloc (.cells #[.string Tb] 9)) := Rw.below HS.out.ln ((Below.refl _ wr).alloc (Nat.le_refl _) _)
              have hB3 : w.heap.size ≤ (wr.alloc (.cells #[.string Tb] 9)).heap.size := Nat.le_trans HS.out.below.size (by simp)
              obtain ⟨TS, hTS⟩ : ∃ TS, texL ((ls.take q).map tx3) = TS := ⟨_, rfl⟩
              rw [hTS] at hrow3 hnew
              have hTSl : TS.length ≤ 1099511627776 := by
                rw [← hTS]
                have h1 := tex_count ((ls.take q).map tx3) []
                rw [List.length_map, List.length_take, List.length_nil] at h1
                have h2 := HLEN.out
                unfold texL
                omega
              have HROW3 := Lib.hid (And.intro hrow3 (And.intro hB3 hTSl))
              have HLN3 := Lib.hid hln3
              have hblk := Lib.hid (text_block wr Tb)
              clear hTS hrow3 hB3 hTSl hln3
              go_wp2_with (at_builtin; refine RowT.app rfl _ _ rfl w.heap.size _ tv TS HROW3.out.1 Tb.data.toList wr.heap.size 1 hblk.out rfl rfl HROW3.out.2.2 HROW3.out.2.1 ?_)
              intro g5 c5 w5 hrow5 hg5 hat5
              have HR5 := Lib.hid hrow5
              have hb5 : Below w.heap.size w w5 := (HS.out.below.alloc HS.out.below.size _).grown hg5 HROW3.out.2.1 (fun j hj => (Rw.block HROW3.out.1 hj).1)
              have hln5 : RowL w.heap.size (.slice (some ⟨g, 0, none⟩) ls.length lc) ls w5 := Rw.keep HLN3.out (fun j hj hl => hg5.block j hl (fun e => rows_ne HLN3.out HROW3.out.1 typeLT hj e.symm))
              have HS5 : Hid (S1 w.heap.size w ls (.slice (some ⟨g, 0, none⟩) ls.length lc) (.slice (some ⟨g5, 0, none⟩) (TS.length + 1) c5) (q + 1) w5) := Lib.hid ⟨hln5, by rw [hnew.out]; exact HR5.out, HNE2.out, hb5⟩
              clear hrow5 hg5 hat5 hb5 hln5
              go_wp2_with fail
              go_roundw
              case rel => exact ⟨q + 1, _, rfl, rfl, by omega, by go_num, HS5.out⟩
              case measure => simp [intOf]; omega
            · have hne : texL ((ls.take q).map tx3) ≠ [] := texL_ne (fun e => by
                have := congrArg List.length e
                rw [List.length_map, List.length_take, List.length_nil] at this
                omega)
              obtain ⟨ps, j, hpj⟩ := snocT _ hne
              have hrow := HS.out.tx
              have hjs : j.length ≤ 1073774592 := HSM.out.2 j (by rw [hpj]; simp)
              have hpl : ps.length + 1 ≤ 32769 := by have := HSM.out.1; rw [hpj] at this; simpa using this
              rw [hpj] at hrow
              obtain ⟨gt, tcap, hv, ct, ft⟩ := hrow.at ps.length (by simp)
              subst hv
              have hnew : Hid (texL ((ls.take (q + 1)).map tx3) = ps ++ [j ++ Tb.data.toList]) := Lib.hid (by
                rw [HTK.out, texL_snoc, hpj, HTB.out, putT_on _ _ _ (by rw [← HTB.out, HGO.out, hb])])
              have HROW := Lib.hid hrow
              have hgt : w.heap.size ≤ gt := (Rw.block hrow rfl).1
              have HLN6 : Hid (∀ u, RowL w.heap.size (.slice (some ⟨g, 0, none⟩) ls.length lc) ls (wr.setCell ⟨gt, ps.length, none⟩ u)) := Lib.hid (fun u => Rw.keep HS.out.ln (fun j hj hl => Below.heap_setCell _ _ _ _ (fun e => rows_ne HS.out.ln HROW.out typeLT hj (by rw [e]; rfl))))
              have HJT : Hid (sV (j ++ Tb.data.toList) = .string ((⟨j.toArray⟩ : ByteArray) ++ Tb)) := Lib.hid (by
                unfold sV
                exact congrArg Value.string (Kit.bytes_ext (by rw [Joins.data_append])))
              have HS6 : Hid (S1 w.heap.size w ls (.slice (some ⟨g, 0, none⟩) ls.length lc) (.slice (some ⟨gt, 0, none⟩) (ps.length + 1) tcap) (q + 1) (wr.setCell ⟨gt, ps.length, none⟩ (.string ((⟨j.toArray⟩ : ByteArray) ++ Tb)))) := Lib.hid ⟨HLN6.out _, by
                  rw [hnew.out, ← HJT.out]
                  have h1 := HROW.out.setLast (j ++ Tb.data.toList)
                  rw [List.length_append, List.length_singleton] at h1
                  exact h1, HNE2.out, HS.out.below.setCell (p := ⟨gt, ps.length, none⟩) hgt _⟩
              have gps : (ps.length : Int) ≤ 32769 := by omega
              have gjs : (j.length : Int) ≤ 1073774592 := by omega
              have hcl : (ps ++ [j]).length = ps.length + 1 := by simp
              have hget : (ps ++ [j])[ps.length]'(by simp) = j := by simp
              rw [hget] at ct
              unfold sV at ct
              rw [blk_eq] at hb
              clear hrow hpj hne hjs hpl hget
              by_cases h32 : c = 32
              · subst h32
                go_wp2_with fail
                go_roundw
                case rel => exact ⟨q + 1, _, rfl, rfl, by omega, by go_num, HS6.out⟩
                case measure => simp [intOf]; omega
              · have hb2 : c = 9 := by
                  rw [Bool.or_eq_true, beq_iff_eq, beq_iff_eq] at hb
                  rcases hb with e | e
                  · exact absurd e h32
                  · exact e
                subst hb2
                clear h32
                go_wp2_with fail
                go_roundw
                case rel => exact ⟨q + 1, _, rfl, rfl, by omega, by go_num, HS6.out⟩
                case measure => simp [intOf]; omega
      · have g3 : ¬ (q : Int) < (ls.length : Int) := by omega
        have HEND : Hid (((texL ((ls.take q).map tx3)).flatMap oneL, t0) = splitL a0 t0 ((s.data.toList.take t0).drop a0)) := Lib.hid (by
          have h1 : ls.take q = ls := List.take_of_length_le (by omega)
          unfold splitL
          rw [← HLS.out, fields_all (fun x hx => by obtain ⟨y, hy, rfl⟩ := List.mem_map.1 hx; exact HS.out.ne y (by rw [h1]; exact hy)), tex_end, h1, List.map_map]
          rfl)
        go_wp2_with fail
        go_meet
        exact ⟨_, _, t0, HS.out.tx, rfl, HEND, HSM, HS.out.below, rfl⟩
  case rest =>
    obtain ⟨W, ts, b, hrow, rfl, HEQ, HSM, hb, rfl⟩ := hcut
    obtain ⟨ta, tcap, rfl⟩ := Rw.form hrow
    have gtl : (ts.length : Int) ≤ 32769 := by have := HSM.out.1; omega
    have HR0 := Lib.hid (And.intro hrow hb)
    clear hrow hb
    go_wp2_with fail
    go_loopw [13, 14] (fun ov i wr => ∃ (q : Nat) (fv : Value), fv = ov ∧ q ≤ ts.length ∧ i = .int .i64 (q : Int) ∧ RowF w.heap.size fv ((ts.take q).flatMap oneL) wr ∧ RowT w.heap.size (.slice ta ts.length tcap) ts wr ∧ Below w.heap.size w wr) (fun _ i _ => ts.length - (intOf i).toNat)
    case atStart => exact ⟨0, _, rfl, Nat.zero_le _, rfl, RowF.new _ _, HR0.out.1, HR0.out.2⟩
    case round =>
      obtain ⟨q, fv, rfl, hq, rfl, hF, hT, hb⟩ := hrel
      have HF := Lib.hid hF
      have HT := Lib.hid hT
      have HB := Lib.hid hb
      clear hF hb
      by_cases hlt : q < ts.length
      · have g3 : (q : Int) < (ts.length : Int) := by omega
        obtain ⟨g, cap, hv, c1, _⟩ := hT.at q hlt
        injection hv with e1 _ e3
        subst e1 e3
        clear hT
        obtain ⟨U, hU⟩ : ∃ U : ByteArray, (⟨(ts[q]).toArray⟩ : ByteArray) = U := ⟨_, rfl⟩
        have hUl : ts[q] = U.data.toList := by rw [← hU]
        unfold sV at c1
        rw [hU] at c1
        have hUs : U.size ≤ 1073774592 := by rw [Lib.size_eq, ← hUl]; exact HSM.out.2 _ (List.getElem_mem hlt)
        have HUS := Lib.hid hUs
        have HTK : Hid ((ts.take (q + 1)).flatMap oneL = (ts.take q).flatMap oneL ++ oneL U.data.toList) := Lib.hid (by rw [List.take_succ_eq_append_getElem hlt, List.flatMap_append, hUl]; simp)
        have HFL : Hid (((ts.take q).flatMap oneL).length ≤ 1099511627776) := Lib.hid (by
          have h1 : ∀ l : List (List UInt8), (l.flatMap oneL).length ≤ l.length := by
            intro l
            induction l with
            | nil => simp
            | cons a r ih => rw [List.flatMap_cons, List.length_append, List.length_cons]; have := oneL_le a; omega
          have h2 := h1 (ts.take q)
          have h3 := HSM.out.1
          rw [List.length_take] at h2
          omega)
        clear hU hUl hUs
        go_wp2_with fail
        refine (made_any U wr (Nat.le_trans HUS.out (by decide))).mono ?_
        rintro e w2 ⟨rfl, hb2⟩
        have HF2 := Lib.hid (HF.out.below hb2)
        have HT2 : Hid (RowT w.heap.size (.slice (some ⟨g, 0, none⟩) ts.length tcap) ts w2) := Lib.hid (Rw.below HT.out hb2)
        have HB2 := Lib.hid (HB.out.trans (hb2.mono HB.out.size))
        have c2 := (hb2.cell (p := ⟨g, q, none⟩) (cell_lt c1)).trans c1
        clear hb2 c1
        cases hf : fieldL U.data.toList with
        | none =>
          have HON : Hid ((ts.take (q + 1)).flatMap oneL = (ts.take q).flatMap oneL) := Lib.hid (by rw [HTK.out]; unfold oneL; rw [hf]; simp)
          clear hf
          unfold fV
          go_wp2_with fail
          go_roundw
          case rel => exact ⟨q + 1, _, rfl, by omega, by go_num, by rw [HON.out]; exact HF2.out.below ((Below.refl _ _).alloc (Nat.le_refl _) _), Rw.below HT2.out ((Below.refl _ _).alloc (Nat.le_refl _) _), HB2.out.alloc HB2.out.size _⟩
          case measure => simp [intOf]; omega
        | some f =>
          obtain ⟨fn, fw⟩ := f
          have HON : Hid ((ts.take (q + 1)).flatMap oneL = (ts.take q).flatMap oneL ++ [(fn, fw)]) := Lib.hid (by rw [HTK.out]; unfold oneL; rw [hf]; rfl)
          obtain ⟨c, r, hcr, hc1, hc2⟩ := field_head hf
          have hpos : 0 < U.size := by rw [Lib.size_eq, hcr]; simp
          obtain ⟨c', r', hcr', hc', _⟩ := drop_one U hpos
          obtain rfl : c' = c := by rw [hcr] at hcr'; exact (List.cons.inj hcr').1.symm
          have q1 : ((c'.toNat : Int) != 32) = true := by simp; omega
          have q2 : ((c'.toNat : Int) != 9) = true := by simp; omega
          have q3 : ¬ (c'.toNat : Int) = 32 := by omega
          have q4 : ¬ (c'.toNat : Int) = 9 := by omega
          clear hf hcr hcr' hc1 hc2
          unfold fV sV
          have hF3 : RowF w.heap.size fv ((ts.take q).flatMap oneL) ((w2.alloc (.cells #[.string ⟨fn.toArray⟩, .string ⟨fw.toArray⟩] 74)).alloc (.cells #[.string ⟨fn.toArray⟩, .string ⟨fw.toArray⟩] 74)) := HF2.out.below (((Below.refl _ _).alloc (Nat.le_refl _) _).alloc (by simp) _)
          have hT3 : RowT w.heap.size (.slice (some ⟨g, 0, none⟩) ts.length tcap) ts ((w2.alloc (.cells #[.string ⟨fn.toArray⟩, .string ⟨fw.toArray⟩] 74)).alloc (.cells #[.string ⟨fn.toArray⟩, .string ⟨fw.toArray⟩] 74)) := Rw.below HT2.out (((Below.refl _ _).alloc (Nat.le_refl _) _).alloc (by simp) _)
          have hB3 : w.heap.size ≤ ((w2.alloc (.cells #[.string ⟨fn.toArray⟩, .string ⟨fw.toArray⟩] 74)).alloc (.cells #[.string ⟨fn.toArray⟩, .string ⟨fw.toArray⟩] 74)).heap.size := Nat.le_trans HB2.out.size (by simp; omega)
          have hb3 : Below w.heap.size w ((w2.alloc (.cells #[.string ⟨fn.toArray⟩, .string ⟨fw.toArray⟩] 74)).alloc (.cells #[.string ⟨fn.toArray⟩, .string ⟨fw.toArray⟩] 74)) := (HB2.out.alloc HB2.out.size _).alloc (Nat.le_trans HB2.out.size (by simp)) _
          have hblk2 : ((w2.alloc (.cells #[.string ⟨fn.toArray⟩, .string ⟨fw.toArray⟩] 74)).alloc (.cells #[.string ⟨fn.toArray⟩, .string ⟨fw.toArray⟩] 74)).heap[w2.heap.size + 1]? = some (.cells #[sV (fn, fw).1, sV (fn, fw).2] 74 (0, 0)) := Bld.at_size (by simp)
          have c3 : (w2.alloc (.cells #[.string ⟨fn.toArray⟩, .string ⟨fw.toArray⟩] 74)).cell? ⟨g, q, none⟩ = some (.string U) := (((Below.refl _ w2).alloc (Nat.le_refl _) _).cell (p := ⟨g, q, none⟩) (cell_lt c2)).trans c2
          have HX := Lib.hid (And.intro hF3 (And.intro hT3 (And.intro hB3 (And.intro hb3 hblk2))))
          clear hF3 hT3 hB3 hb3 hblk2
          obtain ⟨FS, hFS⟩ : ∃ FS, (ts.take q).flatMap oneL = FS := ⟨_, rfl⟩
          rw [hFS] at HX HFL HON
          go_wp2_with (at_builtin; refine RowF.app rfl _ _ rfl w.heap.size _ fv FS HX.out.1 (fn, fw) _ 1 HX.out.2.2.2.2 rfl rfl HFL.out HX.out.2.2.1 ?_)
          intro g5 c5 w5 hrow5 hg5 hat5
          have HR5 := Lib.hid hrow5
          have hT5 : RowT w.heap.size (.slice (some ⟨g, 0, none⟩) ts.length tcap) ts w5 := Rw.keep HX.out.2.1 (fun j hj hl => hg5.block j hl (fun e => rows_ne HX.out.2.1 HX.out.1 (by decide) hj e.symm))
          have hb5 : Below w.heap.size w w5 := HX.out.2.2.2.1.grown hg5 HX.out.2.2.1 (fun j hj => (Rw.block HX.out.1 hj).1)
          have HZ := Lib.hid (And.intro hT5 hb5)
          clear hrow5 hg5 hat5 hT5 hb5 hFS
          go_wp2_with fail
          go_roundw
          case rel => exact ⟨q + 1, _, rfl, by omega, by go_num, by rw [HON.out]; exact HR5.out, HZ.out.1, HZ.out.2⟩
          case measure => simp [intOf]; omega
      · have g3 : ¬ (q : Int) < (ts.length : Int) := by omega
        have HALL : Hid (RowF w.heap.size fv (splitL a0 t0 ((s.data.toList.take t0).drop a0)).1 wr) := Lib.hid (by
          rw [← HEQ.out]
          have h1 := HF.out
          rwa [List.take_of_length_le (by omega)] at h1)
        have HBQ : Hid ((splitL a0 t0 ((s.data.toList.take t0).drop a0)).2 = b) := Lib.hid (by rw [← HEQ.out])
        clear hT
        go_wp2_with fail
        go_ret2
        rw [HBQ.out]
        exact ⟨_, rfl, HALL.out, HB.out⟩
end Go.Proofs.YtnnbbjdidbggmaaGreatDoor.F0
namespace Go.Proofs.YtnnbbjdidbggmaaGreatDoor.F0
open Go Go.RowKit Go.Joins Kit

/-- The k-th field's two cells. -/
theorem FAt.cell2 {w : World} {a : Option Addr} {n cap : Nat} {fs : List Fl} (h : FAt w (.slice a n cap) fs) {k : Nat} (hk : k < fs.length) : ∃ g o, a = some ⟨g, o, none⟩ ∧ g < w.heap.size ∧ w.cell? ⟨g, o + k * 2, none⟩ = some (.string ⟨fs[k].1.toArray⟩) ∧ w.cell? ⟨g, o + k * 2 + 1, none⟩ = some (.string ⟨fs[k].2.toArray⟩) := by
  obtain ⟨a2, cap2, he, hc⟩ := h.form
  injection he with e1 _ _
  subst e1
  obtain ⟨g, o, ha, c0, c1⟩ := hc k hk
  exact ⟨g, o, ha, cell_lt c0, c0, c1⟩
theorem FAt.len {w : World} {a : Option Addr} {n cap : Nat} {fs : List Fl} (h : FAt w (.slice a n cap) fs) : n = fs.length := by
  obtain ⟨a2, cap2, he, _⟩ := h.form
  injection he with _ e2 _

end Go.Proofs.YtnnbbjdidbggmaaGreatDoor.F0
namespace Go.Proofs.YtnnbbjdidbggmaaGreatDoor.F0
open Go Go.RowKit Go.Joins Kit

theorem rfold_call (l : List UInt8) (w : World) (hs : l.length ≤ 140737488351232) :
    Calls Tryz.prog 87 #[.string ⟨l.toArray⟩] w fun e w' => e = .returned (.string ⟨(Tx.foldL l).toArray⟩) ∧ Below w.heap.size w w' := Rf.fold_call ⟨l.toArray⟩ w (by rw [Lib.size_mk]; omega)

set_option maxHeartbeats 1000000 in
set_option maxRecDepth 100000 in
theorem rfirst_any (v : Value) (fs : List Fl) (name : ByteArray) (w : World) (hv : FAt w v fs) (hsz : ∀ f ∈ fs, f.1.length ≤ 140737488351232 ∧ f.2.length ≤ 140737488351232) (hn : name.size ≤ 140737488351232) (hc : fs.length ≤ 140737488351232) :
    Calls Tryz.prog 84 #[v, .string name] w fun e w' => e = .returned (oV (firstL fs name.data.toList)) ∧ Below w.heap.size w w' := by
  have HV := Lib.hid hv
  have HSZ := Lib.hid hsz
  obtain ⟨a, cap, rfl, _⟩ := hv.form
  clear hv hsz
  obtain ⟨nl, hnl⟩ : ∃ nl, name.data.toList = nl := ⟨_, rfl⟩
  obtain rfl : name = ⟨nl.toArray⟩ := Kit.bytes_ext hnl
  rw [show (ByteArray.mk nl.toArray).data.toList = nl from rfl]
  have hn2 : nl.length ≤ 140737488351232 := by rw [Lib.size_mk] at hn; exact hn
  clear hnl hn
  go_enter Tryz.func84, Tryz.ntmps84
  go_wp2_with fail
  go_loopw [6] (fun i wr => ∃ k : Nat, k ≤ fs.length ∧ i = .int .i64 (k : Int) ∧ Hid (firstL (fs.drop k) nl = firstL fs nl) ∧ Below w.heap.size w wr) (fun i _ => fs.length - (intOf i).toNat)
  case atStart => exact ⟨0, Nat.zero_le _, rfl, Lib.hid rfl, Below.refl _ _⟩
  case round =>
    obtain ⟨k, hk, rfl, hfi, hb⟩ := hrel
    by_cases hlt : k < fs.length
    · have g1 : (k : Int) < (fs.length : Int) := by omega
      obtain ⟨g, o, rfl, _, c0, c1⟩ := HV.out.cell2 hlt
      have d0 := (hb.cell (p := ⟨g, o + k * 2, none⟩) (cell_lt c0)).trans c0
      have HD1 := Lib.hid ((hb.cell (p := ⟨g, o + k * 2 + 1, none⟩) (cell_lt c1)).trans c1)
      have hfk := Lib.hid (HSZ.out fs[k] (List.getElem_mem hlt))
      obtain ⟨nm, hnm⟩ : ∃ nm, fs[k].1 = nm := ⟨_, rfl⟩
      obtain ⟨vl, hvl⟩ : ∃ vl, fs[k].2 = vl := ⟨_, rfl⟩
      rw [hnm] at d0
      rw [hvl] at HD1
      have HNM := Lib.hid (And.intro hnm hvl)
      have hnms : nm.length ≤ 140737488351232 := by rw [← hnm]; exact hfk.out.1
      clear c0 c1 hnm hvl
      go_wp2_with fail
      refine (rfold_call nm _ hnms).mono ?_
      rintro e w2 ⟨rfl, hb2⟩
      go_wp2_with fail
      refine (rfold_call nl _ hn2).mono ?_
      rintro e w3 ⟨rfl, hb3⟩
      have hb4 : Below wr.heap.size wr w3 := hb2.trans (hb3.mono hb2.size)
      have hb5 : Below w.heap.size w w3 := hb.trans (hb4.mono hb.size)
      have e1 := (hb4.cell (p := ⟨g, o + k * 2 + 1, none⟩) (cell_lt HD1.out)).trans HD1.out
      clear hb2 hb3 hb4 d0
      by_cases he : Tx.foldL nm = Tx.foldL nl
      · have hq : (Tx.foldL nm == Tx.foldL nl) = true := by rw [he]; simp
        have hhit : Hid (firstL fs nl = some (nm, vl)) := Lib.hid (by
          rw [← hfi.out, first_drop_hit hlt (by rw [HNM.out.1]; exact he)]
          exact congrArg some (Prod.ext HNM.out.1 HNM.out.2))
        clear he
        go_wp2_with fail
        go_ret2
        rw [hhit.out]
        exact ⟨rfl, hb5⟩
      · have hq : (Tx.foldL nm == Tx.foldL nl) = false := by simpa using he
        have hmiss : Hid (firstL (fs.drop (k + 1)) nl = firstL fs nl) := Lib.hid (by
          rw [← hfi.out, first_drop_miss hlt (by rw [HNM.out.1]; exact he)])
        clear he
        go_wp2_with fail
        go_roundw
        case rel => exact ⟨k + 1, by omega, by go_num, hmiss, hb5⟩
        case measure => simp [intOf]; omega
    · have g1 : ¬ (k : Int) < (fs.length : Int) := by omega
      have hno : Hid (firstL fs nl = none) := Lib.hid (by rw [← hfi.out, List.drop_of_length_le (by omega)]; rfl)
      go_wp2_with fail
      go_ret2
      rw [hno.out]
      exact ⟨rfl, hb⟩
end Go.Proofs.YtnnbbjdidbggmaaGreatDoor.F0
namespace Go.Proofs.YtnnbbjdidbggmaaGreatDoor.Pt
open Go F0

abbrev Rd := Nat → Nat → Nat → P × Nat
theorem foldK_full (rd : Rd) : ∀ (l : List (Nat × Nat)) (m : Nat) (_ : ¬ m < 30), foldK rd l m = ([], m)
  | [], m, _ => by rw [foldK]
  | (f, e) :: r, m, h => by rw [foldK, if_neg h]
def afterK (rd : Rd) (bd s : List UInt8) (b : Nat) (o : Option Nat) (p : Nat) (l : List Tl) (m : Nat) : List P × Nat := foldK rd (kidsG bd s b o p (l.map (·.2))) m
/-- A kid more, if there may be one. -/
def kidS (rd : Rd) (f e : Nat) (ks : List P) (m : Nat) : List P × Nat := if m < 30 then (ks ++ [(rd f e (m + 1)).1], (rd f e (m + 1)).2) else (ks, m)
/-- What is read so far, and what is left. -/
def InvK (TOT : List P × Nat) (rd : Rd) (bd s : List UInt8) (b : Nat) (ks : List P) (o : Option Nat) (p : Nat) (l : List Tl) (m : Nat) : Prop :=
  TOT = (ks ++ (afterK rd bd s b o p l m).1, (afterK rd bd s b o p l m).2)
variable {TOT : List P × Nat} {rd : Rd} {bd s : List UInt8} {b : Nat} {ks : List P} {o : Option Nat} {p m : Nat} {l : List Tl} {x : Tl} {f : Nat}
theorem fold_kid (f e : Nat) (r : List (Nat × Nat)) : (ks ++ (foldK rd ((f, e) :: r) m).1, (foldK rd ((f, e) :: r) m).2) = ((kidS rd f e ks m).1 ++ (foldK rd r (kidS rd f e ks m).2).1, (foldK rd r (kidS rd f e ks m).2).2) := by
  unfold kidS
  rw [foldK]
  split
  · simp
  · rename_i h
    simp only
    rw [foldK_full rd r m h]
theorem fold_kid1 (f e : Nat) : (ks ++ (foldK rd [(f, e)] m).1, (foldK rd [(f, e)] m).2) = kidS rd f e ks m := by
  unfold kidS
  rw [foldK]
  split <;> simp [foldK]
theorem inv_other (h : InvK TOT rd bd s b ks o p (x :: l) m) (h1 : isMark bd x.2.1 = false) (h2 : isLast bd x.2.1 = false) : InvK TOT rd bd s b ks o x.2.2 l m := by
  obtain ⟨at_, t, nx⟩ := x
  unfold InvK afterK at h ⊢
  rw [List.map_cons, kidsG, h1, h2] at h
  exact h
theorem inv_mark0 (h : InvK TOT rd bd s b ks none p (x :: l) m) (h1 : isMark bd x.2.1 = true) : InvK TOT rd bd s b ks (some x.2.2) x.2.2 l m := by
  obtain ⟨at_, t, nx⟩ := x
  unfold InvK afterK at h ⊢
  rw [List.map_cons, kidsG, h1] at h
  exact h
theorem inv_mark1 (h : InvK TOT rd bd s b ks (some f) p (x :: l) m) (h1 : isMark bd x.2.1 = true) : InvK TOT rd bd s b (kidS rd f (backL s f p) ks m).1 (some x.2.2) x.2.2 l (kidS rd f (backL s f p) ks m).2 := by
  obtain ⟨at_, t, nx⟩ := x
  unfold InvK afterK at h ⊢
  rw [List.map_cons, kidsG, h1] at h
  rw [h]
  exact fold_kid f (backL s f p) _
theorem inv_last0 (h : InvK TOT rd bd s b ks none p (x :: l) m) (h1 : isMark bd x.2.1 = false) (h2 : isLast bd x.2.1 = true) : TOT = (ks, m) := by
  obtain ⟨at_, t, nx⟩ := x
  unfold InvK afterK at h
  rw [List.map_cons, kidsG, h1, h2] at h
  rw [h]
  simp [foldK]
theorem inv_last1 (h : InvK TOT rd bd s b ks (some f) p (x :: l) m) (h1 : isMark bd x.2.1 = false) (h2 : isLast bd x.2.1 = true) : TOT = kidS rd f (backL s f p) ks m := by
  obtain ⟨at_, t, nx⟩ := x
  unfold InvK afterK at h
  rw [List.map_cons, kidsG, h1, h2] at h
  rw [h]
  exact fold_kid1 f (backL s f p)
theorem inv_end0 (h : InvK TOT rd bd s b ks none p [] m) : TOT = (ks, m) := by
  unfold InvK afterK at h
  rw [List.map_nil, kidsG] at h
  rw [h]
  simp [foldK]
theorem inv_end1 (h : InvK TOT rd bd s b ks (some f) p [] m) : TOT = kidS rd f b ks m := by
  unfold InvK afterK at h
  rw [List.map_nil, kidsG] at h
  rw [h]
  exact fold_kid1 f b
end Go.Proofs.YtnnbbjdidbggmaaGreatDoor.Pt
namespace Go.Proofs.YtnnbbjdidbggmaaGreatDoor.Pt
open Go Go.RowKit Go.Joins Kit F0

theorem rfirst_call (v : Value) (fs : List Fl) (name : ByteArray) (w : World) (hv : FAt w v fs) (hsz : ∀ f ∈ fs, f.1.length ≤ 1073741824 ∧ f.2.length ≤ 1073741824) (hn : name.size ≤ 1073741824) (hc : fs.length ≤ 1073741824) :
    Calls Tryz.prog 84 #[v, .string name] w fun e w' => e = .returned (.tuple #[sV (fvL fs name.data.toList), .bool (fstL fs name.data.toList).isSome]) ∧ Below w.heap.size w w' := by
  refine (rfirst_any v fs name w hv (fun f hf => ⟨Nat.le_trans (hsz f hf).1 (by omega), Nat.le_trans (hsz f hf).2 (by omega)⟩) (by omega) (by omega)).mono ?_
  rintro e w' ⟨rfl, hb⟩
  refine ⟨?_, hb⟩
  have h : firstL fs name.data.toList = fstL fs name.data.toList := rfl
  rw [h]
  unfold fvL
  cases fstL fs name.data.toList <;> rfl
theorem pform {Q : Nat → Prop} {w : World} {j : P} {c0 c1 c2 c3 c4 c5 c6 c7 : Value} (h : PartAt Q w j (.agg #[c0, c1, c2, c3, c4, c5, c6, c7])) :
    ∃ x0 a1 l1 m1 x2 x3 x4 x5 x6 a7 m7, c0 = .string x0 ∧ c1 = .slice a1 l1 m1 ∧ c2 = .string x2 ∧ c3 = .bool x3 ∧ c4 = .int .i64 x4 ∧ c5 = .int .i64 x5 ∧ c6 = .int .i64 x6 ∧ c7 = .slice a7 j.kids.length m7 := by
  obtain ⟨ap, mp, ak, mk, e, _⟩ := part_cells h
  injection e with e
  injection e with e
  injection e with e0 e
  injection e with e1 e
  injection e with e2 e
  injection e with e3 e
  injection e with e4 e
  injection e with e5 e
  injection e with e6 e
  injection e with e7 e
  exact ⟨_, _, _, _, _, _, _, _, _, _, _, e0, e1, e2, e3, e4, e5, e6, e7⟩
def fromI : Option Nat → Int
  | none => -1
  | some f => (f : Int)
/-- What part answers. -/
def RPartOk (s : ByteArray) (d : Nat) : Prop := ∀ (a b n C : Nat) (w : World), a ≤ b → b ≤ s.size → n ≤ 29 → Ct s C n w →
  Calls Tryz.prog 50 #[.pointer (some ⟨C, 0, none⟩), .int .i64 (a : Int), .int .i64 (b : Int), .int .i64 (6 - (d : Int))] w fun e w' =>
    ∃ c0 c1 c2 c3 c4 c5 c6 c7, e = .returned (.agg #[c0, c1, c2, c3, c4, c5, c6, c7]) ∧ PartAt (fun g => w.heap.size ≤ g) w' (readL s.data.toList d a b (n + 1)).1 (.agg #[c0, c1, c2, c3, c4, c5, c6, c7]) ∧ Ct s C (readL s.data.toList d a b (n + 1)).2 w' ∧ Step C w w'

set_option maxHeartbeats 8000000 in
set_option maxRecDepth 100000 in
theorem rpart_in (s : ByteArray) (hs : s.size ≤ 32768) (d : Nat) (hd : d ≤ 6) (ih : ∀ d', d = d' + 1 → RPartOk s d') : RPartOk s d := by
  intro a b n C w hab hbs hn hCt
  have HIH := Lib.hid ih
  have hbl : b ≤ s.data.toList.length := by rw [← Lib.size_eq]; exact hbs
  have hsz1 := head_sizes (s := s.data.toList) (a := a) hbl
  have hts := type_sizes (s := s.data.toList) (a := a) hbl
  have hin := split_in (s := s.data.toList) hab hbl
  obtain ⟨H, hH⟩ : ∃ H, headL s.data.toList a b = H := ⟨_, rfl⟩
  rw [hH] at hsz1 hts hin
  obtain ⟨fs, body⟩ := H
  have HH := Lib.hid hH
  have HTS := Lib.hid hts
  have hsl : s.data.toList.length ≤ 32768 := by rw [← Lib.size_eq]; exact hs
  have hsz : ∀ f ∈ fs, f.1.length ≤ 1073741824 ∧ f.2.length ≤ 1073741824 := fun f hf => by have := hsz1.1 f hf; omega
  have hcn : fs.length ≤ 1073741824 := by have := hsz1.2; simp only at this; omega
  have HSZ := Lib.hid (And.intro hsz hcn)
  have hbd1 : a ≤ body := hin.1
  have hbd2 : body ≤ b := hin.2
  have HCT := Lib.hid hCt
  have HMK := Lib.hid (rp_made hCt ((n : Int) + 1) (by omega))
  have HSL := Lib.hid hsl
  clear ih hH hts hsz1 hin hsz hcn hsl hbl
  have hW0 : w.alloc (.cells #[.string ⟨#[]⟩, .slice none 0 0, .string ⟨#[]⟩, .bool false, .int .i64 0, .int .i64 0, .int .i64 0, .slice none 0 0] 42) = newP w := rfl
  have hC0 : Ct s C n (newP w) := hCt.below ((Below.refl _ w).alloc (Nat.le_refl _) _)
  have k0 := hC0.c0
  have k1 := hC0.c1
  have kf := hC0.free 1
  have hn1 : (n : Int) ≤ 29 := by omega
  have hCw := hCt.lt
  clear hCt hC0
  go_enter Tryz.func50, Tryz.ntmps50
  go_upto_region 2 with fail
  clear k0 k1 kf hW0
  obtain ⟨W1, hW1⟩ : ∃ W1, (newP w).setCell ⟨C, 1, none⟩ (.int .i64 ((n : Int) + 1)) = W1 := ⟨_, rfl⟩
  rw [hW1] at HMK ⊢
  clear hW1
  have k0 := HMK.out.1.c0
  go_wp2_with fail
  refine (rsplit_some s a b W1 hs hab hbs).mono ?_
  rintro e w2 ⟨v, rfl, hrow, hb2⟩
  rw [show splitL a b ((s.data.toList.take b).drop a) = (fs, body) from HH.out] at hrow ⊢
  have HR2 := Lib.hid hrow.at
  obtain ⟨va, vc, rfl, _⟩ := hrow.at.form
  have HC2 := Lib.hid (HMK.out.1.below hb2)
  have HZ2 := Lib.hid (HMK.out.2.1.same (hb2.block _ HMK.out.2.1.lt))
  have HS2 := Lib.hid (HMK.out.2.2.trans (Step.of_below hb2))
  have HRP := Lib.hid (rp_begin (c0 := .string ⟨#[116, 101, 120, 116, 47, 112, 108, 97, 105, 110]⟩) (c1 := .slice none 0 0) (c2 := .string ⟨#[55, 98, 105, 116]⟩) (c3 := .bool false) (c4 := .int .i64 (a : Int)) (c5 := .int .i64 (body : Int)) (c6 := .int .i64 (b : Int)) (c7 := .slice none 0 0) HC2.out HZ2.out HS2.out (Nat.le_refl _) hCw)
  have HB3 : Hid (Below w2.heap.size w2 (w2.alloc (.cells #[.string ⟨#[116, 101, 120, 116, 47, 112, 108, 97, 105, 110]⟩, .slice none 0 0, .string ⟨#[55, 98, 105, 116]⟩, .bool false, .int .i64 (a : Int), .int .i64 (body : Int), .int .i64 (b : Int), .slice none 0 0] 42))) := Lib.hid ((Below.refl _ w2).alloc (Nat.le_refl _) _)
  obtain ⟨W3, hW3⟩ : ∃ W3, w2.alloc (.cells #[.string ⟨#[116, 101, 120, 116, 47, 112, 108, 97, 105, 110]⟩, .slice none 0 0, .string ⟨#[55, 98, 105, 116]⟩, .bool false, .int .i64 (a : Int), .int .i64 (body : Int), .int .i64 (b : Int), .slice none 0 0] 42) = W3 := ⟨_, rfl⟩
  rw [hW3] at HRP HB3
  have HW3 := Lib.hid hW3
  clear hW3 hrow hb2 k0
  go_upto_region 4 with fail
  rw [HW3.out]
  obtain ⟨P, hP⟩ : ∃ P, w2.heap.size = P := ⟨_, rfl⟩
  obtain ⟨R, hR⟩ : ∃ R, w.heap.size = R := ⟨_, rfl⟩
  rw [hP, hR] at HRP
  rw [hP] at HB3
  rw [hP]
  (try rw [hR])
  have HF3 : Hid (∀ W, Below P w2 W → FAt W (.slice va fs.length vc) fs) := Lib.hid (fun W h => HR2.out.below (by rw [hP]; exact h))
  have HPR := Lib.hid (And.intro hP hR)
  clear hP hR
  have HF4 : Hid (Calls Tryz.prog 84 #[.slice va fs.length vc, .string ⟨#[67, 111, 110, 116, 101, 110, 116, 45, 84, 121, 112, 101]⟩] W3 fun e w' => e = .returned (.tuple #[sV (fvL fs ctypeT), .bool (fstL fs ctypeT).isSome]) ∧ Below W3.heap.size W3 w') :=
    Lib.hid (rfirst_call _ fs ⟨#[67, 111, 110, 116, 101, 110, 116, 45, 84, 121, 112, 101]⟩ W3 (HF3.out W3 HB3.out) HSZ.out.1 (by decide) HSZ.out.2)
  go_wp2_with fail
  refine (HF4.out).mono ?_
  rintro e w4 ⟨rfl, hb4⟩
  have HRP4 := Lib.hid (HRP.out.below hb4)
  have HB4 := Lib.hid (HB3.out.trans (hb4.mono (Nat.le_of_lt HRP.out.bp.lt)))
  have HVL : Hid ((fvL fs ctypeT).length ≤ 1073741824) := Lib.hid (fv_len HSZ.out.1 ctypeT)
  have HTY : Hid (typeL fs = if typedL (valuesL (fvL fs ctypeT)).1 then valuesL (fvL fs ctypeT) else (plainT, [])) := Lib.hid rfl
  have HOK : Hid ((fstL fs ctypeT).isSome = false → typedL (valuesL (fvL fs ctypeT)).1 = false) := Lib.hid (fun h => by
    have h2 : fvL fs ctypeT = [] := by unfold fvL; cases hx : fstL fs ctypeT with | none => rfl | some f => rw [hx] at h; cases h
    rw [h2]; decide)
  obtain ⟨X, hX⟩ : ∃ X, fvL fs ctypeT = X := ⟨_, rfl⟩
  rw [hX] at HVL HTY HOK ⊢
  obtain ⟨ok, hok⟩ : ∃ ok, (fstL fs ctypeT).isSome = ok := ⟨_, rfl⟩
  rw [hok] at HOK ⊢
  have HXX := Lib.hid hX
  clear hX hok hb4
  unfold sV
  go_wp2_with fail
  refine (rvalues_any ⟨X.toArray⟩ w4 (by rw [Lib.size_mk]; exact HVL.out)).mono ?_
  rintro e w5 ⟨pv, rfl, hrow5, hb5⟩
  rw [show (ByteArray.mk X.toArray).data.toList = X from rfl] at hrow5 ⊢
  obtain ⟨pa, pc, rfl⟩ := hrow5.form
  have HXL := Lib.hid (values_len X)
  obtain ⟨V, hV⟩ : ∃ V, valuesL X = V := ⟨_, rfl⟩
  rw [hV] at hrow5 HTY HOK HXL ⊢
  obtain ⟨V1, V2⟩ := V
  have HVV := Lib.hid hV
  have HRP' : Hid (R < P) := Lib.hid (by have h1 := HRP.out.hP; have h2 := HPR.out.2; have h3 := HRP.out.ne; omega)
  have HLP : Hid (R ≤ P) := Lib.hid (by have := HRP.out.hP; have := HPR.out.2; omega)
  have HRP5 := Lib.hid (HRP4.out.below hb5)
  have HB5 := Lib.hid (HB4.out.trans (hb5.mono (Nat.le_of_lt HRP4.out.bp.lt)))
  have HCV : Hid (CellsAt (fun g => P < g) w5 V2.length (.slice pa V2.length pc) (fC V2)) := Lib.hid (cells_own hrow5 (fun g hg => Nat.lt_of_lt_of_le HRP4.out.bp.lt hg))
  obtain ⟨T, hT⟩ : ∃ T, typedL V1 = T := ⟨_, rfl⟩
  simp only [hT] at HTY HOK
  have HTT := Lib.hid hT
  have hv1 : V1.length ≤ 1073741824 := Nat.le_trans HXL.out.1 HVL.out
  clear hV hT hb5 hrow5
  unfold sV
  go_upto_region 6 with fail
  go_cut [59] from 55 to 58 (fun tv wx => tv = .bool T ∧ w5 = wx)
  case first =>
    cases ok
    · have HT0 : Hid (T = false) := Lib.hid (HOK.out rfl)
      go_wp2_with fail
      go_meet
      exact ⟨by rw [HT0.out], rfl⟩
    · go_wp2_with fail
      refine (rtyped_any ⟨V1.toArray⟩ w5 (by rw [Lib.size_mk]; exact hv1)).mono ?_
      rintro e w6 ⟨rfl, rfl⟩
      rw [show (ByteArray.mk V1.toArray).data.toList = V1 from rfl, HTT.out]
      go_wp2_with fail
      go_meet
      exact ⟨rfl, rfl⟩
  case rest =>
  obtain ⟨rfl, rfl⟩ := hcut
  go_upto_if 59 with fail
  obtain ⟨TY, hTY⟩ : ∃ TY, typeL fs = TY := ⟨_, rfl⟩
  rw [hTY] at HTY HTS
  obtain ⟨ty, ps⟩ := TY
  have HTYP := Lib.hid hTY
  clear hTY
  go_cut [] from 60 to 63 (fun wx => ∃ qa qc, Hid (Rp s C (n + 1) R P (.string ⟨ty.toArray⟩) (.slice qa ps.length qc) (.string ⟨#[55, 98, 105, 116]⟩) (.bool false) (.int .i64 (a : Int)) (.int .i64 (body : Int)) (.int .i64 (b : Int)) (.slice none 0 0) w wx) ∧ Hid (Below P w2 wx) ∧ Hid (CellsAt (fun g => P < g) wx ps.length (.slice qa ps.length qc) (fC ps)))
  case first =>
    cases T
    · have hty : Hid ((ty, ps) = (plainT, [])) := Lib.hid (by rw [HTY.out]; rfl)
      obtain ⟨rfl, rfl⟩ := Prod.mk.inj hty.out
      go_wp2_with fail
      go_meet
      exact ⟨none, 0, HRP5, HB5, Lib.hid (Or.inl ⟨⟨none, 0, rfl⟩, rfl, rfl⟩)⟩
    · have hty : Hid ((ty, ps) = (V1, V2)) := Lib.hid (by rw [HTY.out]; rfl)
      obtain ⟨rfl, rfl⟩ := Prod.mk.inj hty.out
      have u0 := HRP5.out.bp.p0
      have u1 := HRP5.out.bp.p1
      have e0 := HRP5.out.bp.free 0
      have e1 := HRP5.out.bp.free 1
      have HN := Lib.hid ((HRP5.out.set0 (.string ⟨ty.toArray⟩)).set1 (.slice pa ps.length pc))
      have HNB := Lib.hid ((HB5.out.setCell (p := ⟨P, 0, none⟩) (Nat.le_refl _) (.string ⟨ty.toArray⟩)).setCell (p := ⟨P, 1, none⟩) (Nat.le_refl _) (.slice pa ps.length pc))
      have HNC := Lib.hid ((HCV.out.keep (kept_set (g := P) (o := 0) (v := .string ⟨ty.toArray⟩) (Nat.lt_irrefl _))).keep (kept_set (g := P) (o := 1) (v := .slice pa ps.length pc) (Nat.lt_irrefl _)))
      go_wp2_with fail
      go_meet
      exact ⟨pa, pc, HN, HNB, HNC⟩
  case rest =>
  obtain ⟨qa, qc, HR6, HB6, HC6⟩ := hcut
  have HF7 : Hid (Calls Tryz.prog 84 #[.slice va fs.length vc, .string ⟨#[67, 111, 110, 116, 101, 110, 116, 45, 84, 114, 97, 110, 115, 102, 101, 114, 45, 69, 110, 99, 111, 100, 105, 110, 103]⟩] wc fun e w' => e = .returned (.tuple #[sV (fvL fs cencT), .bool (fstL fs cencT).isSome]) ∧ Below wc.heap.size wc w') :=
    Lib.hid (rfirst_call _ fs ⟨#[67, 111, 110, 116, 101, 110, 116, 45, 84, 114, 97, 110, 115, 102, 101, 114, 45, 69, 110, 99, 111, 100, 105, 110, 103]⟩ wc (HF3.out wc HB6.out) HSZ.out.1 (by decide) HSZ.out.2)
  clear HCV HRP5 HB5 HVV HXL HTY HOK HTT HRP4 HB4 hv1
  go_wp2_with fail
  refine (HF7.out).mono ?_
  rintro e w7 ⟨rfl, hb7⟩
  have HR7 := Lib.hid (HR6.out.below hb7)
  have HB7 := Lib.hid (HB6.out.trans (hb7.mono (Nat.le_of_lt HR6.out.bp.lt)))
  have HC7 := Lib.hid (HC6.out.keep (kept_below hb7))
  have HEN : Hid (encL fs = if (fstL fs cencT).isSome then smallL (fvL fs cencT) else bit7) := Lib.hid (by unfold encL fvL; cases fstL fs cencT <;> rfl)
  have HVE : Hid ((fvL fs cencT).length ≤ 1073741824) := Lib.hid (fv_len HSZ.out.1 cencT)
  obtain ⟨ev, hev⟩ : ∃ ev, fvL fs cencT = ev := ⟨_, rfl⟩
  rw [hev] at HEN HVE ⊢
  obtain ⟨ok2, hok2⟩ : ∃ ok, (fstL fs cencT).isSome = ok := ⟨_, rfl⟩
  rw [hok2] at HEN ⊢
  obtain ⟨EN, hEN⟩ : ∃ EN, encL fs = EN := ⟨_, rfl⟩
  rw [hEN] at HEN
  have HENC := Lib.hid hEN
  clear hev hok2 hb7 hEN HF7
  unfold sV
  go_upto_if 69 with fail
  go_cut [] from 69 to 73 (fun wx => Hid (Rp s C (n + 1) R P (.string ⟨ty.toArray⟩) (.slice qa ps.length qc) (.string ⟨EN.toArray⟩) (.bool false) (.int .i64 (a : Int)) (.int .i64 (body : Int)) (.int .i64 (b : Int)) (.slice none 0 0) w wx) ∧ Hid (Below P w2 wx) ∧ Hid (CellsAt (fun g => P < g) wx ps.length (.slice qa ps.length qc) (fC ps)))
  case first =>
    cases ok2
    · have hen : EN = bit7 := by rw [HEN.out]; rfl
      subst hen
      go_wp2_with fail
      go_meet
      exact ⟨HR7, HB7, HC7⟩
    · have HES : Hid (Tx.foldL (trimL ev) = EN) := Lib.hid (by rw [HEN.out]; rfl)
      have HTL : Hid ((trimL ev).length ≤ 1073741824) := Lib.hid (Nat.le_trans (trimL_le ev) HVE.out)
      go_wp2_with fail
      refine (rtrim_any ⟨ev.toArray⟩ w7 (by rw [Lib.size_mk]; have := HVE.out; omega)).mono ?_
      rintro e w8 ⟨rfl, rfl⟩
      rw [show (ByteArray.mk ev.toArray).data.toList = ev from rfl]
      unfold sV
      go_wp2_with fail
      refine (rfold2 (trimL ev) w7 (by have := HTL.out; omega)).mono ?_
      rintro e w8 ⟨rfl, hb8⟩
      rw [HES.out]
      have HR8 := Lib.hid (HR7.out.below hb8)
      have HB8 := Lib.hid (HB7.out.trans (hb8.mono (Nat.le_of_lt HR7.out.bp.lt)))
      have HC8 := Lib.hid (HC7.out.keep (kept_below hb8))
      have u2 := HR8.out.bp.p2
      have e2 := HR8.out.bp.free 2
      clear hb8
      go_wp2_with fail
      go_meet
      exact ⟨Lib.hid (HR8.out.set2 _), Lib.hid (HB8.out.setCell (p := ⟨P, 2, none⟩) (Nat.le_refl _) _), Lib.hid (HC8.out.keep (kept_set (g := P) (o := 2) (Nat.lt_irrefl _)))⟩
  case rest =>
  obtain ⟨HR9, HB9, HC9⟩ := hcut
  clear HR6 HB6 HC6 HR7 HB7 HC7 HEN HVE
  have HF9 : Hid (Calls Tryz.prog 84 #[.slice va fs.length vc, .string ⟨#[67, 111, 110, 116, 101, 110, 116, 45, 68, 105, 115, 112, 111, 115, 105, 116, 105, 111, 110]⟩] wc fun e w' => e = .returned (.tuple #[sV (fvL fs cdispT), .bool (fstL fs cdispT).isSome]) ∧ Below wc.heap.size wc w') :=
    Lib.hid (rfirst_call _ fs ⟨#[67, 111, 110, 116, 101, 110, 116, 45, 68, 105, 115, 112, 111, 115, 105, 116, 105, 111, 110]⟩ wc (HF3.out wc HB9.out) HSZ.out.1 (by decide) HSZ.out.2)
  go_wp2_with fail
  refine (HF9.out).mono ?_
  rintro e w10 ⟨rfl, hb10⟩
  have HR10 := Lib.hid (HR9.out.below hb10)
  have HB10 := Lib.hid (HB9.out.trans (hb10.mono (Nat.le_of_lt HR9.out.bp.lt)))
  have HC10 := Lib.hid (HC9.out.keep (kept_below hb10))
  have HVD : Hid ((fvL fs cdispT).length ≤ 1073741824) := Lib.hid (fv_len HSZ.out.1 cdispT)
  have HAT : Hid (attL fs = ((valuesL (fvL fs cdispT)).1 == attachT)) := Lib.hid rfl
  obtain ⟨dv, hdv⟩ : ∃ dv, fvL fs cdispT = dv := ⟨_, rfl⟩
  rw [hdv] at HVD HAT ⊢
  clear hdv hb10 HF9
  unfold sV
  go_wp2_with fail
  refine (rvalues_any ⟨dv.toArray⟩ w10 (by rw [Lib.size_mk]; exact HVD.out)).mono ?_
  rintro e w11 ⟨dpv, rfl, hdrow, hb11⟩
  rw [show (ByteArray.mk dv.toArray).data.toList = dv from rfl] at hdrow ⊢
  obtain ⟨da, dc, rfl⟩ := hdrow.form
  obtain ⟨dl, hdl⟩ : ∃ dl, (valuesL dv).2 = dl := ⟨_, rfl⟩
  rw [hdl]
  obtain ⟨WD, hWD⟩ : ∃ WD, (valuesL dv).1 = WD := ⟨_, rfl⟩
  rw [hWD] at HAT ⊢
  have HR11 := Lib.hid (HR10.out.below hb11)
  have HB11 := Lib.hid (HB10.out.trans (hb11.mono (Nat.le_of_lt HR10.out.bp.lt)))
  have HC11 := Lib.hid (HC10.out.keep (kept_below hb11))
  clear hb11 hdrow hdl hWD
  obtain ⟨ab, hq⟩ : ∃ ab, (WD == [97, 116, 116, 97, 99, 104, 109, 101, 110, 116]) = ab := ⟨_, rfl⟩
  have HAB : Hid (attL fs = ab) := Lib.hid (by rw [HAT.out, ← hq]; rfl)
  have u3 := HR11.out.bp.p3
  have e3 := HR11.out.bp.free 3
  have HR12 := Lib.hid (HR11.out.set3 (.bool ab))
  have HB12 := Lib.hid (HB11.out.setCell (p := ⟨P, 3, none⟩) (Nat.le_refl _) (.bool ab))
  have HC12 := Lib.hid (HC11.out.keep (kept_set (g := P) (o := 3) (v := .bool ab) (Nat.lt_irrefl _)))
  obtain ⟨W12, hW12⟩ : ∃ W12, w11.setCell ⟨P, 3, none⟩ (.bool ab) = W12 := ⟨_, rfl⟩
  rw [hW12] at HR12 HB12 HC12
  have HW12 := Lib.hid hW12
  clear hW12 HR9 HB9 HC9 HR10 HB10 HC10 HAT
  unfold sV
  go_upto_region 15 with fail
  rw [HW12.out]
  clear hq u3 e3 HW12 HR11 HB11 HC11
  have HPSZ : Hid ((∀ f ∈ ps, f.1.length ≤ 1073741824 ∧ f.2.length ≤ 1073741824) ∧ ps.length ≤ 1073741824 ∧ ty.length ≤ 1073741824) := Lib.hid (by
    have h1 := HTS.out
    have h2 := HSL.out
    exact ⟨fun f hf => by have := h1.2.2 f hf; omega, by omega, by omega⟩)
  have HF12 : Hid (Calls Tryz.prog 84 #[.slice qa ps.length qc, .string ⟨#[98, 111, 117, 110, 100, 97, 114, 121]⟩] W12 fun e w' => e = .returned (.tuple #[sV (fvL ps boundT), .bool (fstL ps boundT).isSome]) ∧ Below W12.heap.size W12 w') :=
    Lib.hid (rfirst_call _ ps ⟨#[98, 111, 117, 110, 100, 97, 114, 121]⟩ W12 (cells_fields HC12.out) HPSZ.out.1 (by decide) HPSZ.out.2.1)
  have u1 := HR12.out.bp.p1
  go_wp2_with fail
  refine (HF12.out).mono ?_
  rintro e w13 ⟨rfl, hb13⟩
  have HR13 := Lib.hid (HR12.out.below hb13)
  have HB13 := Lib.hid (HB12.out.trans (hb13.mono (Nat.le_of_lt HR12.out.bp.lt)))
  have HC13 := Lib.hid (HC12.out.keep (kept_below hb13))
  have HMK1 : Hid (markL ty ps = if Lib.hasPrefix ty multiT then (if (fvL ps boundT).isEmpty then none else some (fvL ps boundT)) else none) := Lib.hid (by
    unfold markL fvL
    cases fstL ps boundT <;> rfl)
  have HMO : Hid ((fstL ps boundT).isSome = false → fvL ps boundT = []) := Lib.hid (fun h => by unfold fvL; cases hx : fstL ps boundT with | none => rfl | some f => rw [hx] at h; cases h)
  have HMKL : Hid ((fvL ps boundT).length ≤ 32768) := Lib.hid (by
    have h1 := HTS.out
    have h2 := HSL.out
    exact Nat.le_trans (fv_len h1.2.2 boundT) h2)
  obtain ⟨MK, hMK⟩ : ∃ MK, fvL ps boundT = MK := ⟨_, rfl⟩
  rw [hMK] at HMK1 HMO HMKL ⊢
  obtain ⟨ok3, hok3⟩ : ∃ ok, (fstL ps boundT).isSome = ok := ⟨_, rfl⟩
  rw [hok3] at HMO ⊢
  have HHAS : Hid (hasL s.data.toList a b = markL ty ps) := Lib.hid (by unfold hasL; rw [HH.out, HTYP.out])
  have HPART : Hid (∀ l, partL s.data.toList a b l = .mk ty ps EN ab a body b l) := Lib.hid (fun l => by unfold partL; rw [HH.out, HTYP.out, HENC.out, HAB.out])
  clear hMK hok3 hb13 HF12 HR12 HB12 HC12 u1
  unfold sV
  have u0 := HR13.out.bp.p0
  go_upto_region 16 with fail
  go_cut [114] from 93 to 113 (fun tv wx => ∃ LF : Bool, tv = .bool LF ∧ Hid (LF = true → d = 0 ∨ markL ty ps = none) ∧ Hid (LF = false → 0 < d ∧ markL ty ps = some MK ∧ MK ≠ []) ∧ w13 = wx)
  case first =>
    have htl : (ByteArray.mk ty.toArray).size = ty.length := by rw [Lib.size_mk]
    by_cases hd0 : d = 0
    · have g1 : (6 : Int) ≤ 6 - (d : Int) := by omega
      go_wp2_with fail
      go_meet
      exact ⟨true, rfl, Lib.hid (fun _ => Or.inl hd0), Lib.hid (fun h => by cases h), rfl⟩
    · have g1 : ¬ (6 : Int) ≤ 6 - (d : Int) := by omega
      by_cases hl10 : ty.length < 10
      · have g2 : (ty.length : Int) < 10 := by omega
        have HN : Hid (markL ty ps = none) := Lib.hid (by
          rw [HMK1.out, if_neg]
          intro h
          unfold Lib.hasPrefix at h
          rw [List.isPrefixOf_iff_prefix] at h
          have := h.length_le
          rw [show multiT.length = 10 from rfl] at this
          omega)
        go_wp2_with fail
        go_meet
        exact ⟨true, rfl, Lib.hid (fun _ => Or.inr HN.out), Lib.hid (fun h => by cases h), rfl⟩
      · have g2 : ¬ (ty.length : Int) < 10 := by omega
        have g2' : (10 : Int) ≤ (ty.length : Int) := by omega
        have HX10 : Hid (((ByteArray.mk ty.toArray).extract 0 10).data.toList = ty.take 10) := Lib.hid (by rw [ext_sp]; simp)
        obtain ⟨X10, hX10⟩ : ∃ X10, (ByteArray.mk ty.toArray).extract 0 10 = X10 := ⟨_, rfl⟩
        rw [hX10] at HX10
        have HPX : Hid (Lib.hasPrefix ty multiT = true ↔ ty.take 10 = multiT) := Lib.hid (by
          unfold Lib.hasPrefix
          rw [List.isPrefixOf_iff_prefix]
          constructor
          · rintro ⟨r, rfl⟩
            rfl
          · intro h
            exact ⟨ty.drop 10, by rw [← h, List.take_append_drop]⟩)
        by_cases hpx : ty.take 10 = multiT
        · have q1 : (X10.toList != [109, 117, 108, 116, 105, 112, 97, 114, 116, 47]) = false := by rw [Lib.toList_data, HX10.out, hpx]; rfl
          have q1' : X10.toList = [109, 117, 108, 116, 105, 112, 97, 114, 116, 47] := by rw [Lib.toList_data, HX10.out, hpx]; rfl
          have HP1 : Hid (Lib.hasPrefix ty multiT = true) := Lib.hid (HPX.out.2 hpx)
          clear hpx
          cases ok3
          · have HN : Hid (markL ty ps = none) := Lib.hid (by rw [HMK1.out, HMO.out rfl]; simp)
            go_wp2_with fail
            go_meet
            exact ⟨true, rfl, Lib.hid (fun _ => Or.inr HN.out), Lib.hid (fun h => by cases h), rfl⟩
          · cases MK with
            | nil =>
              have HN : Hid (markL ty ps = none) := Lib.hid (by rw [HMK1.out]; simp)
              go_wp2_with fail
              go_meet
              exact ⟨true, rfl, Lib.hid (fun _ => Or.inr HN.out), Lib.hid (fun h => by cases h), rfl⟩
            | cons mc mr =>
              have HN : Hid (markL ty ps = some (mc :: mr)) := Lib.hid (by rw [HMK1.out, HP1.out]; rfl)
              go_wp2_with fail
              go_meet
              exact ⟨false, rfl, Lib.hid (fun h => by cases h), Lib.hid (fun _ => ⟨by omega, HN.out, by simp⟩), rfl⟩
        · have q1 : (X10.toList != [109, 117, 108, 116, 105, 112, 97, 114, 116, 47]) = true := by
            rw [Lib.toList_data, HX10.out, bne_iff_ne]
            exact hpx
          have q1' : ¬ X10.toList = [109, 117, 108, 116, 105, 112, 97, 114, 116, 47] := by
            rw [Lib.toList_data, HX10.out]
            exact hpx
          have HN : Hid (markL ty ps = none) := Lib.hid (by
            rw [HMK1.out, if_neg]
            intro h
            exact hpx (HPX.out.1 h))
          clear hpx
          go_wp2_with fail
          go_meet
          exact ⟨true, rfl, Lib.hid (fun _ => Or.inr HN.out), Lib.hid (fun h => by cases h), rfl⟩
  case rest =>
  obtain ⟨LF, rfl, HLT, HLF, rfl⟩ := hcut
  cases LF
  · obtain ⟨hd0, hmk, hmk0⟩ := HLF.out rfl
    obtain ⟨d', hd'⟩ : ∃ d', d = d' + 1 := ⟨d - 1, by omega⟩
    obtain ⟨TOT, hTOT⟩ : ∃ TOT, foldK (readL s.data.toList d') (kidsL MK s.data.toList body b) (n + 1) = TOT := ⟨_, rfl⟩
    have HRD : Hid (readL s.data.toList d a b (n + 1) = (.mk ty ps EN ab a body b TOT.1, TOT.2)) := Lib.hid (by
      rw [hd', read_kids (bd := MK) (by rw [HHAS.out, hmk]), HPART.out, HH.out]
      simp only
      rw [hTOT])
    have HTOT := Lib.hid hTOT
    have HD' := Lib.hid hd'
    have HREC : Hid (RPartOk s d') := Lib.hid (HIH.out d' hd')
    obtain ⟨MB, hMB⟩ : ∃ MB : ByteArray, (⟨MK.toArray⟩ : ByteArray) = MB := ⟨_, rfl⟩
    have HMB : Hid (MB.data.toList = MK) := Lib.hid (by rw [← hMB])
    have hmbs : MB.size ≤ 32768 := by rw [← hMB, Lib.size_mk]; exact HMKL.out
    rw [hMB]
    clear hTOT hd' hmk hmk0 HLT HLF hMB u0
    have k0 := HR13.out.ct.c0
    go_wp2_with fail
    refine (rlines_chain s body b w13 (by omega) hbd2 hbs).mono ?_
    rintro e w14 ⟨v, ls, rfl, hrow, hls, hb14, kend, hch⟩
    obtain ⟨la, lc, rfl⟩ := Rw.form hrow
    have HR14 := Lib.hid (HR13.out.below hb14)
    have HC14 : Hid (CellsAt (fun g => P < g ∧ g < w14.heap.size) w14 ps.length (.slice qa ps.length qc) (fC ps)) := Lib.hid ((HC13.out.keep (kept_below hb14)).keep (kept_block fun g cs t f hg hb => ⟨⟨hg, (Array.getElem?_eq_some_iff.1 hb).1⟩, rfl⟩))
    have HROW := Lib.hid hrow
    have HSEG : Hid (((s.data.toList.take b).drop body).length = b - body) := Lib.hid (by rw [List.length_drop, List.length_take, ← Lib.size_eq]; omega)
    have HLN : Hid (ls.length ≤ 32769) := Lib.hid (by
      have h1 := congrArg List.length hls
      rw [List.length_map] at h1
      have h2 := linesG_count ((s.data.toList.take b).drop body) [] body
      rw [HSEG.out] at h2
      unfold linesL at h1
      omega)
    have HTX : Hid (∀ x ∈ ls, x.2.1.length ≤ 32768) := Lib.hid (fun x hx => by
      have h1 : x.2 ∈ linesL body ((s.data.toList.take b).drop body) := by rw [← hls]; exact List.mem_map_of_mem hx
      have h2 := (linesG_le _ _ _ _ h1).2
      rw [HSEG.out] at h2
      simp at h2
      omega)
    have HINV : Hid (InvK TOT (readL s.data.toList d') MK s.data.toList b [] none body (ls.drop 0) (n + 1)) := Lib.hid (by
      unfold InvK afterK
      rw [List.drop_zero, hls, ← HTOT.out]
      rfl)
    have HRI : Hid (Rise b body ((ls.drop 0).map (·.2))) := Lib.hid (by
      rw [List.drop_zero, hls]
      exact lines_rise hbd2 (by rw [← Lib.size_eq]; exact hbs))
    have HCH : Hid (Chain body (ls.drop 0) kend) := Lib.hid hch
    have hKP : P < w14.heap.size := HR14.out.bp.lt
    obtain ⟨KB, hKB⟩ : ∃ KB, w14.heap.size = KB := ⟨_, rfl⟩
    obtain ⟨LB, hLB⟩ : ∃ LB, w13.heap.size = LB := ⟨_, rfl⟩
    have HLB : Hid (C < LB ∧ P < LB ∧ ∀ g, (Value.slice la ls.length lc).ownBlock = some g → g < KB) := Lib.hid ⟨by have := HR13.out.hC; have := HR13.out.st.size; omega, by have := HR13.out.bp.lt; omega, fun g hg => by
      have := (Rw.block HROW.out hg).2
      obtain ⟨cur, hc⟩ := this
      rw [← hKB]
      exact (Array.getElem?_eq_some_iff.1 hc).1⟩
    rw [hKB] at HC14 hKP
    rw [hLB] at HROW
    obtain ⟨N, hN⟩ : ∃ N, ls.length = N := ⟨_, rfl⟩
    rw [hN] at HROW HLB HLN ⊢
    have HN := Lib.hid hN
    have hKBs : KB ≤ w14.heap.size := by omega
    clear hrow hls hb14 hch hKB hLB hN k0
    have hn32 : (N : Int) ≤ 32769 := by have := HLN.out; omega
    go_wp2_with fail
    go_loopg [19, 20] (N + 1) (fun g fv iv wr => ∃ (i p m : Nat) (o : Option Nat) (ks : List Pt.P) (ka : Option Addr) (kc : Nat), g = N + 1 - i ∧ i ≤ N ∧ iv = .int .i64 (i : Int) ∧ fv = .int .i64 (fromI o) ∧ p ≤ b ∧ Hid (body ≤ p) ∧ Hid (∀ f, o = some f → body ≤ f ∧ f ≤ p) ∧ ks.length ≤ m ∧ m ≤ 30 ∧
      Hid (InvK TOT (readL s.data.toList d') MK s.data.toList b ks o p (ls.drop i) m) ∧ Hid (Chain p (ls.drop i) kend) ∧ Hid (Rise b p ((ls.drop i).map (·.2))) ∧ Hid (Rp s C m R P (.string ⟨ty.toArray⟩) (.slice qa ps.length qc) (.string ⟨EN.toArray⟩) (.bool ab) (.int .i64 (a : Int)) (.int .i64 (body : Int)) (.int .i64 (b : Int)) (.slice ka ks.length kc) w wr) ∧ Hid (CellsAt (fun g => P < g ∧ g < KB) wr ps.length (.slice qa ps.length qc) (fC ps)) ∧
      Hid (Kids KB (.slice ka ks.length kc) ks wr) ∧ Hid (RowL LB (.slice la N lc) ls wr) ∧ KB ≤ wr.heap.size)
    case atStart => exact ⟨0, body, n + 1, none, [], none, 0, rfl, Nat.zero_le _, rfl, rfl, hbd2, Lib.hid (Nat.le_refl _), Lib.hid (fun f h => by cases h), Nat.zero_le _, by omega, HINV, HCH, HRI, HR14, HC14, Lib.hid (kids_empty _ _), HROW, hKBs⟩
    case round =>
      obtain ⟨i, p, m, o, ks, ka, kc, rfl, hi, rfl, rfl, hpb, HPB, HO, hkm, hm30, HI, HCI, HRI2, HRP2, HC2', HK2, HL2, hKw⟩ := hrel
      clear HINV HRI HCH HR14 HC14 HROW hKBs
      have g0 : (i : Int) ≤ (N : Int) := by omega
      go_upto_if 132 with fail
      go_cut [21, 22] from 129 to 151 (fun ev _ wx => ∃ E : Bool, ev = .bool E ∧ Hid ((∃ x, i < N ∧ ls.drop i = x :: ls.drop (i + 1) ∧ x.2.1.length ≤ 32768 ∧ (E = false → isMark MK x.2.1 = true) ∧ (E = true → isMark MK x.2.1 = false ∧ isLast MK x.2.1 = true)) ∨ (i = N ∧ E = false)) ∧ wr = wx)
      case first =>
        by_cases hlt : i < N
        · have g1 : (i : Int) < (N : Int) := by omega
          have hil : i < ls.length := by rw [HN.out]; exact hlt
          obtain ⟨gl, cap, hv, hgl, r0, r1, r2⟩ := rowL_at0 HL2.out i hil
          injection hv with e1 e2 e3
          subst e1
          obtain ⟨x, hx⟩ : ∃ x, ls[i] = x := ⟨_, rfl⟩
          rw [hx] at r0 r1 r2
          have HDR : Hid (ls.drop i = x :: ls.drop (i + 1)) := Lib.hid (by rw [← hx]; exact List.drop_eq_getElem_cons hil)
          have HXT : Hid (x.2.1.length ≤ 32768) := Lib.hid (HTX.out x (by rw [← hx]; exact List.getElem_mem hil))
          clear hx hil e2 e3
          unfold sV at r1
          go_wp2_with fail
          refine (rtail_any ⟨x.2.1.toArray⟩ wr (by rw [Lib.size_mk]; have := HXT.out; omega)).mono ?_
          rintro e w15 ⟨rfl, rfl⟩
          rw [show (ByteArray.mk x.2.1.toArray).data.toList = x.2.1 from rfl]
          obtain ⟨TT, hTT⟩ : ∃ TT : ByteArray, (⟨(rtrL x.2.1).toArray⟩ : ByteArray) = TT := ⟨_, rfl⟩
          have HTL : Hid (TT.data.toList = rtrL x.2.1) := Lib.hid (by rw [← hTT])
          unfold sV
          rw [hTT]
          clear hTT
          obtain ⟨MKb, hMKb⟩ : ∃ B, isMark MK x.2.1 = B := ⟨_, rfl⟩
          obtain ⟨LSb, hLSb⟩ : ∃ B, isLast MK x.2.1 = B := ⟨_, rfl⟩
          have HQ1 : Hid (((TT.data.toList == [45, 45] ++ MB.data.toList ++ [45, 45]) = LSb)) := Lib.hid (by rw [HTL.out, HMB.out, ← hLSb]; rfl)
          have HQ2 : Hid (((TT.data.toList == [45, 45] ++ MB.data.toList) = MKb)) := Lib.hid (by rw [HTL.out, HMB.out, ← hMKb]; rfl)
          have HM1 := Lib.hid hMKb
          have HL1 := Lib.hid hLSb
          clear hMKb hLSb
          obtain ⟨LM, hLM⟩ : ∃ LM : ByteArray, (⟨#[45, 45]⟩ : ByteArray) ++ MB = LM := ⟨_, rfl⟩
          obtain ⟨LL, hLL⟩ : ∃ LL : ByteArray, LM ++ ⟨#[45, 45]⟩ = LL := ⟨_, rfl⟩
          have hlms : LM.size = 2 + MB.size := by rw [← hLM, ByteArray.size_append]; rfl
          have q1 : (TT.toList == LL.toList) = LSb := by rw [← HQ1.out, Lib.toList_data, Lib.toList_data, ← hLL, ← hLM]; simp
          have q2 : (TT.toList == LM.toList) = MKb := by rw [← HQ2.out, Lib.toList_data, Lib.toList_data, ← hLM]; simp
          have q3 : (TT.toList != LM.toList) = !MKb := by rw [← q2]; rfl
          cases MKb
          · cases LSb
            · have HIN := HI.out
              have HCN := HCI.out
              have HRN := HRI2.out
              rw [HDR.out] at HIN HCN HRN
              have HIN2 := Lib.hid (inv_other HIN HM1.out HL1.out)
              have HCN2 : Hid (x.1 = p ∧ Chain x.2.2 (ls.drop (i + 1)) kend) := Lib.hid HCN
              have HRN2 : Hid (p ≤ x.2.2 ∧ x.2.2 ≤ b ∧ Rise b x.2.2 ((ls.drop (i + 1)).map (·.2))) := Lib.hid HRN
              clear HIN HCN HRN
              go_wp2_with fail
              go_roundg (N + 1 - (i + 1))
              case measure => omega
              case rel => exact ⟨i + 1, x.2.2, m, o, ks, ka, kc, rfl, by omega, by go_num, rfl, HRN2.out.2.1, Lib.hid (by have := HPB.out; have := HRN2.out.1; omega), Lib.hid (fun f h => by have := HO.out f h; have := HRN2.out.1; omega), hkm, hm30, HIN2, Lib.hid HCN2.out.2, Lib.hid HRN2.out.2.2, HRP2, HC2', HK2, HL2, hKw⟩
            · go_wp2_with fail
              go_meet
              have hkind : (true = false → isMark MK x.2.1 = true) ∧ (true = true → isMark MK x.2.1 = false ∧ isLast MK x.2.1 = true) := ⟨fun h => absurd h (by decide), fun _ => ⟨HM1.out, HL1.out⟩⟩
              exact ⟨true, rfl, Lib.hid (Or.inl ⟨x, hlt, HDR.out, HXT.out, hkind⟩), rfl⟩
          · have hls : LSb = false := by rw [← HL1.out]; exact mark_not_last HM1.out
            subst hls
            go_wp2_with fail
            go_meet
            have hkind : (false = false → isMark MK x.2.1 = true) ∧ (false = true → isMark MK x.2.1 = false ∧ isLast MK x.2.1 = true) := ⟨fun _ => HM1.out, fun h => absurd h (by decide)⟩
            exact ⟨false, rfl, Lib.hid (Or.inl ⟨x, hlt, HDR.out, HXT.out, hkind⟩), rfl⟩
        · have g1 : ¬ (i : Int) < (N : Int) := by omega
          go_wp2_with fail
          go_meet
          exact ⟨false, rfl, Lib.hid (Or.inr ⟨by omega, rfl⟩), rfl⟩
      case rest =>
        obtain ⟨E, rfl, HE, rfl⟩ := hcut
        have gE : fromI o = (match o with | none => (-1 : Int) | some f => (f : Int)) := by cases o <;> rfl
        clear gE
        go_upto_if 153 with fail
        go_cut [23] from 154 to 187 (fun _ wx => ∃ (ks' : List Pt.P) (m' : Nat) (ka' : Option Addr) (kc' : Nat), Hid (o = none → ks' = ks ∧ m' = m) ∧ Hid (∀ f, o = some f → (ks', m') = kidS (readL s.data.toList d') f (if i < N then backL s.data.toList f p else b) ks m) ∧ ks'.length ≤ m' ∧ m' ≤ 30 ∧
          Hid (Rp s C m' R P (.string ⟨ty.toArray⟩) (.slice qa ps.length qc) (.string ⟨EN.toArray⟩) (.bool ab) (.int .i64 (a : Int)) (.int .i64 (body : Int)) (.int .i64 (b : Int)) (.slice ka' ks'.length kc') w wx) ∧ Hid (CellsAt (fun g => P < g ∧ g < KB) wx ps.length (.slice qa ps.length qc) (fC ps)) ∧ Hid (Kids KB (.slice ka' ks'.length kc') ks' wx) ∧ Hid (RowL LB (.slice la N lc) ls wx) ∧ KB ≤ wx.heap.size)
        case first =>
          cases o with
          | none =>
            go_wp2_with fail
            go_meet
            exact ⟨ks, m, ka, kc, Lib.hid (fun _ => ⟨rfl, rfl⟩), Lib.hid (fun f h => by cases h), hkm, hm30, HRP2, HC2', HK2, HL2, hKw⟩
          | some f =>
            have HFP := Lib.hid (HO.out f rfl)
            have gf : (0 : Int) ≤ fromI (some f) := by show (0 : Int) ≤ (f : Int); omega
            have hff : fromI (some f) = (f : Int) := rfl
            rw [hff] at gf ⊢
            clear hff
            obtain ⟨ee, hee⟩ : ∃ ee, (if i < N then backL s.data.toList f p else b) = ee := ⟨_, rfl⟩
            have HEE := Lib.hid hee
            have HEB : Hid (f ≤ ee ∧ ee ≤ b) := Lib.hid (by
              rw [← hee]
              have h1 := back_ge s.data.toList f p
              have h2 := back_le s.data.toList HFP.out.2
              have h3 := HFP.out.2
              split <;> omega)
            clear hee
            go_upto_if 153 with fail
            go_upto_if 158 with fail
            go_cut [23] from 155 to 171 (fun tv wx => tv = .int .i64 (ee : Int) ∧ Hid (Below wr.heap.size wr wx))
            case first =>
              by_cases hlt : i < N
              · have g1 : (i : Int) < (N : Int) := by omega
                have hil : i < ls.length := by rw [HN.out]; exact hlt
                obtain ⟨gl, cap, hv, hgl, r0, r1, r2⟩ := rowL_at0 HL2.out i hil
                injection hv with e1 e2 e3
                subst e1
                have hat : ls[i].1 = p := by
                  have h := HCI.out
                  rw [List.drop_eq_getElem_cons hil] at h
                  exact h.1
                rw [hat] at r0
                have HEQ : Hid (backL s.data.toList f p = ee) := Lib.hid (by rw [← HEE.out, if_pos hlt])
                have hC0 := HRP2.out.ct.c0
                have hmx : ∀ (ts : Array TypeId) (t : TypeId) (W : World), (Builtin.max_ ts t #[.int .i64 (f : Int), .int .i64 (ee : Int)]).run Tryz.prog W = .ok (.int .i64 (ee : Int)) W := fun ts t W => by
                  have h9 := HEB.out.1
                  simp [Builtin.max_, Builtin.max2]
                  omega
                have HBK : Hid (Calls Tryz.prog 89 #[.string s, .int .i64 (p : Int), .int .i64 (f : Int)] wr.drew fun e w' => e = .returned (.int .i64 (ee : Int)) ∧ wr.drew = w') := Lib.hid (by
                  have := rback_any s f p HFP.out.2 (Nat.le_trans hpb hbs) wr.drew (by omega)
                  rw [HEQ.out] at this
                  exact this)
                have HS0 : Hid (wr.drew.cell? ⟨C, 0, none⟩ = some (.string s) ∧ wr.drew.cell? ⟨gl, i * 3, none⟩ = some (.int .i64 (p : Int))) := Lib.hid ⟨hC0, r0⟩
                clear hat hil e2 e3 r1 r2
                go_upto_region 31 with fail
                go_region_held3 (fun w' : World => w'.cell? ⟨C, 0, none⟩ = some (.string s) ∧ w'.cell? ⟨gl, i * 3, none⟩ = some (.int .i64 (p : Int)))
                  (first | with_reducible exact HS0.out)
                  (first | (with_reducible refine (HBK.out).mono ?_; rintro e w16 ⟨rfl, rfl⟩))
                all_goals
                  go_wp2_with fail
                  go_meet
                  exact ⟨rfl, Lib.hid ((Below.refl _ wr).drew)⟩
              · have g1 : ¬ (i : Int) < (N : Int) := by omega
                have HEQ : Hid (b = ee) := Lib.hid (by rw [← HEE.out, if_neg hlt])
                go_wp2_with fail
                go_meet
                exact ⟨by rw [HEQ.out], Lib.hid (Below.refl _ wr)⟩
            case rest =>
              obtain ⟨rfl, HBX⟩ := hcut
              have HRP3 := Lib.hid (HRP2.out.below HBX.out)
              have HC3 := Lib.hid (HC2'.out.keep (kept_below HBX.out))
              have HK3 := Lib.hid (HK2.out.below HBX.out)
              have HL3 := Lib.hid (Rw.below HL2.out HBX.out)
              have hKw3 : KB ≤ wc.heap.size := Nat.le_trans hKw HBX.out.size
              have k1 := HRP3.out.ct.c1
              by_cases hm : m < 30
              · have gm : (m : Int) < 30 := by omega
                obtain ⟨RK, hRK⟩ : ∃ RK, readL s.data.toList d' f ee (m + 1) = RK := ⟨_, rfl⟩
                have HRKC : Hid (m + 1 ≤ RK.2 ∧ RK.2 ≤ 30) := Lib.hid (by rw [← hRK]; exact read_count s.data.toList d' f ee (m + 1) (by omega))
                have HKS : Hid (∀ f2, some f = some f2 → (ks ++ [RK.1], RK.2) = kidS (readL s.data.toList d') f2 (if i < N then backL s.data.toList f2 p else b) ks m) := Lib.hid (fun f2 hf2 => by
                  injection hf2 with hf2
                  subst hf2
                  unfold kidS
                  rw [if_pos hm, HEE.out, hRK])
                have HCALL : Hid (Calls Tryz.prog 50 #[.pointer (some ⟨C, 0, none⟩), .int .i64 (f : Int), .int .i64 (ee : Int), .int .i64 (6 - (d : Int) + 1)] wc.drew fun e w' =>
                  ∃ c0 c1 c2 c3 c4 c5 c6 c7, e = .returned (.agg #[c0, c1, c2, c3, c4, c5, c6, c7]) ∧ PartAt (fun g => wc.drew.heap.size ≤ g) w' RK.1 (.agg #[c0, c1, c2, c3, c4, c5, c6, c7]) ∧ Ct s C RK.2 w' ∧ Step C wc.drew w') := Lib.hid (by
                  have h4 := HREC.out f ee m C wc.drew HEB.out.1 (Nat.le_trans HEB.out.2 hbs) (by omega) (HRP3.out.ct.same rfl)
                  rw [show (6 - (d' : Int)) = 6 - (d : Int) + 1 by have := HD'.out; omega, hRK] at h4
                  exact h4)
                have hwr : IntKind.i64.wrap (6 - (d : Int) + 1) = 6 - (d : Int) + 1 := by rw [IntKind.wrap_i64]; omega
                have HOWN : Hid (∀ r, (Value.slice ka ks.length kc).ownBlock = some r → KB ≤ r ∧ r < wc.heap.size) := Lib.hid (fun r e => by
                  obtain ⟨q1, cur, q2⟩ := HK3.out.block e
                  exact ⟨q1, (Array.getElem?_eq_some_iff.1 q2).1⟩)
                have hlen : ks.length ≤ 65536 := by omega
                have p7 := HRP3.out.bp.p7
                have f7 := HRP3.out.bp.free 7
                clear hRK
                go_upto_region 33 with fail
                refine wp_region_any (by kernel_rfl) ?_
                try (change wpAny _ _ _ _ _ _ _ (World.drew _))
                refine wpAny_take (i := 0) (v := ?_) rfl (by kernel_rfl) (by kernel_rfl) (by kernel_rfl) (fun _ _ _ h => h) (Or.inl ⟨by rfl, ?_⟩) ?_
                rotate_left 1
                · (intro w; go_simp) <;> with_reducible rfl
                refine wpAny_take (i := 2) (v := ?_) rfl (by kernel_rfl) (by kernel_rfl) (by kernel_rfl) (fun _ _ _ h => h) (Or.inl ⟨by rfl, ?_⟩) ?_
                rotate_left 1
                · (intro w; go_simp) <;> with_reducible rfl
                refine wpAny_take (i := 3) (v := ?_) rfl (by kernel_rfl) (by kernel_rfl) (by kernel_rfl) (fun _ _ _ h => h) (Or.inl ⟨by rfl, ?_⟩) ?_
                rotate_left 1
                · (intro w; go_simp) <;> with_reducible rfl
                refine wpAny_take (i := 4) (v := ?_) rfl (by kernel_rfl) (by kernel_rfl) (by kernel_rfl) (fun _ _ _ h => h) (Or.inl ⟨by rfl, ?_⟩) ?_
                rotate_left 1
                · (intro w; go_simp) <;> with_reducible rfl
                refine wpAny_take (i := 5) (v := ?_) rfl (by kernel_rfl) (by kernel_rfl) (by kernel_rfl) (fun _ _ _ h => h) (Or.inl ⟨by rfl, ?_⟩) ?_
                rotate_left 1
                · (intro w; go_simp) <;> with_reducible rfl
                refine wpAny_take (i := 6) (v := ?_) rfl (by kernel_rfl) (by kernel_rfl) (by kernel_rfl) (fun _ _ _ h => h) (Or.inl ⟨by rfl, ?_⟩) ?_
                rotate_left 1
                · (intro w; go_simp) <;> with_reducible rfl
                refine wpAny_ready (rs := [1, 7]) (by kernel_rfl) (by simp) ?_
                refine AllReady.cons rfl (fun K hK => ?_) (AllReady.cons rfl (fun K hK => ?_) AllReady.nil)
                · go_simp
                  refine hK _ _ ?_
                  clear hK K
                  refine wpAny_ready (rs := [7]) (by kernel_rfl) (by simp) ?_
                  refine AllReady.cons rfl (fun K hK => ?_) AllReady.nil
                  go_simp
                  go_wp2_with fail
                  refine (HCALL.out).mono ?_
                  rintro e w16 ⟨x0, x1, x2, x3, x4, x5, x6, x7, rfl, hpt, hct, hst⟩
                  obtain ⟨t0, t1, t2, t3, t4, t5, t6, t7, t8, t9, t10, rfl, rfl, rfl, rfl, rfl, rfl, rfl, rfl⟩ := pform hpt
                  have HST : Hid (Step C wc w16) := Lib.hid (((Step.refl C wc).drew).trans hst)
                  have HR16 := Lib.hid (HRP3.out.call HST.out hct)
                  have p7b := HR16.out.bp.p7
                  have hP16 := HR16.out.bp.lt
                  have hsz16 : KB ≤ w16.heap.size := Nat.le_trans hKw3 HST.out.size
                  have HCP : Hid (C < P) := Lib.hid (by have := HRP3.out.hC; have := HRP3.out.hP; omega)
                  have HKW : Hid (∀ o, Kids KB (.slice ka ks.length kc) ks (w16.alloc o)) := Lib.hid (fun o => (HK3.out.same (fun g cs t fz hg hb => HST.out.block g (Array.getElem?_eq_some_iff.1 hb).1 (by have := HCP.out; omega))).below ((Below.refl _ w16).alloc (Nat.le_refl _) o))
                  have HJW : Hid (∀ o, PartAt (fun k => KB ≤ k ∧ (Value.slice ka ks.length kc).ownBlock ≠ some k) (w16.alloc o) RK.1 (.agg #[.string t0, .slice t1 t2 t3, .string t4, .bool t5, .int .i64 t6, .int .i64 t7, .int .i64 t8, .slice t9 RK.1.kids.length t10])) := Lib.hid (fun o => PartAt.keep (kept_below ((Below.refl _ w16).alloc (Nat.le_refl _) o)) (PartAt.keep (kept_mono (fun g hg => ⟨Nat.le_trans hKw3 hg, fun e => by have := (HOWN.out g e).2; have h9 : wc.heap.size ≤ g := hg; omega⟩)) hpt))
                  clear hpt hct hst
                  (try go_wp2_with fail)
                  refine wpAny_ready (rs := [8]) (by kernel_rfl) (by simp) ?_
                  refine AllReady.cons rfl (fun K hK => ?_) AllReady.nil
                  go_simp
                  refine hK _ _ ?_
                  clear hK K
                  refine wpAny_ready (rs := [9]) (by kernel_rfl) (by simp) ?_
                  refine AllReady.cons rfl (fun K hK => ?_) AllReady.nil
                  refine Kids.step8 rfl (.tmp 178) (.tmp 185) rfl KB _ (.slice ka ks.length kc) ks (HKW.out _) RK.1 _ _ _ _ _ _ _ _ (HJW.out _) w16.heap.size 1 (0, 0) (Kit.fresh_block w16 _ _) rfl rfl hlen (Nat.le_trans hsz16 (by simp)) ?_
                  intro g c w17 hk17 hg17
                  have HK17 := Lib.hid hk17
                  have HG17 := Lib.hid hg17
                  have HR17 := Lib.hid ((HR16.out.below ((Below.refl _ w16).alloc (Nat.le_refl _) _)).grown HRP'.out hg17 (fun r e => by have := (HOWN.out r e).1; omega))
                  have p7c := HR17.out.bp.p7
                  have f7c := HR17.out.bp.free 7
                  clear hk17 hg17
                  refine hK _ _ ?_
                  clear hK K
                  refine wpAny_take (i := 10) (v := ?_) rfl (by kernel_rfl) (by kernel_rfl) (by kernel_rfl) (fun _ _ _ h => h) (Or.inl ⟨by rfl, ?_⟩) ?_
                  rotate_left 1
                  · (intro w; go_simp) <;> with_reducible rfl
                  refine wpAny_ready (rs := [11]) (by kernel_rfl) (by simp) ?_
                  refine AllReady.cons rfl (fun K hK => ?_) AllReady.nil
                  go_simp
                  refine hK _ _ ?_
                  clear hK K
                  refine wpAny_done (by kernel_rfl) ?_ _
                  go_wp2_with fail
                  go_meet
                  have hll : (ks ++ [RK.1]).length = ks.length + 1 := by simp
                  refine ⟨ks ++ [RK.1], RK.2, some ⟨g, 0, none⟩, c, Lib.hid (fun h => by cases h), HKS, ?_, HRKC.out.2, Lib.hid ?_, Lib.hid ?_, Lib.hid ?_, Lib.hid ?_, ?_⟩
                  · rw [hll]; have := HRKC.out.1; omega
                  · rw [hll]; exact HR17.out.set7 _
                  · exact ((((HC3.out.keep (kept_block fun g2 cs t fz hg hb => ⟨hg, HST.out.block g2 (Array.getElem?_eq_some_iff.1 hb).1 (by have := HCP.out; have := hg.1; omega)⟩)).keep (kept_below ((Below.refl _ w16).alloc (Nat.le_refl _) _))).keep (kept_block fun g2 cs t fz hg hb => ⟨hg, HG17.out.block g2 (Array.getElem?_eq_some_iff.1 hb).1 (fun e => by have := (HOWN.out g2 e.symm).1; have := hg.2; omega)⟩)).keep (kept_set (g := P) (o := 7) (fun h => Nat.lt_irrefl _ h.1)))
                  · rw [hll]
                    exact HK17.out.same (fun g2 cs t fz hg hb => Below.heap_setCell _ _ _ _ (by show g2 ≠ P; omega))
                  · refine Rw.keep (Rw.keep (Rw.below (Rw.keep HL3.out (fun g2 hg hl => HST.out.block g2 hl (by have := (Rw.block HL3.out hg).1; have := HLB.out.1; omega))) ((Below.refl _ w16).alloc (Nat.le_refl _) _)) (fun g2 hg hl => HG17.out.block g2 hl (fun e => by have := (HOWN.out g2 e.symm).1; have := HLB.out.2.2 g2 hg; omega))) (fun g2 hg hl => Below.heap_setCell _ _ _ _ (by show g2 ≠ P; have := (Rw.block HL3.out hg).1; have := HLB.out.2.1; omega))
                  · have h8 := HG17.out.size
                    have h9 : w16.heap.size ≤ (w16.alloc (.cells #[.string t0, .slice t1 t2 t3, .string t4, .bool t5, .int .i64 t6, .int .i64 t7, .int .i64 t8, .slice t9 RK.1.kids.length t10] 42)).heap.size := by simp
                    have h10 : (w17.setCell ⟨P, 7, none⟩ (.slice (some ⟨g, 0, none⟩) (ks.length + 1) c)).heap.size = w17.heap.size := by simp [World.setCell]
                    omega
                · go_simp
                  go_wp2_with fail
                  refine (HCALL.out).mono ?_
                  rintro e w16 ⟨x0, x1, x2, x3, x4, x5, x6, x7, rfl, hpt, hct, hst⟩
                  obtain ⟨t0, t1, t2, t3, t4, t5, t6, t7, t8, t9, t10, rfl, rfl, rfl, rfl, rfl, rfl, rfl, rfl⟩ := pform hpt
                  have HST : Hid (Step C wc w16) := Lib.hid (((Step.refl C wc).drew).trans hst)
                  have HR16 := Lib.hid (HRP3.out.call HST.out hct)
                  have p7b := HR16.out.bp.p7
                  have hP16 := HR16.out.bp.lt
                  have hsz16 : KB ≤ w16.heap.size := Nat.le_trans hKw3 HST.out.size
                  have HCP : Hid (C < P) := Lib.hid (by have := HRP3.out.hC; have := HRP3.out.hP; omega)
                  have HKW : Hid (∀ o, Kids KB (.slice ka ks.length kc) ks (w16.alloc o)) := Lib.hid (fun o => (HK3.out.same (fun g cs t fz hg hb => HST.out.block g (Array.getElem?_eq_some_iff.1 hb).1 (by have := HCP.out; omega))).below ((Below.refl _ w16).alloc (Nat.le_refl _) o))
                  have HJW : Hid (∀ o, PartAt (fun k => KB ≤ k ∧ (Value.slice ka ks.length kc).ownBlock ≠ some k) (w16.alloc o) RK.1 (.agg #[.string t0, .slice t1 t2 t3, .string t4, .bool t5, .int .i64 t6, .int .i64 t7, .int .i64 t8, .slice t9 RK.1.kids.length t10])) := Lib.hid (fun o => PartAt.keep (kept_below ((Below.refl _ w16).alloc (Nat.le_refl _) o)) (PartAt.keep (kept_mono (fun g hg => ⟨Nat.le_trans hKw3 hg, fun e => by have := (HOWN.out g e).2; have h9 : wc.heap.size ≤ g := hg; omega⟩)) hpt))
                  clear hpt hct hst
                  (try go_wp2_with fail)
                  refine wpAny_ready (rs := [1, 8]) (by kernel_rfl) (by simp) ?_
                  refine AllReady.cons rfl (fun K hK => ?_) (AllReady.cons rfl (fun K hK => ?_) AllReady.nil)
                  · go_simp
                    refine hK _ _ ?_
                    clear hK K
                    refine wpAny_ready (rs := [8]) (by kernel_rfl) (by simp) ?_
                    refine AllReady.cons rfl (fun K hK => ?_) AllReady.nil
                    go_simp
                    refine hK _ _ ?_
                    clear hK K
                    refine wpAny_ready (rs := [9]) (by kernel_rfl) (by simp) ?_
                    refine AllReady.cons rfl (fun K hK => ?_) AllReady.nil
                    refine Kids.step8 rfl (.tmp 178) (.tmp 185) rfl KB _ (.slice ka ks.length kc) ks (HKW.out _) RK.1 _ _ _ _ _ _ _ _ (HJW.out _) w16.heap.size 1 (0, 0) (Kit.fresh_block w16 _ _) rfl rfl hlen (Nat.le_trans hsz16 (by simp)) ?_
                    intro g c w17 hk17 hg17
                    have HK17 := Lib.hid hk17
                    have HG17 := Lib.hid hg17
                    have HR17 := Lib.hid ((HR16.out.below ((Below.refl _ w16).alloc (Nat.le_refl _) _)).grown HRP'.out hg17 (fun r e => by have := (HOWN.out r e).1; omega))
                    have p7c := HR17.out.bp.p7
                    have f7c := HR17.out.bp.free 7
                    clear hk17 hg17
                    refine hK _ _ ?_
                    clear hK K
                    refine wpAny_take (i := 10) (v := ?_) rfl (by kernel_rfl) (by kernel_rfl) (by kernel_rfl) (fun _ _ _ h => h) (Or.inl ⟨by rfl, ?_⟩) ?_
                    rotate_left 1
                    · (intro w; go_simp) <;> with_reducible rfl
                    refine wpAny_ready (rs := [11]) (by kernel_rfl) (by simp) ?_
                    refine AllReady.cons rfl (fun K hK => ?_) AllReady.nil
                    go_simp
                    refine hK _ _ ?_
                    clear hK K
                    refine wpAny_done (by kernel_rfl) ?_ _
                    go_wp2_with fail
                    go_meet
                    have hll : (ks ++ [RK.1]).length = ks.length + 1 := by simp
                    refine ⟨ks ++ [RK.1], RK.2, some ⟨g, 0, none⟩, c, Lib.hid (fun h => by cases h), HKS, ?_, HRKC.out.2, Lib.hid ?_, Lib.hid ?_, Lib.hid ?_, Lib.hid ?_, ?_⟩
                    · rw [hll]; have := HRKC.out.1; omega
                    · rw [hll]; exact HR17.out.set7 _
                    · exact ((((HC3.out.keep (kept_block fun g2 cs t fz hg hb => ⟨hg, HST.out.block g2 (Array.getElem?_eq_some_iff.1 hb).1 (by have := HCP.out; have := hg.1; omega)⟩)).keep (kept_below ((Below.refl _ w16).alloc (Nat.le_refl _) _))).keep (kept_block fun g2 cs t fz hg hb => ⟨hg, HG17.out.block g2 (Array.getElem?_eq_some_iff.1 hb).1 (fun e => by have := (HOWN.out g2 e.symm).1; have := hg.2; omega)⟩)).keep (kept_set (g := P) (o := 7) (fun h => Nat.lt_irrefl _ h.1)))
                    · rw [hll]
                      exact HK17.out.same (fun g2 cs t fz hg hb => Below.heap_setCell _ _ _ _ (by show g2 ≠ P; omega))
                    · refine Rw.keep (Rw.keep (Rw.below (Rw.keep HL3.out (fun g2 hg hl => HST.out.block g2 hl (by have := (Rw.block HL3.out hg).1; have := HLB.out.1; omega))) ((Below.refl _ w16).alloc (Nat.le_refl _) _)) (fun g2 hg hl => HG17.out.block g2 hl (fun e => by have := (HOWN.out g2 e.symm).1; have := HLB.out.2.2 g2 hg; omega))) (fun g2 hg hl => Below.heap_setCell _ _ _ _ (by show g2 ≠ P; have := (Rw.block HL3.out hg).1; have := HLB.out.2.1; omega))
                    · have h8 := HG17.out.size
                      have h9 : w16.heap.size ≤ (w16.alloc (.cells #[.string t0, .slice t1 t2 t3, .string t4, .bool t5, .int .i64 t6, .int .i64 t7, .int .i64 t8, .slice t9 RK.1.kids.length t10] 42)).heap.size := by simp
                      have h10 : (w17.setCell ⟨P, 7, none⟩ (.slice (some ⟨g, 0, none⟩) (ks.length + 1) c)).heap.size = w17.heap.size := by simp [World.setCell]
                      omega
                  · go_simp
                    refine hK _ _ ?_
                    clear hK K
                    refine wpAny_ready (rs := [1]) (by kernel_rfl) (by simp) ?_
                    refine AllReady.cons rfl (fun K hK => ?_) AllReady.nil
                    go_simp
                    refine hK _ _ ?_
                    clear hK K
                    refine wpAny_ready (rs := [9]) (by kernel_rfl) (by simp) ?_
                    refine AllReady.cons rfl (fun K hK => ?_) AllReady.nil
                    refine Kids.step8 rfl (.tmp 178) (.tmp 185) rfl KB _ (.slice ka ks.length kc) ks (HKW.out _) RK.1 _ _ _ _ _ _ _ _ (HJW.out _) w16.heap.size 1 (0, 0) (Kit.fresh_block w16 _ _) rfl rfl hlen (Nat.le_trans hsz16 (by simp)) ?_
                    intro g c w17 hk17 hg17
                    have HK17 := Lib.hid hk17
                    have HG17 := Lib.hid hg17
                    have HR17 := Lib.hid ((HR16.out.below ((Below.refl _ w16).alloc (Nat.le_refl _) _)).grown HRP'.out hg17 (fun r e => by have := (HOWN.out r e).1; omega))
                    have p7c := HR17.out.bp.p7
                    have f7c := HR17.out.bp.free 7
                    clear hk17 hg17
                    refine hK _ _ ?_
                    clear hK K
                    refine wpAny_take (i := 10) (v := ?_) rfl (by kernel_rfl) (by kernel_rfl) (by kernel_rfl) (fun _ _ _ h => h) (Or.inl ⟨by rfl, ?_⟩) ?_
                    rotate_left 1
                    · (intro w; go_simp) <;> with_reducible rfl
                    refine wpAny_ready (rs := [11]) (by kernel_rfl) (by simp) ?_
                    refine AllReady.cons rfl (fun K hK => ?_) AllReady.nil
                    go_simp
                    refine hK _ _ ?_
                    clear hK K
                    refine wpAny_done (by kernel_rfl) ?_ _
                    go_wp2_with fail
                    go_meet
                    have hll : (ks ++ [RK.1]).length = ks.length + 1 := by simp
                    refine ⟨ks ++ [RK.1], RK.2, some ⟨g, 0, none⟩, c, Lib.hid (fun h => by cases h), HKS, ?_, HRKC.out.2, Lib.hid ?_, Lib.hid ?_, Lib.hid ?_, Lib.hid ?_, ?_⟩
                    · rw [hll]; have := HRKC.out.1; omega
                    · rw [hll]; exact HR17.out.set7 _
                    · exact ((((HC3.out.keep (kept_block fun g2 cs t fz hg hb => ⟨hg, HST.out.block g2 (Array.getElem?_eq_some_iff.1 hb).1 (by have := HCP.out; have := hg.1; omega)⟩)).keep (kept_below ((Below.refl _ w16).alloc (Nat.le_refl _) _))).keep (kept_block fun g2 cs t fz hg hb => ⟨hg, HG17.out.block g2 (Array.getElem?_eq_some_iff.1 hb).1 (fun e => by have := (HOWN.out g2 e.symm).1; have := hg.2; omega)⟩)).keep (kept_set (g := P) (o := 7) (fun h => Nat.lt_irrefl _ h.1)))
                    · rw [hll]
                      exact HK17.out.same (fun g2 cs t fz hg hb => Below.heap_setCell _ _ _ _ (by show g2 ≠ P; omega))
                    · refine Rw.keep (Rw.keep (Rw.below (Rw.keep HL3.out (fun g2 hg hl => HST.out.block g2 hl (by have := (Rw.block HL3.out hg).1; have := HLB.out.1; omega))) ((Below.refl _ w16).alloc (Nat.le_refl _) _)) (fun g2 hg hl => HG17.out.block g2 hl (fun e => by have := (HOWN.out g2 e.symm).1; have := HLB.out.2.2 g2 hg; omega))) (fun g2 hg hl => Below.heap_setCell _ _ _ _ (by show g2 ≠ P; have := (Rw.block HL3.out hg).1; have := HLB.out.2.1; omega))
                    · have h8 := HG17.out.size
                      have h9 : w16.heap.size ≤ (w16.alloc (.cells #[.string t0, .slice t1 t2 t3, .string t4, .bool t5, .int .i64 t6, .int .i64 t7, .int .i64 t8, .slice t9 RK.1.kids.length t10] 42)).heap.size := by simp
                      have h10 : (w17.setCell ⟨P, 7, none⟩ (.slice (some ⟨g, 0, none⟩) (ks.length + 1) c)).heap.size = w17.heap.size := by simp [World.setCell]
                      omega
              · have gm : ¬ (m : Int) < 30 := by omega
                have HKS : Hid (∀ f2, some f = some f2 → (ks, m) = kidS (readL s.data.toList d') f2 (if i < N then backL s.data.toList f2 p else b) ks m) := Lib.hid (fun f2 _ => by unfold kidS; rw [if_neg hm])
                go_wp2_with fail
                go_meet
                exact ⟨ks, m, ka, kc, Lib.hid (fun h => by cases h), HKS, hkm, hm30, HRP3, HC3, HK3, HL3, hKw3⟩
        case rest =>
          obtain ⟨ks', m', ka', kc', HKN, HKO, hkm', hm30', HRP5, HC5, HK5, HL5, hKw5⟩ := hcut
          rcases HE.out with ⟨x, hlt, hdr, hxt, hE0, hE1⟩ | ⟨hiN, hE⟩
          · have HIN := HI.out
            have HCN := HCI.out
            have HRN := HRI2.out
            rw [hdr] at HIN HCN HRN
            have HIN2 := Lib.hid HIN
            have HCN2 : Hid (x.1 = p ∧ Chain x.2.2 (ls.drop (i + 1)) kend) := Lib.hid HCN
            have HRN2 : Hid (p ≤ x.2.2 ∧ x.2.2 ≤ b ∧ Rise b x.2.2 ((ls.drop (i + 1)).map (·.2))) := Lib.hid HRN
            have HDR := Lib.hid hdr
            clear HIN HCN HRN hdr hxt HE
            have gN : ((i : Int) == (N : Int)) = false := by rw [beq_eq_false_iff_ne]; omega
            have gN2 : ¬ (i : Int) = (N : Int) := by omega
            cases E
            · have HMK0 := Lib.hid (hE0 rfl)
              have hil : i < ls.length := by rw [HN.out]; exact hlt
              obtain ⟨gl, cap, hv, hgl, r0, r1, r2⟩ := rowL_at0 HL5.out i hil
              injection hv with e1 e2 e3
              subst e1
              have hx : ls[i] = x := by
                have h := HDR.out
                rw [List.drop_eq_getElem_cons hil] at h
                exact (List.cons.inj h).1
              rw [hx] at r2
              have HINV2 : Hid (InvK TOT (readL s.data.toList d') MK s.data.toList b ks' (some x.2.2) x.2.2 (ls.drop (i + 1)) m') := Lib.hid (by
                cases o with
                | none =>
                  obtain ⟨rfl, rfl⟩ := HKN.out rfl
                  exact inv_mark0 HIN2.out HMK0.out
                | some f =>
                  have h1 := inv_mark1 HIN2.out HMK0.out
                  have h2 := HKO.out f rfl
                  rw [if_pos hlt] at h2
                  rw [← h2] at h1
                  exact h1)
              clear hE0 hE1 r0 r1 hil e2 e3 hx
              go_wp2_with fail
              go_roundg (N + 1 - (i + 1))
              case measure => omega
              case rel => exact ⟨i + 1, x.2.2, m', some x.2.2, ks', ka', kc', rfl, by omega, by go_num, rfl, HRN2.out.2.1, Lib.hid (by have := HPB.out; have := HRN2.out.1; omega), Lib.hid (fun f h => by injection h with h; subst h; have := HRN2.out.1; have := HPB.out; exact ⟨by omega, Nat.le_refl _⟩), hkm', hm30', HINV2, Lib.hid HCN2.out.2, Lib.hid HRN2.out.2.2, HRP5, HC5, HK5, HL5, hKw5⟩
            · have HTK : Hid (TOT = (ks', m')) := Lib.hid (by
                obtain ⟨q1, q2⟩ := hE1 rfl
                cases o with
                | none =>
                  obtain ⟨rfl, rfl⟩ := HKN.out rfl
                  exact inv_last0 HIN2.out q1 q2
                | some f =>
                  have h1 := inv_last1 HIN2.out q1 q2
                  have h2 := HKO.out f rfl
                  rw [if_pos hlt] at h2
                  rw [h1, h2])
              clear hE0 hE1
              have HFIN := Lib.hid (HRP5.out.fin HRP'.out (HC5.out.keep (kept_mono (fun g h => h.1))) hKP HK5.out)
              have z := HRP5.out.bp
              have y0 := z.p0
              have y1 := z.p1
              have y2 := z.p2
              have y3 := z.p3
              have y4 := z.p4
              have y5 := z.p5
              have y6 := z.p6
              have y7 := z.p7
              have x0 := Bx.p0 HRP5.out.zr
              have x1 := Bx.p1 HRP5.out.zr
              have x2 := Bx.p2 HRP5.out.zr
              have x3 := Bx.p3 HRP5.out.zr
              have x4 := Bx.p4 HRP5.out.zr
              have x5 := Bx.p5 HRP5.out.zr
              have x6 := Bx.p6 HRP5.out.zr
              have x7 := Bx.p7 HRP5.out.zr
              have v0 := Bx.free HRP5.out.zr 0
              have v1 := Bx.free HRP5.out.zr 1
              have v2 := Bx.free HRP5.out.zr 2
              have v3 := Bx.free HRP5.out.zr 3
              have v4 := Bx.free HRP5.out.zr 4
              have v5 := Bx.free HRP5.out.zr 5
              have v6 := Bx.free HRP5.out.zr 6
              have v7 := Bx.free HRP5.out.zr 7
              clear z
              go_wp2_with fail
              refine ⟨rfl, .agg #[.string ⟨ty.toArray⟩, .slice qa ps.length qc, .string ⟨EN.toArray⟩, .bool ab, .int .i64 (a : Int), .int .i64 (body : Int), .int .i64 (b : Int), .slice ka' ks'.length kc'], part_result rfl _ rfl HFIN.out.1, ?_⟩
              refine ⟨_, _, _, _, _, _, _, _, rfl, ?_, ?_, HFIN.out.2.2.2⟩
              · rw [HRD.out, HTK.out]; exact HFIN.out.2.1
              · rw [HRD.out, HTK.out]; exact HFIN.out.2.2.1
          · subst hE
            have gN : ((i : Int) == (N : Int)) = true := by rw [beq_iff_eq]; omega
            have gN2 : (i : Int) = (N : Int) := by omega
            have HTK : Hid (TOT = (ks', m')) := Lib.hid (by
              have h := HI.out
              rw [List.drop_of_length_le (by rw [HN.out]; omega)] at h
              cases o with
              | none =>
                obtain ⟨rfl, rfl⟩ := HKN.out rfl
                exact inv_end0 h
              | some f =>
                have h1 := inv_end1 h
                have h2 := HKO.out f rfl
                rw [if_neg (by omega)] at h2
                rw [h1, h2])
            clear HE
            have HFIN := Lib.hid (HRP5.out.fin HRP'.out (HC5.out.keep (kept_mono (fun g h => h.1))) hKP HK5.out)
            have z := HRP5.out.bp
            have y0 := z.p0
            have y1 := z.p1
            have y2 := z.p2
            have y3 := z.p3
            have y4 := z.p4
            have y5 := z.p5
            have y6 := z.p6
            have y7 := z.p7
            have x0 := Bx.p0 HRP5.out.zr
            have x1 := Bx.p1 HRP5.out.zr
            have x2 := Bx.p2 HRP5.out.zr
            have x3 := Bx.p3 HRP5.out.zr
            have x4 := Bx.p4 HRP5.out.zr
            have x5 := Bx.p5 HRP5.out.zr
            have x6 := Bx.p6 HRP5.out.zr
            have x7 := Bx.p7 HRP5.out.zr
            have v0 := Bx.free HRP5.out.zr 0
            have v1 := Bx.free HRP5.out.zr 1
            have v2 := Bx.free HRP5.out.zr 2
            have v3 := Bx.free HRP5.out.zr 3
            have v4 := Bx.free HRP5.out.zr 4
            have v5 := Bx.free HRP5.out.zr 5
            have v6 := Bx.free HRP5.out.zr 6
            have v7 := Bx.free HRP5.out.zr 7
            clear z
            go_wp2_with fail
            refine ⟨rfl, .agg #[.string ⟨ty.toArray⟩, .slice qa ps.length qc, .string ⟨EN.toArray⟩, .bool ab, .int .i64 (a : Int), .int .i64 (body : Int), .int .i64 (b : Int), .slice ka' ks'.length kc'], part_result rfl _ rfl HFIN.out.1, ?_⟩
            refine ⟨_, _, _, _, _, _, _, _, rfl, ?_, ?_, HFIN.out.2.2.2⟩
            · rw [HRD.out, HTK.out]; exact HFIN.out.2.1
            · rw [HRD.out, HTK.out]; exact HFIN.out.2.2.1
  · have HLEAF : Hid (readL s.data.toList d a b (n + 1) = (.mk ty ps EN ab a body b [], n + 1)) := Lib.hid (by
      rw [← HPART.out]
      rcases HLT.out rfl with h | h
      · subst h
        rw [readL]
      · exact read_leaf (by rw [HHAS.out, h]) d (n + 1))
    have z := HR13.out.bp
    have y0 := z.p0
    have y1 := z.p1
    have y2 := z.p2
    have y3 := z.p3
    have y4 := z.p4
    have y5 := z.p5
    have y6 := z.p6
    have y7 := z.p7
    have x0 := Bx.p0 HR13.out.zr
    have x1 := Bx.p1 HR13.out.zr
    have x2 := Bx.p2 HR13.out.zr
    have x3 := Bx.p3 HR13.out.zr
    have x4 := Bx.p4 HR13.out.zr
    have x5 := Bx.p5 HR13.out.zr
    have x6 := Bx.p6 HR13.out.zr
    have x7 := Bx.p7 HR13.out.zr
    have v0 := Bx.free HR13.out.zr 0
    have v1 := Bx.free HR13.out.zr 1
    have v2 := Bx.free HR13.out.zr 2
    have v3 := Bx.free HR13.out.zr 3
    have v4 := Bx.free HR13.out.zr 4
    have v5 := Bx.free HR13.out.zr 5
    have v6 := Bx.free HR13.out.zr 6
    have v7 := Bx.free HR13.out.zr 7
    clear z u0
    have HFIN := Lib.hid (HR13.out.fin (ks := []) HRP'.out HC13.out (Nat.lt_succ_self P) (kids_empty _ _))
    go_wp2_with fail
    refine ⟨rfl, .agg #[.string ⟨ty.toArray⟩, .slice qa ps.length qc, .string ⟨EN.toArray⟩, .bool ab, .int .i64 (a : Int), .int .i64 (body : Int), .int .i64 (b : Int), .slice none 0 0], part_result rfl _ rfl HFIN.out.1, ?_⟩
    refine ⟨_, _, _, _, _, _, _, _, rfl, ?_, ?_, HFIN.out.2.2.2⟩
    · rw [HLEAF.out]; exact HFIN.out.2.1
    · rw [HLEAF.out]; exact HFIN.out.2.2.1
end Go.Proofs.YtnnbbjdidbggmaaGreatDoor.Pt
namespace Go.Proofs.YtnnbbjdidbggmaaGreatDoor.Pt
open Go Go.RowKit Go.Joins Kit F0

theorem rpart_all (s : ByteArray) (hs : s.size ≤ 32768) : ∀ d, d ≤ 6 → RPartOk s d
  | 0, h => rpart_in s hs 0 h (fun d' e => by cases e)
  | d + 1, h => rpart_in s hs (d + 1) h (fun d' e => by
    have : d' = d := by omega
    subst this
    exact rpart_all s hs d' (by omega))

set_option maxHeartbeats 4000000 in
set_option maxRecDepth 100000 in
theorem rtree_any (s : ByteArray) (w : World) (hs : s.size ≤ 32768) :
    Calls Tryz.prog 25 #[.string s] w fun e w' => ∃ c0 c1 c2 c3 c4 c5 c6 c7, e = .returned (.agg #[c0, c1, c2, c3, c4, c5, c6, c7]) ∧ PartAt (fun g => w.heap.size ≤ g) w' (treeL s.data.toList) (.agg #[c0, c1, c2, c3, c4, c5, c6, c7]) ∧ Below w.heap.size w w' := by
  have HR := Lib.hid (rpart_all s hs 6 (Nat.le_refl _))
  have HTL : Hid (treeL s.data.toList = (readL s.data.toList 6 0 s.size (0 + 1)).1) := Lib.hid (by unfold treeL; rw [Lib.size_eq])
  go_enter Tryz.func25, Tryz.ntmps25
  go_wp2_with fail
  have hct : Ct s (w.heap.size + 1) 0 ((w.alloc (.cells #[.string ⟨#[]⟩, .slice none 0 0, .string ⟨#[]⟩, .bool false, .int .i64 0, .int .i64 0, .int .i64 0, .slice none 0 0] 42)).alloc (.cells #[.string s, .int .i64 0] 79)) := by
    have := Kit.fresh_block (w.alloc (.cells #[.string ⟨#[]⟩, .slice none 0 0, .string ⟨#[]⟩, .bool false, .int .i64 0, .int .i64 0, .int .i64 0, .slice none 0 0] 42)) #[.string s, .int .i64 0] 79
    simpa [Ct] using this
  have hbr : Zx w.heap.size ((w.alloc (.cells #[.string ⟨#[]⟩, .slice none 0 0, .string ⟨#[]⟩, .bool false, .int .i64 0, .int .i64 0, .int .i64 0, .slice none 0 0] 42)).alloc (.cells #[.string s, .int .i64 0] 79)) := (newP_zx w).same (Below.heap_alloc _ _ _ (by simp))
  have hb2 : Below w.heap.size w ((w.alloc (.cells #[.string ⟨#[]⟩, .slice none 0 0, .string ⟨#[]⟩, .bool false, .int .i64 0, .int .i64 0, .int .i64 0, .slice none 0 0] 42)).alloc (.cells #[.string s, .int .i64 0] 79)) := ((Below.refl _ w).alloc (Nat.le_refl _) _).alloc (by simp) _
  have hsz : ((w.alloc (.cells #[.string ⟨#[]⟩, .slice none 0 0, .string ⟨#[]⟩, .bool false, .int .i64 0, .int .i64 0, .int .i64 0, .slice none 0 0] 42)).alloc (.cells #[.string s, .int .i64 0] 79)).heap.size = w.heap.size + 2 := by simp
  have HC := HR.out 0 s.size 0 (w.heap.size + 1) _ (Nat.zero_le _) (Nat.le_refl _) (Nat.zero_le _) hct
  generalize ((w.alloc (.cells #[.string ⟨#[]⟩, .slice none 0 0, .string ⟨#[]⟩, .bool false, .int .i64 0, .int .i64 0, .int .i64 0, .slice none 0 0] 42)).alloc (.cells #[.string s, .int .i64 0] 79)) = W at *
  refine HC.mono ?_
  rintro e w2 ⟨c0, c1, c2, c3, c4, c5, c6, c7, rfl, hp, -, hst⟩
  obtain ⟨x0, a1, l1, m1, x2, x3, x4, x5, x6, a7, l7, m7, rfl, rfl, rfl, rfl, rfl, rfl, rfl, rfl⟩ := part_forms hp
  have hbr2 : Zx w.heap.size w2 := hbr.same (hst.block _ (by omega) (by omega))
  have q0 := Bx.p0 hbr2
  have q1 := Bx.p1 hbr2
  have q2 := Bx.p2 hbr2
  have q3 := Bx.p3 hbr2
  have q4 := Bx.p4 hbr2
  have q5 := Bx.p5 hbr2
  have q6 := Bx.p6 hbr2
  have q7 := Bx.p7 hbr2
  have e0 := Bx.free hbr2 0
  have e1 := Bx.free hbr2 1
  have e2 := Bx.free hbr2 2
  have e3 := Bx.free hbr2 3
  have e4 := Bx.free hbr2 4
  have e5 := Bx.free hbr2 5
  have e6 := Bx.free hbr2 6
  have e7 := Bx.free hbr2 7
  have HFIN := Lib.hid (And.intro (Bx.setAll hbr2 (.string x0) (.slice a1 l1 m1) (.string x2) (.bool x3) (.int .i64 x4) (.int .i64 x5) (.int .i64 x6) (.slice a7 l7 m7)) (And.intro (PartAt.keep (finW_kept (Q' := fun g => w.heap.size ≤ g) w2 w.heap.size (.string x0) (.slice a1 l1 m1) (.string x2) (.bool x3) (.int .i64 x4) (.int .i64 x5) (.int .i64 x6) (.slice a7 l7 m7) (fun g hg => ⟨by omega, by omega⟩)) hp) ((((((((((hst.below hb2 (by omega) hb2.size).setCell (p := ⟨w.heap.size, 0, none⟩) (Nat.le_refl _) (.string x0)).setCell (p := ⟨w.heap.size, 1, none⟩) (Nat.le_refl _) (.slice a1 l1 m1)).setCell (p := ⟨w.heap.size, 2, none⟩) (Nat.le_refl _) (.string x2)).setCell (p := ⟨w.heap.size, 3, none⟩) (Nat.le_refl _) (.bool x3)).setCell (p := ⟨w.heap.size, 4, none⟩) (Nat.le_refl _) (.int .i64 x4)).setCell (p := ⟨w.heap.size, 5, none⟩) (Nat.le_refl _) (.int .i64 x5)).setCell (p := ⟨w.heap.size, 6, none⟩) (Nat.le_refl _) (.int .i64 x6)).setCell (p := ⟨w.heap.size, 7, none⟩) (Nat.le_refl _) (.slice a7 l7 m7)))))
  clear hbr hbr2 hp hst hct hsz hb2 HC
  go_wp2_with fail
  refine ⟨rfl, .agg #[.string x0, .slice a1 l1 m1, .string x2, .bool x3, .int .i64 x4, .int .i64 x5, .int .i64 x6, .slice a7 l7 m7], part_result rfl _ rfl HFIN.out.1, ?_⟩
  refine ⟨_, _, _, _, _, _, _, _, rfl, ?_, HFIN.out.2.2⟩
  rw [HTL.out]
  exact HFIN.out.2.1
end Go.Proofs.YtnnbbjdidbggmaaGreatDoor.Pt
namespace Go.Proofs.YtnnbbjdidbggmaaGreatDoor.R1
open Go Go.RowKit Go.Joins Tx

set_option maxHeartbeats 1000000 in
theorem number_core (s : ByteArray) (w : World) (h0 : 0 < s.size) (h1 : s.size ≤ 10) (h2 : s.size ≤ 1 ∨ ¬ (s[0].toNat : Int) = 48) :
    Calls Tryz.prog 27 #[.string s] w fun e w' => e = .returned (numV (numL s.data.toList)) ∧ w = w' := by
  have hE := toList_isEmpty (s := s) (by omega)
  have hopen : Hid (numL s.data.toList = match numFrom s.data.toList 0 with | some n => if n ≤ 4294967295 then some n else none | none => none) :=
    numL_open (data_ne (by omega)) (by rw [← Lib.size_eq]; exact h1) (by
      rw [data_head h0, ← Lib.size_eq]
      rintro ⟨e, h⟩
      have e' := Option.some.inj e
      rcases h2 with h2 | h2
      · omega
      · rw [e'] at h2; exact h2 rfl)
  have g1 : (s.size : Int) ≤ 10 := by omega
  have hstart : Hid (numFrom (s.data.toList.drop 0) 0 = numFrom s.data.toList 0) := by show _ = _; rfl
  have hcase : (s.size : Int) ≤ 1 ∨ ((1 : Int) < s.size ∧ ((s[0].toNat : Int) == 48) = false) := by
    rw [beq_eq_false_iff_ne]
    omega
  rcases hcase with h3 | ⟨h3, h4⟩
  all_goals
    clear h2
    go_enter Tryz.func27, Tryz.ntmps27
    go_wp2_with fail
    go_loop [4, 5] (fun n i => ∃ k m : Nat, k ≤ s.size ∧ m < 10 ^ k ∧ Hid (numFrom (s.data.toList.drop k) m = numFrom s.data.toList 0) ∧ i = .int .i64 k ∧ n = .int .i64 m) (fun _ i => s.size - (intOf i).toNat)
    case atStart => exact ⟨0, 0, by omega, by decide, hstart, rfl, rfl⟩
    case round =>
      obtain ⟨k, m, hk, hm, hn, rfl, rfl⟩ := hrel
      have hp := pow_le k (by omega)
      have hm' : m ≤ 10000000000 := by omega
      clear hp
      have HM : Hid (m < 10 ^ k) := hm
      clear hm
      by_cases hlt : k < s.size
      · have hl : k < s.data.toList.length := by rw [← Lib.size_eq]; exact hlt
        have hst := numFrom_step s.data.toList k m hl
        rw [byte_get s k hlt] at hst
        have HST := Lib.hid hst
        clear hst
        by_cases hd : 48 ≤ s[k].toNat ∧ s[k].toNat ≤ 57
        · obtain ⟨d1, d2⟩ := hd
          have g2 : (48 : Int) ≤ s[k].toNat := by omega
          have g3 : (s[k].toNat : Int) ≤ 57 := by omega
          go_wp2
          go_round
          case rel =>
            refine ⟨k + 1, m * 10 + (s[k].toNat - 48), by omega, pow_next HM.out (by omega), ?_, by go_num, ?_⟩
            · show _ = _
              rw [← hn.out, HST.out, if_pos ((isDig_iff _).2 ⟨d1, d2⟩)]
            · congr 1; omega
          case measure => simp [intOf]; omega
        · have hnone : Hid (numL s.data.toList = none) := by
            show _ = _
            rw [hopen.out, ← hn.out, HST.out, if_neg (fun h => hd ((isDig_iff _).1 h))]
          have hd' : ¬ ((48 : Int) ≤ s[k].toNat ∧ (s[k].toNat : Int) ≤ 57) := by omega
          clear hd
          go_wp2
          all_goals
            go_ret2
            exact ⟨ret_num_none hnone.out, rfl⟩
      · have he : k = s.size := by omega
        have hend : Hid (numL s.data.toList = if m ≤ 4294967295 then some m else none) := by
          show _ = _
          rw [hopen.out, ← hn.out, List.drop_of_length_le (by rw [← Lib.size_eq]; omega)]
          rfl
        clear he
        by_cases hg : 4294967295 < m
        · have g4 : (4294967295 : Int) < m := by omega
          go_wp2
          go_ret2
          exact ⟨ret_num_none (by rw [hend.out, if_neg (by omega)]), rfl⟩
        · have g4 : (m : Int) ≤ 4294967295 := by omega
          go_wp2
          go_ret2
          exact ⟨ret_num_some (by rw [hend.out, if_pos (by omega)]), rfl⟩

set_option maxHeartbeats 400000 in
theorem number_any (s : ByteArray) (w : World) :
    Calls Tryz.prog 27 #[.string s] w fun e w' => e = .returned (numV (numL s.data.toList)) ∧ w = w' := by
  by_cases h0 : s.size = 0
  · have e := toList_nil h0
    have hn : Hid (numL s.data.toList = none) := by
      rw [Lib.toList_data] at e
      rw [e]; rfl
    go_enter Tryz.func27, Tryz.ntmps27
    go_wp2
    go_ret2
    exact ⟨ret_num_none hn.out, rfl⟩
  have hE := toList_isEmpty h0
  by_cases h1 : 10 < s.size
  · have hn : Hid (numL s.data.toList = none) := by
      show _ = _
      unfold numL
      rw [if_pos (Or.inr (Or.inl (by rw [← Lib.size_eq]; exact h1)))]
    have g : (10 : Int) < s.size := by omega
    go_enter Tryz.func27, Tryz.ntmps27
    go_wp2
    go_ret2
    exact ⟨ret_num_none hn.out, rfl⟩
  by_cases h2 : ((s[0]'(by omega)).toNat : Int) = 48 ∧ 1 < s.size
  · have hn : Hid (numL s.data.toList = none) := by
      show _ = _
      unfold numL
      refine if_pos (Or.inr (Or.inr ⟨?_, by rw [← Lib.size_eq]; exact h2.2⟩))
      rw [data_head (by omega)]
      congr 1
      refine UInt8.toNat_inj.1 ?_
      have := h2.1
      simp only [UInt8.reduceToNat]
      omega
    have g : (s.size : Int) ≤ 10 := by omega
    obtain ⟨g1, g2⟩ := h2
    have g3 : (1 : Int) < s.size := by omega
    go_enter Tryz.func27, Tryz.ntmps27
    go_wp2
    go_ret2
    exact ⟨ret_num_none hn.out, rfl⟩
  · exact number_core s w (by omega) (by omega) (by omega)

end Go.Proofs.YtnnbbjdidbggmaaGreatDoor.R1
