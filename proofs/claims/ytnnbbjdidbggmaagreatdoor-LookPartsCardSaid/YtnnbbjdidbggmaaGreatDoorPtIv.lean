/-
  What the program's read keeps between two kids: the part in memory, the kids so far in a row of their own, the counter; that what turns no block of cells leaves it. No law in this text. Conditions: none.
-/
import Derived.Test.YtnnbbjdidbggmaaGreatDoorPtSt
import Derived.Test.YtnnbbjdidbggmaaGreatDoorPtKids
namespace Go.Proofs.YtnnbbjdidbggmaaGreatDoor.Pt
open Go Go.RowKit Go.Joins Kit F0

/-- Between two kids: the part in block G, its kids in a row from block R on; the iterator's boxes from K on. -/
structure Ms (s : ByteArray) (i : Int) (C B G K R : Nat) (w : World) (c0 c1 c2 c3 c4 c5 c6 kv : Value) (ps : List Fl) (bd : List UInt8) (a0 t0 : Nat) (ks : List P) (v : Nat) (W : World) : Prop where
  st : St s i C B G w c0 c1 c2 c3 c4 c5 c6 kv W
  kids : Kids R kv ks W
  pars : CellsAt (fun g => G < g ∧ g < R) W ps.length c1 (fC ps)
  box : BoxK s bd a0 t0 (K + 1) (K + 1 + 1) K (K + 1 + 1 + 1) (K + 1 + 1 + 1 + 1) W
  cnt : Boxed W C 3 (.int .i64 (v : Int))
  hGK : G < K
  hKR : R = K + 5
  size : R ≤ W.heap.size
def Iv (s : ByteArray) (i : Int) (C B G K R : Nat) (w : World) (c0 c1 c2 c3 c4 c5 c6 : Value) (ps : List Fl) (bd : List UInt8) (a0 t0 d n : Nat) (rd : Nat → Nat → Nat → P × Nat) (pre : List (Nat × Nat)) (W : World) : Prop :=
  ∃ (ks : List P) (m v : Nat) (kv : Value), Fd rd n pre ks m ∧ Cnt m v d ∧ ks.length + n ≤ m ∧ Ms s i C B G K R w c0 c1 c2 c3 c4 c5 c6 kv ps bd a0 t0 ks v W
def Ix (s : ByteArray) (i : Int) (C B G K R : Nat) (w : World) (c0 c1 c2 c3 c4 c5 c6 : Value) (ps : List Fl) (bd : List UInt8) (a0 t0 d n : Nat) (rd : Nat → Nat → Nat → P × Nat) (pre : List (Nat × Nat)) (W : World) : Prop :=
  ∃ (ks : List P) (m v : Nat) (kv : Value), (∀ rest, foldK rd (pre ++ rest) n = (ks, m)) ∧ Cnt m v d ∧ Ms s i C B G K R w c0 c1 c2 c3 c4 c5 c6 kv ps bd a0 t0 ks v W
theorem BoxK.cells {s : ByteArray} {bd : List UInt8} {a0 t0 A1 A2 A3 A4 A5 : Nat} {W W' : World} (h : BoxK s bd a0 t0 A1 A2 A3 A4 A5 W) (hc : ∀ (g : Nat) cs t f, W.heap[g]? = some (Obj.cells cs t f) → W'.heap[g]? = W.heap[g]?) : BoxK s bd a0 t0 A1 A2 A3 A4 A5 W' := by
  have ne : ∀ {A : Nat} {t : TypeId} {v : Value}, Boxed W A t v → Boxed W' A t v := fun hA => (hc _ _ _ _ hA).trans hA
  exact ⟨ne h.1, ne h.2.1, ne h.2.2.1, ne h.2.2.2.1, ne h.2.2.2.2⟩
theorem Ms.own {s : ByteArray} {i : Int} {C B G K R : Nat} {w : World} {c0 c1 c2 c3 c4 c5 c6 kv : Value} {ps : List Fl} {bd : List UInt8} {a0 t0 : Nat} {ks : List P} {v : Nat} {W W' : World} {row : Option Nat} {B' : Nat} (h : Ms s i C B G K R w c0 c1 c2 c3 c4 c5 c6 kv ps bd a0 t0 ks v W) (hB : w.heap.size ≤ B') (hg : W.grownBy W' row) (hr : ∀ r, row = some r → B' ≤ r ∧ ∃ o : Obj, W.heap[r]? = some o ∧ o.isCells = false) : Ms s i C B G K R w c0 c1 c2 c3 c4 c5 c6 kv ps bd a0 t0 ks v W' := by
  have hc := own_cells hg hr
  refine ⟨h.st.cells hc (h.st.st.grown hg (fun r e => Nat.le_trans hB (hr r e).1)), h.kids.same (fun g cs t f _ hb => hc g cs t f hb), h.pars.keep (kept_block fun g cs t f hq hb => ⟨hq, hc g cs t f hb⟩), h.box.cells hc, (hc _ _ _ _ h.cnt).trans h.cnt, h.hGK, h.hKR, Nat.le_trans h.size hg.size⟩
/-- What turns the counter, and nothing else that was there. -/
theorem Ms.count {s : ByteArray} {i : Int} {C B G K R : Nat} {w : World} {c0 c1 c2 c3 c4 c5 c6 kv : Value} {ps : List Fl} {bd : List UInt8} {a0 t0 : Nat} {ks : List P} {v v' : Nat} {W W' : World} (h : Ms s i C B G K R w c0 c1 c2 c3 c4 c5 c6 kv ps bd a0 t0 ks v W) (k : Step C W W') (hc : Boxed W' C 3 (.int .i64 (v' : Int))) : Ms s i C B G K R w c0 c1 c2 c3 c4 c5 c6 kv ps bd a0 t0 ks v' W' := by
  have hC := h.st.hC
  have hG := h.st.hG
  have hK := h.hGK
  have hR := h.hKR
  have nb : ∀ (g : Nat) cs t f, C < g → W.heap[g]? = some (Obj.cells cs t f) → W'.heap[g]? = W.heap[g]? := fun g cs t f hg hb => k.block g (Array.getElem?_eq_some_iff.1 hb).1 (by omega)
  obtain ⟨b1, b2, b3, b4, b5⟩ := h.box
  refine ⟨h.st.step k, h.kids.same (fun g cs t f hg hb => nb g cs t f (by omega) hb), h.pars.keep (kept_block fun g cs t f hq hb => ⟨hq, nb g cs t f (by omega) hb⟩), ⟨k.box b1 (by omega), k.box b2 (by omega), k.box b3 (by omega), k.box b4 (by omega), k.box b5 (by omega)⟩, hc, hK, hR, Nat.le_trans h.size k.size⟩
theorem put8_grown (W : World) (g q : Nat) (c0 c1 c2 c3 c4 c5 c6 c7 : Value) : W.grownBy (put8 W g q c0 c1 c2 c3 c4 c5 c6 c7) (some g) :=
  ⟨by simp [put8, World.setCell], by simp [put8, World.setCell], by simp [put8, World.setCell], by rw [put8_size]; exact Nat.le_refl _, fun k _ hk => put8_other W g q c0 c1 c2 c3 c4 c5 c6 c7 k (fun e => hk (by rw [e]))⟩
theorem KidsZ.same {R g n c : Nat} {ks : List P} {W W' : World} (h : KidsZ R g n c ks W) (hk : ∀ (k : Nat) cs t f, R ≤ k → W.heap[k]? = some (Obj.cells cs t f) → W'.heap[k]? = W.heap[k]?) : KidsZ R g n c ks W' := by
  obtain ⟨hl, cs, h1, h2⟩ := h
  refine ⟨hl, cs, ?_, h2.keep (kept_block fun k cs t f hq hb => ⟨hq, hk k cs t f hq.1 hb⟩)⟩
  obtain ⟨q1, q2⟩ := h1
  refine ⟨q1, ?_⟩
  rcases q2 with q2 | ⟨g', cap, cur, hv, hg, hh, r⟩
  · exact Or.inl q2
  · exact Or.inr ⟨g', cap, cur, hv, hg, by rw [hk g' _ _ _ hg hh]; exact hh, r⟩
/-- What lies in the place for one more. -/
theorem KidsZ.at {R g n c : Nat} {ks : List P} {W : World} (h : KidsZ R g n c ks W) : R ≤ g ∧ (∀ j, j < 8 → W.cell? ⟨g, n * 8 + j, none⟩ = zeroC[j]? ∧ W.frozen? ⟨g, n * 8 + j, none⟩ = false) := by
  obtain ⟨hl, cs, hown, _⟩ := h
  have hcl : cs.length = n * 8 := by
    have := hown.1
    rw [List.length_append] at this
    simp [zeroC] at this
    omega
  have h2 := hown.2
  rcases h2 with ⟨h2, _⟩ | ⟨g', cap, cur, hv, hb, hh, _⟩
  · cases h2
  · injection hv with e1 e2 e3
    injection e1 with e1
    injection e1 with e1
    subst e1
    refine ⟨hb, fun j hj => ⟨?_, Lib.frozen_of_heap hh _⟩⟩
    rw [hown.cellAt (n * 8 + j) (by omega), List.getElem?_append_right (by omega)]
    congr 1
    omega
/-- What the append of a kid leaves, its cells and the slice stored in either order. -/
theorem Ms.app {s : ByteArray} {i : Int} {C B G K R S0 : Nat} {w : World} {c0 c1 c2 c3 c4 c5 c6 kv : Value} {ps : List Fl} {bd : List UInt8} {a0 t0 : Nat} {ks : List P} {v : Nat} {W4 W5 : World} (h : Ms s i C B G K R w c0 c1 c2 c3 c4 c5 c6 kv ps bd a0 t0 ks v W4) {j : P} {d0 d1 d2 d3 d4 d5 d6 d7 : Value}
    (hj : PartAt (fun k => S0 ≤ k) W4 j (.agg #[d0, d1, d2, d3, d4, d5, d6, d7])) (hS0 : R ≤ S0) (hrow : ∀ r, kv.ownBlock = some r → r < S0) {g c : Nat} (hz : KidsZ R g ks.length c ks W5) (hgr : W4.grownBy W5 kv.ownBlock) (hat : kv.ownBlock = some g ∨ g = W4.heap.size) :
    Ms s i C B G K R w c0 c1 c2 c3 c4 c5 c6 (.slice (some ⟨g, 0, none⟩) (ks.length + 1) c) ps bd a0 t0 (ks ++ [j]) v ((put8 W5 g (ks.length * 8) d0 d1 d2 d3 d4 d5 d6 d7).setCell ⟨G, 7, none⟩ (.slice (some ⟨g, 0, none⟩) (ks.length + 1) c)) ∧
    Ms s i C B G K R w c0 c1 c2 c3 c4 c5 c6 (.slice (some ⟨g, 0, none⟩) (ks.length + 1) c) ps bd a0 t0 (ks ++ [j]) v (put8 (W5.setCell ⟨G, 7, none⟩ (.slice (some ⟨g, 0, none⟩) (ks.length + 1) c)) g (ks.length * 8) d0 d1 d2 d3 d4 d5 d6 d7) ∧
    St s i C B G w c0 c1 c2 c3 c4 c5 c6 kv W5 ∧ W4.heap.size ≤ W5.heap.size := by
  have hC := h.st.hC
  have hG := h.st.hG
  have hK := h.hGK
  have hR := h.hKR
  have hgR := hz.at.1
  have hrR : ∀ r, kv.ownBlock = some r → R ≤ r := fun r e => (h.kids.block e).1
  have st5 : St s i C B G w c0 c1 c2 c3 c4 c5 c6 kv W5 := h.st.grown hgr (fun r e => by have := hrR r e; omega)
  have hj5 : PartAt (fun k => R ≤ k ∧ k ≠ g) W5 j (.agg #[d0, d1, d2, d3, d4, d5, d6, d7]) := hj.keep (kept_block fun k _ _ _ hk hb => by
    have hl := (Array.getElem?_eq_some_iff.1 hb).1
    refine ⟨⟨Nat.le_trans hS0 hk, fun e => ?_⟩, hgr.block k hl (fun e => by have := hrow k e.symm; omega)⟩
    rcases hat with hat | hat
    · have := hrow g hat; omega
    · omega)
  have nb : ∀ (k : Nat), k < R → k ≠ G → k < W4.heap.size → ∀ (W' : World), (∀ x : Nat, x ≠ G → x ≠ g → W'.heap[x]? = W5.heap[x]?) → W'.heap[k]? = W4.heap[k]? := fun k hk hkG hl W' hW => (hW k hkG (by omega)).trans (hgr.block k hl (fun e => by have := hrR k e.symm; omega))
  have fin : ∀ (W' : World), (∀ x : Nat, x ≠ G → x ≠ g → W'.heap[x]? = W5.heap[x]?) → W5.heap.size = W'.heap.size → St s i C B G w c0 c1 c2 c3 c4 c5 c6 (.slice (some ⟨g, 0, none⟩) (ks.length + 1) c) W' → Kids R (.slice (some ⟨g, 0, none⟩) (ks.length + 1) c) (ks ++ [j]) W' →
      Ms s i C B G K R w c0 c1 c2 c3 c4 c5 c6 (.slice (some ⟨g, 0, none⟩) (ks.length + 1) c) ps bd a0 t0 (ks ++ [j]) v W' := by
    intro W' hW hsz hst hkd
    have bx : ∀ {A : Nat} {t : TypeId} {u : Value}, A < R → A ≠ G → Boxed W4 A t u → Boxed W' A t u := fun hA hAG hb => (nb _ hA hAG hb.lt W' hW).trans hb
    obtain ⟨b1, b2, b3, b4, b5⟩ := h.box
    exact ⟨hst, hkd, h.pars.keep (kept_block fun k _ _ _ hq hb => ⟨hq, nb k hq.2 (by omega) (Array.getElem?_eq_some_iff.1 hb).1 W' hW⟩), ⟨bx (by omega) (by omega) b1, bx (by omega) (by omega) b2, bx (by omega) (by omega) b3, bx (by omega) (by omega) b4, bx (by omega) (by omega) b5⟩, bx (by omega) (by omega) h.cnt, hK, hR, by have := h.size; have := hgr.size; omega⟩
  refine ⟨fin _ (fun x hx hxg => ?_) ?_ ?_ ?_, fin _ (fun x hx hxg => ?_) ?_ ?_ ?_, st5, hgr.size⟩
  · rw [Below.heap_setCell _ _ _ _ hx, put8_other _ _ _ _ _ _ _ _ _ _ _ _ hxg]
  · rw [show ((put8 W5 g (ks.length * 8) d0 d1 d2 d3 d4 d5 d6 d7).setCell ⟨G, 7, none⟩ (.slice (some ⟨g, 0, none⟩) (ks.length + 1) c)).heap.size = (put8 W5 g (ks.length * 8) d0 d1 d2 d3 d4 d5 d6 d7).heap.size by simp [World.setCell], put8_size]
  · have s6 := st5.grown (put8_grown W5 g (ks.length * 8) d0 d1 d2 d3 d4 d5 d6 d7) (fun r e => by cases e; omega)
    exact s6.setG 7 _ (s6.bp.set7 _)
  · exact (hz.put j d0 d1 d2 d3 d4 d5 d6 d7 hj5).same (fun k _ _ _ hk _ => Below.heap_setCell _ _ _ _ (by show k ≠ G; omega))
  · rw [put8_other _ _ _ _ _ _ _ _ _ _ _ _ hxg, Below.heap_setCell _ _ _ _ hx]
  · rw [put8_size]; simp [World.setCell]
  · exact (st5.setG 7 _ (st5.bp.set7 _)).grown (put8_grown _ g (ks.length * 8) d0 d1 d2 d3 d4 d5 d6 d7) (fun r e => by cases e; omega)
  · exact (hz.same (fun k _ _ _ hk _ => Below.heap_setCell W5 ⟨G, 7, none⟩ _ k (by show k ≠ G; omega))).put j d0 d1 d2 d3 d4 d5 d6 d7 (hj5.keep (kept_block fun k _ _ _ hk _ => ⟨hk, Below.heap_setCell W5 ⟨G, 7, none⟩ _ k (by show k ≠ G; have := hk.1; omega)⟩))
theorem put8_keeps (W : World) (g q : Nat) (c0 c1 c2 c3 c4 c5 c6 c7 : Value) : KeepsOthers W (put8 W g q c0 c1 c2 c3 c4 c5 c6 c7) :=
  (((((((KeepsOthers.setCell W ⟨g, q, none⟩ c0).trans (KeepsOthers.setCell _ ⟨g, q + 1, none⟩ c1)).trans (KeepsOthers.setCell _ ⟨g, q + 2, none⟩ c2)).trans (KeepsOthers.setCell _ ⟨g, q + 3, none⟩ c3)).trans (KeepsOthers.setCell _ ⟨g, q + 4, none⟩ c4)).trans (KeepsOthers.setCell _ ⟨g, q + 5, none⟩ c5)).trans (KeepsOthers.setCell _ ⟨g, q + 6, none⟩ c6)).trans (KeepsOthers.setCell _ ⟨g, q + 7, none⟩ c7)
theorem app_keeps {R B : Nat} {kv : Value} {ks : List P} {W4 W5 : World} (h : Kids R kv ks W4) (hgr : W4.grownBy W5 kv.ownBlock) (g q G : Nat) (d0 d1 d2 d3 d4 d5 d6 d7 u : Value) :
    KeepsFrom B W4 ((put8 W5 g q d0 d1 d2 d3 d4 d5 d6 d7).setCell ⟨G, 7, none⟩ u) ∧ KeepsFrom B W4 (put8 (W5.setCell ⟨G, 7, none⟩ u) g q d0 d1 d2 d3 d4 d5 d6 d7) := by
  have h5 : KeepsFrom B W4 W5 := ⟨hgr.size, fun k o _ hk ho => (hgr.block k (Array.getElem?_eq_some_iff.1 hk).1 (fun e => by
    obtain ⟨_, cur, hh⟩ := h.block e.symm
    rw [hk] at hh
    cases hh
    cases ho)).trans hk⟩
  exact ⟨h5.trans (((put8_keeps W5 g q d0 d1 d2 d3 d4 d5 d6 d7).trans (KeepsOthers.setCell _ _ _)).from B), h5.trans (((KeepsOthers.setCell W5 ⟨G, 7, none⟩ u).trans (put8_keeps _ g q d0 d1 d2 d3 d4 d5 d6 d7)).from B)⟩
theorem frozen_far (W : World) (G o g k : Nat) (v : Value) (h : G ≠ g) : (W.setCell ⟨G, o, none⟩ v).frozen? ⟨g, k, none⟩ = W.frozen? ⟨g, k, none⟩ := by
  unfold World.frozen?
  rw [Below.heap_setCell _ _ _ _ (Ne.symm h)]
theorem part_forms {Q : Nat → Prop} {w : World} {j : P} {c0 c1 c2 c3 c4 c5 c6 c7 : Value} (h : PartAt Q w j (.agg #[c0, c1, c2, c3, c4, c5, c6, c7])) :
    ∃ x0 a1 l1 m1 x2 x3 x4 x5 x6 a7 l7 m7, c0 = .string x0 ∧ c1 = .slice a1 l1 m1 ∧ c2 = .string x2 ∧ c3 = .bool x3 ∧ c4 = .int .i64 x4 ∧ c5 = .int .i64 x5 ∧ c6 = .int .i64 x6 ∧ c7 = .slice a7 l7 m7 := by
  obtain ⟨ap, mp, ak, mk, e, _⟩ := part_cells h
  injection e with e
  injection e with e
  injection e with e0 e
  injection e with e1 e
  injection e with e2 e
  injection e with e3 e
  injection e with e4 e
  injection e with e5 e
  injection e with e6 e
  injection e with e7 e
  exact ⟨_, _, _, _, _, _, _, _, _, _, _, _, e0, e1, e2, e3, e4, e5, e6, e7⟩
theorem Step.keeps {C B : Nat} {W W' : World} (h : Step C W W') (hC : C < B) : KeepsFrom B W W' := ⟨h.size, fun k o hB hk _ => (h.block k (Array.getElem?_eq_some_iff.1 hk).1 (by omega)).trans hk⟩
end Go.Proofs.YtnnbbjdidbggmaaGreatDoor.Pt
