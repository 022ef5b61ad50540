/-
  How a part lies in memory, and that it stays while other blocks are written; a row of kids that grows. No law and no function of the project in this text. Conditions: none.
-/
import Derived.Test.YtnnbbjdidbggmaaGreatDoorPtPlain
import Derived.Test.YtnnbbjdidbggmaaGreatDoorF0Mem
namespace Go.Proofs.YtnnbbjdidbggmaaGreatDoor.Pt
open Go Go.RowKit Go.Joins Kit F0

/-- A row of cells behind a slice's value: none (wherever the empty slice points), or in a block of which P holds. -/
def CellsAt (Q : Nat → Prop) (w : World) (n : Nat) (v : Value) (cs : List Value) : Prop :=
  ((∃ a m, v = .slice a 0 m) ∧ n = 0 ∧ cs = []) ∨ ∃ g o cap, v = .slice (some ⟨g, o, none⟩) n cap ∧ ∀ j (h : j < cs.length), Q g ∧ w.cell? ⟨g, o + j, none⟩ = some cs[j]
mutual
/-- A value of a struct Part, and what it reads as. -/
def PartAt (Q : Nat → Prop) (w : World) : P → Value → Prop
  | .mk ty ps enc att h f t kids, v => ∃ pv kv, v = .agg #[sV ty, pv, sV enc, .bool att, .int .i64 (h : Int), .int .i64 (f : Int), .int .i64 (t : Int), kv] ∧ CellsAt Q w ps.length pv (fC ps) ∧ ∃ cs, CellsAt Q w kids.length kv cs ∧ KidsAt Q w kids cs
/-- Eight cells a kid. -/
def KidsAt (Q : Nat → Prop) (w : World) : List P → List Value → Prop
  | [], cs => cs = []
  | j :: r, cs => ∃ c0 c1 c2 c3 c4 c5 c6 c7 t, cs = c0 :: c1 :: c2 :: c3 :: c4 :: c5 :: c6 :: c7 :: t ∧ PartAt Q w j (.agg #[c0, c1, c2, c3, c4, c5, c6, c7]) ∧ KidsAt Q w r t
end
theorem kids_nil {Q : Nat → Prop} {w : World} : KidsAt Q w [] [] := by rw [KidsAt]
theorem kids_snoc {Q : Nat → Prop} {w : World} {j : P} {c0 c1 c2 c3 c4 c5 c6 c7 : Value} (hj : PartAt Q w j (.agg #[c0, c1, c2, c3, c4, c5, c6, c7])) : ∀ {l : List P} {cs : List Value}, KidsAt Q w l cs → KidsAt Q w (l ++ [j]) (cs ++ [c0, c1, c2, c3, c4, c5, c6, c7])
  | [], cs, h => by
    rw [KidsAt] at h
    subst h
    rw [List.nil_append, KidsAt]
    exact ⟨_, _, _, _, _, _, _, _, [], rfl, hj, kids_nil⟩
  | x :: r, cs, h => by
    rw [KidsAt] at h
    obtain ⟨d0, d1, d2, d3, d4, d5, d6, d7, t, rfl, h1, h2⟩ := h
    rw [List.cons_append, KidsAt]
    exact ⟨d0, d1, d2, d3, d4, d5, d6, d7, t ++ [c0, c1, c2, c3, c4, c5, c6, c7], rfl, h1, kids_snoc hj h2⟩
/-- The i-th kid's eight cells. -/
theorem kids_at {Q : Nat → Prop} {w : World} : ∀ {l : List P} {cs : List Value} (_ : KidsAt Q w l cs) (i : Nat) (h : i < l.length), ∃ c0 c1 c2 c3 c4 c5 c6 c7, cs[8 * i]? = some c0 ∧ cs[8 * i + 1]? = some c1 ∧ cs[8 * i + 2]? = some c2 ∧ cs[8 * i + 3]? = some c3 ∧ cs[8 * i + 4]? = some c4 ∧ cs[8 * i + 5]? = some c5 ∧ cs[8 * i + 6]? = some c6 ∧ cs[8 * i + 7]? = some c7 ∧ PartAt Q w l[i] (.agg #[c0, c1, c2, c3, c4, c5, c6, c7])
  | [], _, _, i, h => by simp at h
  | j :: r, cs, hk, 0, _ => by
    rw [KidsAt] at hk
    obtain ⟨c0, c1, c2, c3, c4, c5, c6, c7, t, rfl, h1, _⟩ := hk
    exact ⟨c0, c1, c2, c3, c4, c5, c6, c7, rfl, rfl, rfl, rfl, rfl, rfl, rfl, rfl, h1⟩
  | j :: r, cs, hk, i + 1, h => by
    rw [KidsAt] at hk
    obtain ⟨c0, c1, c2, c3, c4, c5, c6, c7, t, rfl, _, h2⟩ := hk
    obtain ⟨d0, d1, d2, d3, d4, d5, d6, d7, e0, e1, e2, e3, e4, e5, e6, e7, hn⟩ := kids_at h2 i (by simpa using h)
    refine ⟨d0, d1, d2, d3, d4, d5, d6, d7, ?_, ?_, ?_, ?_, ?_, ?_, ?_, ?_, by simpa using hn⟩
    · rw [show 8 * (i + 1) = 8 * i + 8 by omega]; simpa using e0
    · rw [show 8 * (i + 1) + 1 = (8 * i + 1) + 8 by omega]; simpa using e1
    · rw [show 8 * (i + 1) + 2 = (8 * i + 2) + 8 by omega]; simpa using e2
    · rw [show 8 * (i + 1) + 3 = (8 * i + 3) + 8 by omega]; simpa using e3
    · rw [show 8 * (i + 1) + 4 = (8 * i + 4) + 8 by omega]; simpa using e4
    · rw [show 8 * (i + 1) + 5 = (8 * i + 5) + 8 by omega]; simpa using e5
    · rw [show 8 * (i + 1) + 6 = (8 * i + 6) + 8 by omega]; simpa using e6
    · rw [show 8 * (i + 1) + 7 = (8 * i + 7) + 8 by omega]; simpa using e7

/-! ### What is written elsewhere turns nothing -/
/-- All cells in blocks of which Q holds are as they were, and Q' holds of those blocks. -/
def Kept (Q Q' : Nat → Prop) (w w' : World) : Prop := ∀ g o v, Q g → w.cell? ⟨g, o, none⟩ = some v → Q' g ∧ w'.cell? ⟨g, o, none⟩ = some v
theorem CellsAt.keep {Q Q' : Nat → Prop} {n : Nat} {w w' : World} {v : Value} {cs : List Value} (h : CellsAt Q w n v cs) (hk : Kept Q Q' w w') : CellsAt Q' w' n v cs := by
  rcases h with h | ⟨g, o, cap, hv, hc⟩
  · exact Or.inl h
  · refine Or.inr ⟨g, o, cap, hv, fun j hj => ?_⟩
    obtain ⟨h1, h2⟩ := hc j hj
    exact hk g _ _ h1 h2
mutual
theorem PartAt.keep {Q Q' : Nat → Prop} {w w' : World} (hk : Kept Q Q' w w') : ∀ {j : P} {v : Value}, PartAt Q w j v → PartAt Q' w' j v
  | .mk ty ps enc att hh f t kids, v, h => by
    rw [PartAt] at h ⊢
    obtain ⟨kv, vv, h1, h2, cs, h3, h4⟩ := h
    exact ⟨kv, vv, h1, h2.keep hk, cs, h3.keep hk, KidsAt.keep hk h4⟩
theorem KidsAt.keep {Q Q' : Nat → Prop} {w w' : World} (hk : Kept Q Q' w w') : ∀ {l : List P} {cs : List Value}, KidsAt Q w l cs → KidsAt Q' w' l cs
  | [], cs, h => by rw [KidsAt] at h ⊢; exact h
  | j :: r, cs, h => by
    rw [KidsAt] at h ⊢
    obtain ⟨c0, c1, c2, c3, c4, c5, c6, c7, t, e, h1, h2⟩ := h
    exact ⟨c0, c1, c2, c3, c4, c5, c6, c7, t, e, PartAt.keep hk h1, KidsAt.keep hk h2⟩
end
theorem kept_mono {Q Q' : Nat → Prop} {w : World} (h : ∀ g, Q g → Q' g) : Kept Q Q' w w := fun g _ _ hg hc => ⟨h g hg, hc⟩
/-- Where blocks that hold cells are as they were. -/
theorem kept_block {Q Q' : Nat → Prop} {w w' : World} (h : ∀ g cs t f, Q g → w.heap[g]? = some (.cells cs t f) → Q' g ∧ w'.heap[g]? = w.heap[g]?) : Kept Q Q' w w' := fun g o v hg hc => by
  have hb : ∃ cs t f, w.heap[g]? = some (.cells cs t f) := by
    unfold World.cell? at hc
    cases ho : w.heap[g]? with
    | none => simp [ho] at hc
    | some b =>
      cases b with
      | cells cs t f => exact ⟨cs, t, f, rfl⟩
      | _ => simp [ho] at hc
  obtain ⟨cs, t, f, hb⟩ := hb
  obtain ⟨h1, h2⟩ := h g cs t f hg hb
  exact ⟨h1, by rw [← hc]; exact World.cell?_of_block (w := w) h2⟩
theorem kept_below {Q : Nat → Prop} {w w' : World} (h : Below w.heap.size w w') : Kept Q Q w w' := kept_block fun g _ _ _ hg hb => ⟨hg, h.block g (Array.getElem?_eq_some_iff.1 hb).1⟩
/-- A row of the call's own, read. -/
theorem cells_own {Q : Nat → Prop} {B size n : Nat} {w : World} {e : TypeId} {v : Value} {cs : List Value} (h : w.ownsRow B e size v n cs) (hP : ∀ g, B ≤ g → Q g) : CellsAt Q w n v cs := by
  obtain ⟨h1, h2⟩ := h
  rcases h2 with ⟨rfl, rfl⟩ | ⟨g, cap, cur, rfl, hg, hh, r1, r2, r3, r4⟩
  · exact Or.inl ⟨⟨none, 0, rfl⟩, rfl, by rw [← List.length_eq_zero_iff, h1]; omega⟩
  · refine Or.inr ⟨g, 0, cap, rfl, fun j hj => ⟨hP g hg, ?_⟩⟩
    have h : w.ownsRow B e size (.slice (some ⟨g, 0, none⟩) n cap) n cs := ⟨h1, Or.inr ⟨g, cap, cur, rfl, hg, hh, r1, r2, r3, r4⟩⟩
    rw [Nat.zero_add, h.cellAt j (by omega), List.getElem?_eq_getElem hj]
/-- Parameters, as the functions of package field read them. -/
theorem cells_fields {Q : Nat → Prop} {w : World} {v : Value} {fs : List Fl} (h : CellsAt Q w fs.length v (fC fs)) : FAt w v fs := by
  have hl := fC_length fs
  rcases h with ⟨⟨a, m, rfl⟩, h0, _⟩ | ⟨g, o, cap, rfl, hc⟩
  · exact ⟨a, m, by rw [h0], fun k hk => by omega⟩
  · refine ⟨some ⟨g, o, none⟩, cap, rfl, fun k hk => ⟨g, o, rfl, ?_, ?_⟩⟩
    · obtain ⟨q1, _⟩ := fC_at fs k hk
      obtain ⟨hl1, he1⟩ := List.getElem?_eq_some_iff.1 q1
      rw [(hc (k * 2) hl1).2, he1]
    · obtain ⟨_, q2⟩ := fC_at fs k hk
      obtain ⟨hl2, he2⟩ := List.getElem?_eq_some_iff.1 q2
      rw [Nat.add_assoc, (hc (k * 2 + 1) hl2).2, he2]
theorem cells_form {Q : Nat → Prop} {n : Nat} {w : World} {v : Value} {cs : List Value} (h : CellsAt Q w n v cs) : ∃ a m, v = .slice a n m := by
  rcases h with ⟨⟨a, m, rfl⟩, h0, _⟩ | ⟨g, o, cap, rfl, _⟩
  · exact ⟨a, m, by rw [h0]⟩
  · exact ⟨_, _, rfl⟩
/-- A part's own cells. -/
theorem part_cells {Q : Nat → Prop} {w : World} {j : P} {v : Value} (h : PartAt Q w j v) :
    ∃ ap mp ak mk, v = .agg #[sV j.ty, .slice ap j.ps.length mp, sV j.enc, .bool j.att, .int .i64 (j.hd : Int), .int .i64 (j.fm : Int), .int .i64 (j.to : Int), .slice ak j.kids.length mk] ∧
      CellsAt Q w j.ps.length (.slice ap j.ps.length mp) (fC j.ps) ∧ ∃ cs, CellsAt Q w j.kids.length (.slice ak j.kids.length mk) cs ∧ KidsAt Q w j.kids cs := by
  obtain ⟨ty, ps, enc, att, hh, f, t, kids⟩ := j
  rw [PartAt] at h
  obtain ⟨pv, kv, rfl, h2, cs, h3, h4⟩ := h
  obtain ⟨ap, mp, rfl⟩ := cells_form h2
  obtain ⟨ak, mk, rfl⟩ := cells_form h3
  exact ⟨ap, mp, ak, mk, rfl, h2, cs, h3, h4⟩
/-- The i-th kid, out of the slice's own cells. -/
theorem kid_cells {Q : Nat → Prop} {w : World} {l : List P} {ak : Option Addr} {n m : Nat} {cs : List Value} (h : CellsAt Q w l.length (.slice ak n m) cs) (hk : KidsAt Q w l cs) (i : Nat) (hi : i < l.length) :
    ∃ g o c0 c1 c2 c3 c4 c5 c6 c7, ak = some ⟨g, o, none⟩ ∧ g < w.heap.size ∧ w.cell? ⟨g, o + i * 8, none⟩ = some c0 ∧ w.cell? ⟨g, o + i * 8 + 1, none⟩ = some c1 ∧ w.cell? ⟨g, o + i * 8 + 2, none⟩ = some c2 ∧ w.cell? ⟨g, o + i * 8 + 3, none⟩ = some c3 ∧
      w.cell? ⟨g, o + i * 8 + 4, none⟩ = some c4 ∧ w.cell? ⟨g, o + i * 8 + 5, none⟩ = some c5 ∧ w.cell? ⟨g, o + i * 8 + 6, none⟩ = some c6 ∧ w.cell? ⟨g, o + i * 8 + 7, none⟩ = some c7 ∧ PartAt Q w l[i] (.agg #[c0, c1, c2, c3, c4, c5, c6, c7]) := by
  rcases h with ⟨_, h0, _⟩ | ⟨g, o, cap, hv, hc⟩
  · omega
  · injection hv with e1 e2 e3
    subst e1
    obtain ⟨c0, c1, c2, c3, c4, c5, c6, c7, e0, e1, e2, e3, e4, e5, e6, e7, hp⟩ := kids_at hk i hi
    have get : ∀ (q : Nat) (d : Value), cs[8 * i + q]? = some d → w.cell? ⟨g, o + i * 8 + q, none⟩ = some d := fun q d hq => by
      obtain ⟨hl, hd⟩ := List.getElem?_eq_some_iff.1 hq
      rw [show o + i * 8 + q = o + (8 * i + q) by omega, (hc (8 * i + q) hl).2, hd]
    exact ⟨g, o, c0, c1, c2, c3, c4, c5, c6, c7, rfl, cell_lt (get 0 c0 e0), get 0 c0 e0, get 1 c1 e1, get 2 c2 e2, get 3 c3 e3, get 4 c4 e4, get 5 c5 e5, get 6 c6 e6, get 7 c7 e7, hp⟩

/-! ### Kids that grow -/
theorem infoP : (Tryz.prog.info? 42).map (fun i => (i.zero, i.size, i.bytes)) = some (some (.agg #[.string ⟨#[]⟩, .slice none 0 0, .string ⟨#[]⟩, .bool false, .int .i64 0, .int .i64 0, .int .i64 0, .slice none 0 0]), 8, 112) := by kernel_rfl
theorem own_keep8 {w w' : World} {B size : Nat} {e : TypeId} {v : Value} {n : Nat} {xs : List Value} (h : w.ownsRow B e size v n xs) (hk : ∀ g, v.ownBlock = some g → g < w.heap.size → w'.heap[g]? = w.heap[g]?) : w'.ownsRow B e size v n xs := by
  obtain ⟨h1, h2⟩ := h
  refine ⟨h1, ?_⟩
  rcases h2 with h2 | ⟨g, cap, cur, hv, hg, hh, r⟩
  · exact Or.inl h2
  · exact Or.inr ⟨g, cap, cur, hv, hg, by rw [hk g (by rw [hv]; rfl) (Array.getElem?_eq_some_iff.1 hh).1]; exact hh, r⟩
theorem own_form {w : World} {B size : Nat} {e : TypeId} {v : Value} {n : Nat} {xs : List Value} (h : w.ownsRow B e size v n xs) : ∃ ao cap, v = .slice ao n cap := by
  rcases h.2 with ⟨rfl, h0⟩ | ⟨g, cap, cur, rfl, _⟩
  · exact ⟨none, 0, by rw [h0]⟩
  · exact ⟨_, _, rfl⟩
theorem cells_one {Q : Nat → Prop} {n : Nat} {w : World} {v : Value} {cs : List Value} (h : CellsAt Q w n v cs) : v.oneCell' = true := by
  rcases h with ⟨⟨a, m, rfl⟩, _⟩ | ⟨g, o, cap, rfl, _⟩ <;> rfl
/-- The kids so far: a row of the call's own, from block B on, and what its cells lead to, in other blocks from B on. -/
def Kids (B : Nat) (v : Value) (kids : List P) (w : World) : Prop :=
  ∃ cs, w.ownsRow B 42 8 v kids.length cs ∧ KidsAt (fun g => B ≤ g ∧ v.ownBlock ≠ some g) w kids cs
theorem kids_empty (B : Nat) (w : World) : Kids B (.slice none 0 0) [] w := ⟨[], World.ownsRow_nil _ _ _ _, kids_nil⟩
/-- What leaves the blocks of cells from B on leaves the kids. -/
theorem Kids.same {B : Nat} {v : Value} {kids : List P} {w w' : World} (h : Kids B v kids w) (hk : ∀ g cs t f, B ≤ g → w.heap[g]? = some (.cells cs t f) → w'.heap[g]? = w.heap[g]?) : Kids B v kids w' := by
  obtain ⟨cs, h1, h2⟩ := h
  refine ⟨cs, ?_, h2.keep (kept_block fun g cs t f hg hb => ⟨hg, hk g cs t f hg.1 hb⟩)⟩
  obtain ⟨q1, q2⟩ := h1
  refine ⟨q1, ?_⟩
  rcases q2 with q2 | ⟨g, cap, cur, hv, hg, hh, r⟩
  · exact Or.inl q2
  · exact Or.inr ⟨g, cap, cur, hv, hg, by rw [hk g _ _ _ hg hh]; exact hh, r⟩
theorem Kids.below {B : Nat} {v : Value} {kids : List P} {w w' : World} (h : Kids B v kids w) (hb : Below w.heap.size w w') : Kids B v kids w' :=
  h.same (fun g _ _ _ _ hg => hb.block g (Array.getElem?_eq_some_iff.1 hg).1)
theorem Kids.read {B : Nat} {v : Value} {kids : List P} {w : World} (h : Kids B v kids w) (Q : Nat → Prop) (hP : ∀ g, B ≤ g → Q g) : ∃ cs, CellsAt Q w kids.length v cs ∧ KidsAt Q w kids cs := by
  obtain ⟨cs, h1, h2⟩ := h
  exact ⟨cs, cells_own h1 hP, h2.keep (kept_mono (fun g hg => hP g hg.1))⟩
theorem Kids.form {B : Nat} {v : Value} {kids : List P} {w : World} (h : Kids B v kids w) : ∃ ao cap, v = .slice ao kids.length cap := by
  obtain ⟨cs, h1, _⟩ := h
  exact own_form h1
theorem Kids.block {B : Nat} {v : Value} {kids : List P} {w : World} (h : Kids B v kids w) {g : Nat} (hg : v.ownBlock = some g) : B ≤ g ∧ ∃ cur, w.heap[g]? = some (.cells cur 42 (0, 0)) := by
  obtain ⟨cs, h1, _⟩ := h
  rcases h1.2 with ⟨rfl, _⟩ | ⟨g', cap, cur, rfl, hb, hh, _⟩
  · cases hg
  · simp only [Value.ownBlock, Option.some.injEq] at hg
    subst hg
    exact ⟨hb, cur, hh⟩
theorem part_one {Q : Nat → Prop} {w : World} {j : P} {c0 c1 c2 c3 c4 c5 c6 c7 : Value} (hn : PartAt Q w j (.agg #[c0, c1, c2, c3, c4, c5, c6, c7])) : ∀ u ∈ [c0, c1, c2, c3, c4, c5, c6, c7], u.oneCell' = true := by
  obtain ⟨ap, mp, ak, mk, e, _⟩ := part_cells hn
  injection e with e
  injection e with e
  injection e with e0 e
  injection e with e1 e
  injection e with e2 e
  injection e with e3 e
  injection e with e4 e
  injection e with e5 e
  injection e with e6 e
  injection e with e7 e
  subst e0 e1 e2 e3 e4 e5 e6 e7
  intro u hu
  simp only [List.mem_cons, List.not_mem_nil, or_false] at hu
  rcases hu with rfl | rfl | rfl | rfl | rfl | rfl | rfl | rfl <;> rfl
/-- A part that is nothing yet. -/
def zeroC : List Value := [.string ⟨#[]⟩, .slice none 0 0, .string ⟨#[]⟩, .bool false, .int .i64 0, .int .i64 0, .int .i64 0, .slice none 0 0]
/-- The kids so far, with a place for one more. -/
def KidsZ (B g n c : Nat) (kids : List P) (w : World) : Prop :=
  kids.length = n ∧ ∃ cs, w.ownsRow B 42 8 (.slice (some ⟨g, 0, none⟩) (n + 1) c) (n + 1) (cs ++ zeroC) ∧ KidsAt (fun k => B ≤ k ∧ k ≠ g) w kids cs
/-- append of a part that is nothing yet, as a step of a region that draws. -/
theorem Kids.stepZ {ops : Array Oper} {o : Oper} {a : Act} {K : Act → World → Prop} {R : Exit → Act → World → Prop} {E : Prop} (hgd : o.guard = none) (sl x : Operand)
    (ho : o.op = .call { callee := .builtin .append, args := #[sl, x], argTypes := #[40, 40] })
    (B : Nat) (w : World) (v : Value) (kids : List P) (hK : Kids B v kids w)
    (b cap : Nat) (fr : Nat × Nat) (hblk : w.heap[b]? = some (.cells zeroC.toArray 42 fr)) (hs : a.eval sl = v) (hx : a.eval x = .slice (some ⟨b, 0, none⟩) 1 cap) (hlen : kids.length ≤ 65536) (hsz : B ≤ w.heap.size)
    (h : ∀ g c w', KidsZ B g kids.length c kids w' → w.grownBy w' v.ownBlock → (v.ownBlock = some g ∨ g = w.heap.size) → K (a.put o.dst (.slice (some ⟨g, 0, none⟩) (kids.length + 1) c)) w') :
    if Region.wanted o (yielded ops a.tmps) = true then Oper.wp Tryz.prog o a w K R else E := by
  obtain ⟨i0, hi, hz0, hz1, hz2⟩ := info_parts infoP
  obtain ⟨cs, hown, hkids⟩ := hK
  refine step_append_lies w hgd sl x 40 ho B 42 i0 _ 8 112 Tryz.underlying40 hi hz0 hz1 hz2 rfl (by decide) v kids.length cs hs hown ⟨b, 0, none⟩ 1 cap zeroC hx rfl ?_ ?_ (by decide) ?_ ?_ hsz w.heap.size rfl ?_
  · intro k u hk
    exact World.news_of_block hblk k u hk
  · intro u hu
    unfold zeroC at hu
    simp only [List.mem_cons, List.not_mem_nil, or_false] at hu
    rcases hu with rfl | rfl | rfl | rfl | rfl | rfl | rfl | rfl <;> rfl
  · unfold maxLen; omega
  · omega
  · intro g c w' ho' hg hat _
    refine h g c w' ⟨rfl, cs, ho', ?_⟩ hg hat
    refine hkids.keep (kept_block fun k _ _ _ hk hb => ?_)
    have hl := (Array.getElem?_eq_some_iff.1 hb).1
    have q1 : k ≠ g := by
      rintro rfl
      rcases hat with hat | hat
      · exact hk.2 hat
      · omega
    exact ⟨⟨hk.1, q1⟩, hg.block k hl (fun e => hk.2 e.symm)⟩
/-- A store into a cell of a row of the call's own. -/
theorem own_set {w : World} {B size n g cap : Nat} {e : TypeId} {xs : List Value} (h : w.ownsRow B e size (.slice (some ⟨g, 0, none⟩) n cap) n xs) (k : Nat) (_ : k < n * size) (v : Value) : (w.setCell ⟨g, k, none⟩ v).ownsRow B e size (.slice (some ⟨g, 0, none⟩) n cap) n (xs.set k v) := by
  obtain ⟨h1, h2⟩ := h
  refine ⟨by rw [List.length_set]; exact h1, ?_⟩
  rcases h2 with ⟨h2, _⟩ | ⟨g', cap', cur, hv, hb, hh, hr1, hr2, hr3, hr4⟩
  · cases h2
  · injection hv with e1 e2 e3
    injection e1 with e1
    injection e1 with e1
    subst e1 e3
    refine Or.inr ⟨g, cap, cur.setIfInBounds k v, rfl, hb, ?_, hr1, hr2, by simpa using hr3, ?_⟩
    · simp [World.setCell, Array.getElem?_modify, hh]
    · rw [Array.toList_setIfInBounds, ← hr4, List.take_set]
theorem set_at (a : List Value) (j : Nat) (b : List Value) (v : Value) : (a ++ b).set (a.length + j) v = a ++ b.set j v := by
  rw [List.set_append_right _ _ (by omega)]
  congr 2
  omega
def put8 (w : World) (g q : Nat) (c0 c1 c2 c3 c4 c5 c6 c7 : Value) : World :=
  (((((((w.setCell ⟨g, q, none⟩ c0).setCell ⟨g, q + 1, none⟩ c1).setCell ⟨g, q + 2, none⟩ c2).setCell ⟨g, q + 3, none⟩ c3).setCell ⟨g, q + 4, none⟩ c4).setCell ⟨g, q + 5, none⟩ c5).setCell ⟨g, q + 6, none⟩ c6).setCell ⟨g, q + 7, none⟩ c7
theorem put8_other (w : World) (g q : Nat) (c0 c1 c2 c3 c4 c5 c6 c7 : Value) (k : Nat) (h : k ≠ g) : (put8 w g q c0 c1 c2 c3 c4 c5 c6 c7).heap[k]? = w.heap[k]? := by
  unfold put8
  repeat rw [Below.heap_setCell _ _ _ _ h]
theorem put8_size (w : World) (g q : Nat) (c0 c1 c2 c3 c4 c5 c6 c7 : Value) : (put8 w g q c0 c1 c2 c3 c4 c5 c6 c7).heap.size = w.heap.size := by
  unfold put8
  simp [World.setCell]
/-- What the store of a part into its place leaves. -/
theorem KidsZ.put {B g n c : Nat} {kids : List P} {w : World} (h : KidsZ B g n c kids w) (j : P) (c0 c1 c2 c3 c4 c5 c6 c7 : Value) (hn : PartAt (fun k => B ≤ k ∧ k ≠ g) w j (.agg #[c0, c1, c2, c3, c4, c5, c6, c7])) :
    Kids B (.slice (some ⟨g, 0, none⟩) (n + 1) c) (kids ++ [j]) (put8 w g (n * 8) c0 c1 c2 c3 c4 c5 c6 c7) := by
  obtain ⟨hl, cs, hown, hkids⟩ := h
  have hcl : cs.length = n * 8 := by
    have := hown.1
    rw [List.length_append] at this
    simp [zeroC] at this
    omega
  have hkeep : Kept (fun k => B ≤ k ∧ k ≠ g) (fun k => B ≤ k ∧ (Value.slice (some ⟨g, 0, none⟩) (n + 1) c).ownBlock ≠ some k) w (put8 w g (n * 8) c0 c1 c2 c3 c4 c5 c6 c7) := kept_block fun k _ _ _ hk _ =>
    ⟨⟨hk.1, fun e => hk.2 (by simpa [Value.ownBlock] using e.symm)⟩, put8_other _ _ _ _ _ _ _ _ _ _ _ k hk.2⟩
  refine ⟨cs ++ [c0, c1, c2, c3, c4, c5, c6, c7], ?_, kids_snoc (hn.keep hkeep) (hkids.keep hkeep)⟩
  have h0 := own_set hown (n * 8) (by omega) c0
  have h1 := own_set h0 (n * 8 + 1) (by omega) c1
  have h2 := own_set h1 (n * 8 + 2) (by omega) c2
  have h3 := own_set h2 (n * 8 + 3) (by omega) c3
  have h4 := own_set h3 (n * 8 + 4) (by omega) c4
  have h5 := own_set h4 (n * 8 + 5) (by omega) c5
  have h6 := own_set h5 (n * 8 + 6) (by omega) c6
  have h7 := own_set h6 (n * 8 + 7) (by omega) c7
  rw [← hcl] at h7
  rw [show cs.length = cs.length + 0 from rfl] at h7
  simp only [Nat.add_zero] at h7
  have e0 := set_at cs 0 zeroC c0
  rw [Nat.add_zero] at e0
  rw [e0, set_at, set_at, set_at, set_at, set_at, set_at, set_at] at h7
  rw [List.length_append, hl]
  unfold put8
  rw [← hcl]
  exact h7
end Go.Proofs.YtnnbbjdidbggmaaGreatDoor.Pt
