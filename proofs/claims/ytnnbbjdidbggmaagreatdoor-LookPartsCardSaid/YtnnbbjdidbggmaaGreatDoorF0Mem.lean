/-
  How fields lie in memory: a row of the call's own that grows, a slice of fields that is read; a Builder and such a row in a box beside one another. No law and no function of the project in this text. Conditions: none.
-/
import Derived.Test.YtnnbbjdidbggmaaGreatDoorF0Plain
import Derived.Test.YtnnbbjdidbggmaaGreatDoorBld
import Derived.Deep.AppendLies
import Derived.RangeFuncNested
namespace Go.Proofs.YtnnbbjdidbggmaaGreatDoor.F0
open Go Go.RowKit Go.Joins Kit

abbrev Fl := List UInt8 × List UInt8
def sV (l : List UInt8) : Value := .string ⟨l.toArray⟩
def fC : List Fl → List Value
  | [] => []
  | f :: r => sV f.1 :: sV f.2 :: fC r
theorem fC_append : ∀ a b : List Fl, fC (a ++ b) = fC a ++ fC b
  | [], _ => rfl
  | f :: r, b => by rw [List.cons_append, fC, fC, fC_append r b]; rfl
theorem fC_length : ∀ a : List Fl, (fC a).length = a.length * 2
  | [] => rfl
  | f :: r => by rw [fC, List.length_cons, List.length_cons, fC_length r, List.length_cons]; omega
theorem fC_at : ∀ (a : List Fl) (k : Nat) (h : k < a.length), (fC a)[k * 2]? = some (sV a[k].1) ∧ (fC a)[k * 2 + 1]? = some (sV a[k].2)
  | [], k, h => by simp at h
  | f :: r, 0, _ => ⟨rfl, rfl⟩
  | f :: r, k + 1, h => by
    have := fC_at r k (by simpa using h)
    rw [fC, show (k + 1) * 2 = k * 2 + 2 by omega, show k * 2 + 2 + 1 = k * 2 + 1 + 2 by omega]
    simpa using this
theorem sV_data (s : ByteArray) : sV s.data.toList = .string s := rfl

/-! ### A row that grows -/
theorem infoF : (Tryz.prog.info? 74).map (fun i => (i.zero, i.size, i.bytes)) = some (some (.agg #[.string ⟨#[]⟩, .string ⟨#[]⟩]), 2, 32) := by kernel_rfl
def RowF (B : Nat) (v : Value) (fs : List Fl) (w : World) : Prop := w.ownsRow B 74 2 v fs.length (fC fs)
theorem RowF.new (B : Nat) (w : World) : RowF B (.slice none 0 0) [] w := World.ownsRow_nil _ _ _ _
theorem RowF.keep {B : Nat} {v : Value} {fs : List Fl} {w w' : World} (h : RowF B v fs w) (hk : ∀ g, v.ownBlock = some g → g < w.heap.size → w'.heap[g]? = w.heap[g]?) : RowF B v fs w' := by
  obtain ⟨h1, h2⟩ := h
  refine ⟨h1, ?_⟩
  rcases h2 with h2 | ⟨g, cap, cur, hv, hg, hh, r⟩
  · exact Or.inl h2
  · exact Or.inr ⟨g, cap, cur, hv, hg, by rw [hk g (by rw [hv]; rfl) (Array.getElem?_eq_some_iff.1 hh).1]; exact hh, r⟩
theorem RowF.below {B : Nat} {v : Value} {fs : List Fl} {w w' : World} (h : RowF B v fs w) (hb : Below w.heap.size w w') : RowF B v fs w' := h.keep (fun g _ hl => hb.block g hl)
theorem RowF.block {B : Nat} {v : Value} {fs : List Fl} {w : World} (h : RowF B v fs w) {g : Nat} (hg : v.ownBlock = some g) : B ≤ g ∧ ∃ cur, w.heap[g]? = some (.cells cur 74 (0, 0)) := by
  rcases h.2 with ⟨rfl, _⟩ | ⟨g', cap, cur, rfl, hb, hh, _⟩
  · cases hg
  · simp only [Value.ownBlock, Option.some.injEq] at hg
    subst hg
    exact ⟨hb, cur, hh⟩
theorem RowF.ne {B : Nat} {v : Value} {fs : List Fl} {w : World} (h : RowF B v fs w) {k : Nat} {o : Obj} (hk : w.heap[k]? = some o) (ho : ∀ cs, o ≠ .cells cs 74 (0, 0)) : v.ownBlock ≠ some k := fun e => by
  obtain ⟨_, cur, hh⟩ := h.block e
  rw [hk] at hh
  exact ho cur (Option.some.inj hh)
theorem RowF.form {B : Nat} {v : Value} {fs : List Fl} {w : World} (h : RowF B v fs w) : ∃ a cap, v = .slice a fs.length cap := by
  rcases h.2 with ⟨rfl, h0⟩ | ⟨g, cap, cur, rfl, _⟩
  · exact ⟨none, 0, by rw [h0]⟩
  · exact ⟨_, _, rfl⟩
/-- append of a field that lies in a new block. -/
theorem RowF.app {ops : Array Oper} {rest : List Oper} {o : Oper} {a : Act} {Q : Exit → Act → World → Prop} (hgd : o.guard = none) (sl x : Operand)
    (ho : o.op = .call { callee := .builtin .append, args := #[sl, x], argTypes := #[37, 37] })
    (B : Nat) (w : World) (v : Value) (fs : List Fl) (h : RowF B v fs w) (f : Fl) (b cap : Nat) (hblk : w.heap[b]? = some (.cells #[sV f.1, sV f.2] 74 (0, 0))) (hs : a.eval sl = v) (hx : a.eval x = .slice (some ⟨b, 0, none⟩) 1 cap)
    (hlen : fs.length ≤ 1099511627776) (hB : B ≤ w.heap.size)
    (k : ∀ g c w', RowF B (.slice (some ⟨g, 0, none⟩) (fs.length + 1) c) (fs ++ [f]) w' → w.grownBy w' v.ownBlock → (v.ownBlock = some g ∨ g = w.heap.size) → wpList Tryz.prog ops Q rest (a.put o.dst (.slice (some ⟨g, 0, none⟩) (fs.length + 1) c)) w') : wpList Tryz.prog ops Q (o :: rest) a w := by
  obtain ⟨i0, hi, hz0, hz1, hz2⟩ := info_parts infoF
  refine wpList_append_lies w hgd sl x 37 ho B 74 i0 _ 2 32 Tryz.underlying37 hi hz0 hz1 hz2 rfl (by decide) v fs.length _ hs h ⟨b, 0, none⟩ 1 cap [sV f.1, sV f.2] hx rfl ?_ ?_ Nat.zero_lt_one ?_ ?_ hB w.heap.size rfl ?_
  · intro j u hj
    exact World.news_of_block hblk j u hj
  · intro u hu
    simp only [List.mem_cons, List.not_mem_nil, or_false] at hu
    rcases hu with rfl | rfl <;> rfl
  · unfold maxLen; omega
  · omega
  · intro g c w' ho' hg hat _
    refine k g c w' ?_ hg hat
    unfold RowF
    rw [List.length_append, fC_append]
    exact ho'
/-- .. as a step of a region that draws. -/
theorem RowF.step {ops : Array Oper} {o : Oper} {a : Act} {K : Act → World → Prop} {Q : Exit → Act → World → Prop} {E : Prop} (hgd : o.guard = none) (sl x : Operand)
    (ho : o.op = .call { callee := .builtin .append, args := #[sl, x], argTypes := #[37, 37] })
    (B : Nat) (w : World) (v : Value) (fs : List Fl) (h : RowF B v fs w) (f : Fl) (b cap : Nat) (hblk : w.heap[b]? = some (.cells #[sV f.1, sV f.2] 74 (0, 0))) (hs : a.eval sl = v) (hx : a.eval x = .slice (some ⟨b, 0, none⟩) 1 cap)
    (hlen : fs.length ≤ 1099511627776) (hB : B ≤ w.heap.size)
    (k : ∀ g c w', RowF B (.slice (some ⟨g, 0, none⟩) (fs.length + 1) c) (fs ++ [f]) w' → w.grownBy w' v.ownBlock → (v.ownBlock = some g ∨ g = w.heap.size) → K (a.put o.dst (.slice (some ⟨g, 0, none⟩) (fs.length + 1) c)) w') :
    if Region.wanted o (yielded ops a.tmps) = true then Oper.wp Tryz.prog o a w K Q else E := by
  obtain ⟨i0, hi, hz0, hz1, hz2⟩ := info_parts infoF
  refine step_append_lies w hgd sl x 37 ho B 74 i0 _ 2 32 Tryz.underlying37 hi hz0 hz1 hz2 rfl (by decide) v fs.length _ hs h ⟨b, 0, none⟩ 1 cap [sV f.1, sV f.2] hx rfl ?_ ?_ Nat.zero_lt_one ?_ ?_ hB w.heap.size rfl ?_
  · intro j u hj
    exact World.news_of_block hblk j u hj
  · intro u hu
    simp only [List.mem_cons, List.not_mem_nil, or_false] at hu
    rcases hu with rfl | rfl <;> rfl
  · unfold maxLen; omega
  · omega
  · intro g c w' ho' hg hat _
    refine k g c w' ?_ hg hat
    unfold RowF
    rw [List.length_append, fC_append]
    exact ho'

/-! ### A slice of fields that is read -/
structure FAt (w : World) (v : Value) (fs : List Fl) : Prop where
  form : ∃ a cap, v = .slice a fs.length cap ∧ ∀ k (h : k < fs.length), ∃ g o, a = some ⟨g, o, none⟩ ∧ w.cell? ⟨g, o + k * 2, none⟩ = some (sV fs[k].1) ∧ w.cell? ⟨g, o + k * 2 + 1, none⟩ = some (sV fs[k].2)
theorem FAt.below {w w' : World} {v : Value} {fs : List Fl} (h : FAt w v fs) (hb : Below w.heap.size w w') : FAt w' v fs := by
  obtain ⟨a, cap, hv, hc⟩ := h.form
  refine ⟨a, cap, hv, fun k hk => ?_⟩
  obtain ⟨g, o, ha, h1, h2⟩ := hc k hk
  exact ⟨g, o, ha, by rw [← h1]; exact hb.cell (p := ⟨g, o + k * 2, none⟩) (cell_lt h1), by rw [← h2]; exact hb.cell (p := ⟨g, o + k * 2 + 1, none⟩) (cell_lt h2)⟩
theorem RowF.at {B : Nat} {v : Value} {fs : List Fl} {w : World} (h : RowF B v fs w) : FAt w v fs := by
  obtain ⟨a, cap, hv⟩ := h.form
  refine ⟨a, cap, hv, fun k hk => ?_⟩
  rcases h.2 with ⟨hv2, h0⟩ | ⟨g, cap2, cur, hv2, hb, hh, hr⟩
  · omega
  · rw [hv] at hv2
    injection hv2 with e1 e2 e3
    subst e1
    have hl := fC_length fs
    have h' : w.ownsRow B 74 2 (.slice (some ⟨g, 0, none⟩) fs.length cap) fs.length (fC fs) := by rw [← hv]; exact h
    obtain ⟨q1, q2⟩ := fC_at fs k hk
    refine ⟨g, 0, rfl, ?_, ?_⟩
    · rw [Nat.zero_add, h'.cellAt (k * 2) (by omega), q1]
    · rw [Nat.zero_add, h'.cellAt (k * 2 + 1) (by omega), q2]

/-! ### A Builder, and a row in a box -/
theorem grown_bld {T e : TypeId} {B b : Nat} {bs : List Value} {w w' : World} {row : Option Nat} (h : Lib.IsBuilderF T e B b bs w) (hg : w.grownBy w' row) (hr : ∀ r, row = some r → r ≠ b ∧ ∃ o, w.heap[r]? = some o ∧ ∀ c fz, o ≠ .cells c e fz) : Lib.IsBuilderF T e B b bs w' := by
  have one : ∀ p, Lib.BuilderAtF T e B b p bs w → Lib.BuilderAtF T e B b p bs w' := by
    intro p h
    have hlt := h.lt
    obtain ⟨hB, u, hb, hown, hne⟩ := h
    refine ⟨hB, u, (hg.block b hlt (fun e => (hr b e.symm).1 rfl)).trans hb, hown.kept hg ?_, hne⟩
    cases hu : u.ownBlock with
    | none => exact Or.inl rfl
    | some g =>
      refine Or.inr (fun e' => ?_)
      obtain ⟨_, o, ho, hno⟩ := hr g e'.symm
      obtain ⟨c, fz, hc⟩ := Lib.ownsRowF_kind hown g hu
      rw [hc] at ho
      exact hno c fz (Option.some.inj ho).symm
  exact h.elim (fun x => .inl (one _ x)) (fun x => .inr (one _ x))
theorem bld_block {T e : TypeId} {B b : Nat} {bs : List Value} {w : World} (h : Lib.IsBuilderF T e B b bs w) : B ≤ b ∧ ∃ cs, w.heap[b]? = some (.cells cs T (0, 0)) :=
  h.elim (fun ⟨hB, _, hb, _⟩ => ⟨hB, _, hb⟩) (fun ⟨hB, _, hb, _⟩ => ⟨hB, _, hb⟩)
/-- The joined text in the Builder at block J, the fields so far in the box at block F. -/
structure Held (B J F : Nat) (fs : List Fl) (j : List UInt8) (w : World) : Prop where
  bld : Lib.IsBuilderF 87 5 B J (Lib.byteCells j) w
  box : ∃ v, Boxed w F 37 v ∧ RowF B v fs w
  base : B ≤ F
  room : B ≤ w.heap.size
theorem Held.ne {B J F : Nat} {fs : List Fl} {j : List UInt8} {w : World} (h : Held B J F fs j w) : F ≠ J := by
  obtain ⟨v, hv, _⟩ := h.box
  obtain ⟨_, cs, hb⟩ := bld_block h.bld
  intro e
  rw [← e, show w.heap[F]? = _ from hv] at hb
  injection hb with hb
  injection hb with _ hb
  exact absurd hb (by decide)
/-- What turns one block that is none of theirs leaves them. -/
theorem Held.grown {B J F : Nat} {fs : List Fl} {j : List UInt8} {w w' : World} {row : Option Nat} (h : Held B J F fs j w) (hg : w.grownBy w' row) (hr : ∀ r, row = some r → r ≠ J ∧ r ≠ F ∧ ∃ o, w.heap[r]? = some o ∧ (∀ c fz, o ≠ .cells c 5 fz) ∧ (∀ c fz, o ≠ .cells c 74 fz)) : Held B J F fs j w' := by
  obtain ⟨v, hv, hrow⟩ := h.box
  refine ⟨grown_bld h.bld hg (fun r e => ?_), ⟨v, hv.kept hg (fun e => (hr F e.symm).2.1 rfl), hrow.keep (fun g hv' hl => hg.block g hl (fun e => ?_))⟩, h.base, Nat.le_trans h.room hg.size⟩
  · obtain ⟨h1, _, o, h3, h4, _⟩ := hr r e
    exact ⟨h1, o, h3, h4⟩
  · obtain ⟨_, _, o, h3, _, h4⟩ := hr g e.symm
    exact hrow.ne h3 (fun cs => h4 cs _) hv'
theorem Held.alloc {B J F : Nat} {fs : List Fl} {j : List UInt8} {w : World} (h : Held B J F fs j w) (o : Obj) : Held B J F fs j (w.alloc o) := h.grown (World.grownBy_alloc w o none) (fun r e => by cases e)
theorem Held.drew {B J F : Nat} {fs : List Fl} {j : List UInt8} {w : World} (h : Held B J F fs j w) : Held B J F fs j w.drew := ⟨h.bld, h.box, h.base, h.room⟩
theorem grown_below {w w' : World} (hb : Below w.heap.size w w') : w.grownBy w' none := ⟨hb.os, hb.tape, hb.output, hb.size, fun k hk _ => hb.block k hk⟩
theorem Held.below {B J F : Nat} {fs : List Fl} {j : List UInt8} {w w' : World} (h : Held B J F fs j w) (hb : Below w.heap.size w w') : Held B J F fs j w' := h.grown (grown_below hb) (fun r e => by cases e)
/-- What the Builder's functions leave. -/
theorem Held.write {B J F : Nat} {fs : List Fl} {j j' : List UInt8} {w w' : World} (h : Held B J F fs j w) (hbd : Lib.IsBuilderF 87 5 B J (Lib.byteCells j') w') (hb : Below B w w') (hk : Lib.OthersKept 5 (some J) w w') : Held B J F fs j' w' := by
  obtain ⟨v, hv, hrow⟩ := h.box
  refine ⟨hbd, ⟨v, hk F _ hv (fun e => h.ne (Option.some.inj e)) (fun c fz e => by simp at e), hrow.keep (fun g hv' hl => ?_)⟩, h.base, Nat.le_trans h.room hb.size⟩
  obtain ⟨_, cur, hh⟩ := hrow.block hv'
  obtain ⟨_, cs, hj⟩ := bld_block h.bld
  rw [hh]
  refine hk g _ hh (fun e => ?_) (fun c fz e => by simp at e)
  have e' : g = J := Option.some.inj e
  rw [← e', hh] at hj
  injection hj with hj
  injection hj with _ hj
  exact absurd hj (by decide)
/-- The box turned to a grown row. -/
theorem Held.put {B J F : Nat} {fs fs' : List Fl} {j : List UInt8} {w : World} (v' : Value) (hbd : Lib.IsBuilderF 87 5 B J (Lib.byteCells j) w) {v : Value} (hbox : Boxed w F 37 v) (hrow : RowF B v' fs' w) (hF : B ≤ F) (hroom : B ≤ w.heap.size) (_ : Held B J F fs j w) : Held B J F fs' j (w.setCell ⟨F, 0, none⟩ v') := by
  obtain ⟨_, cs, hj⟩ := bld_block hbd
  have hne : F ≠ J := by
    intro e
    rw [← e, show w.heap[F]? = _ from hbox] at hj
    injection hj with hj
    injection hj with _ hj
    exact absurd hj (by decide)
  refine ⟨Bld.store hbd hbox (by decide) hne _ rfl _, ⟨v', hbox.set v', hrow.keep (fun g hg _ => ?_)⟩, hF, by simpa [World.setCell] using hroom⟩
  refine Below.heap_setCell _ _ _ _ (fun e => ?_)
  exact hrow.ne hbox (fun cs e => by injection e with _ e; exact absurd e (by decide)) (by rw [hg]; exact congrArg some e)
end Go.Proofs.YtnnbbjdidbggmaaGreatDoor.F0
