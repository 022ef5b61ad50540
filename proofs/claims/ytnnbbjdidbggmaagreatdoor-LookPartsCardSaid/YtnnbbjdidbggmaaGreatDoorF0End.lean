/-
  (*strings.Builder).Reset empties a Builder; field.Split's closure puts what the joined text tells behind the fields so far, and empties the joined text. Conditions: the joined text has at most 2^31 bytes, there are at most 2^40 fields; the bound of the library's search is some number.
-/
import Derived.Test.YtnnbbjdidbggmaaGreatDoorF0Field
import Derived.Test.YtnnbbjdidbggmaaGreatDoorShelf
namespace Go.Proofs.YtnnbbjdidbggmaaGreatDoor.F0
open Go Go.RowKit Go.Joins Kit

theorem Held.turn {B J F : Nat} {fs : List Fl} {j j' : List UInt8} {w w' : World} (h : Held B J F fs j w) (hg : w.grownBy w' (some J)) (hbd : Lib.IsBuilderF 87 5 B J (Lib.byteCells j') w') : Held B J F fs j' w' := by
  obtain ⟨v, hv, hrow⟩ := h.box
  obtain ⟨_, cs, hj⟩ := bld_block h.bld
  refine ⟨hbd, ⟨v, hv.kept hg (fun e => h.ne (Option.some.inj e)), hrow.keep (fun g hv' hl => hg.block g hl (fun e => ?_))⟩, h.base, Nat.le_trans h.room hg.size⟩
  refine hrow.ne hj (fun cs e => by injection e with _ e; exact absurd e (by decide)) ?_
  rw [hv']
  exact e
/-- What the function leaves of all that is neither the Builder, nor the box, nor a row of bytes or of fields. -/
structure KeepX (J F : Nat) (w w' : World) : Prop where
  size : w.heap.size ≤ w'.heap.size
  same : ∀ k o, w.heap[k]? = some o → k ≠ J → k ≠ F → (∀ c fz, o ≠ .cells c 5 fz) → (∀ c fz, o ≠ .cells c 74 fz) → w'.heap[k]? = some o
namespace KeepX
variable {J F : Nat} {a b c : World}
theorem refl (J F : Nat) (w : World) : KeepX J F w w := ⟨Nat.le_refl _, fun _ _ h _ _ _ _ => h⟩
theorem trans (h : KeepX J F a b) (k : KeepX J F b c) : KeepX J F a c := ⟨Nat.le_trans h.size k.size, fun i o hi h1 h2 h3 h4 => k.same i o (h.same i o hi h1 h2 h3 h4) h1 h2 h3 h4⟩
theorem others (h : Lib.OthersKept 5 (some J) a b) (hs : a.heap.size ≤ b.heap.size) : KeepX J F a b := ⟨hs, fun i o hi h1 _ h3 _ => h i o hi (fun e => h1 (Option.some.inj e)) h3⟩
theorem below (h : Below a.heap.size a b) : KeepX J F a b := ⟨h.size, fun i _ hi _ _ _ _ => (h.block i (Array.getElem?_eq_some_iff.1 hi).1).trans hi⟩
theorem alloc (a : World) (x : Obj) : KeepX J F a (a.alloc x) := below ((Below.refl _ a).alloc (Nat.le_refl _) x)
theorem row {B : Nat} {v : Value} {fs : List Fl} (hr : RowF B v fs a) (hg : a.grownBy b v.ownBlock) : KeepX J F a b := ⟨hg.size, fun i _ hi _ _ _ h4 => (hg.block i (Array.getElem?_eq_some_iff.1 hi).1 (fun e => hr.ne hi (fun cs => h4 cs _) e.symm)).trans hi⟩
theorem set (a : World) (v : Value) : KeepX J F a (a.setCell ⟨F, 0, none⟩ v) := ⟨by simp [World.setCell], fun i _ hi _ h2 _ _ => (Below.heap_setCell _ _ _ _ h2).trans hi⟩
theorem bld (hg : a.grownBy b (some J)) : KeepX J F a b := ⟨hg.size, fun i _ hi h1 _ _ _ => (hg.block i (Array.getElem?_eq_some_iff.1 hi).1 (fun e => h1 (Option.some.inj e))).trans hi⟩
theorem box (h : KeepX J F a b) {A : Nat} {t : TypeId} {v : Value} (hA : Boxed a A t v) (h1 : A ≠ J) (h2 : A ≠ F) (h3 : t ≠ 5) (h4 : t ≠ 74) : Boxed b A t v :=
  h.same A _ hA h1 h2 (fun c fz e => by injection e with _ e; exact h3 e) (fun c fz e => by injection e with _ e; exact h4 e)
end KeepX

set_option maxHeartbeats 400000 in
theorem reset_any (B J F : Nat) (fs : List Fl) (j : List UInt8) (w : World) (h : Held B J F fs j w) :
    Calls Tryz.prog 66 #[.pointer (some ⟨J, 0, none⟩)] w fun e w' => e = .returned (.tuple #[]) ∧ Held B J F fs [] w' ∧ w.grownBy w' (some J) ∧ Below B w w' := by
  obtain ⟨hBJ, cs0, hj0⟩ := bld_block h.bld
  have hJ : ∃ p v, w.heap[J]? = some (.cells #[p, v] 87 (0, 0)) := h.bld.elim (fun ⟨_, v, hb, _⟩ => ⟨_, v, hb⟩) (fun ⟨_, v, hb, _⟩ => ⟨_, v, hb⟩)
  obtain ⟨p, v, hj⟩ := hJ
  have f0 := Lib.frozen_of_heap hj 0
  have f1 := Lib.frozen_of_heap hj 1
  have c0 : w.cell? ⟨J, 0, none⟩ = some p := by rw [Lib.cell_of_heap hj]; rfl
  have c1 : w.cell? ⟨J, 1, none⟩ = some v := by rw [Lib.cell_of_heap hj]; rfl
  have HH := Lib.hid h
  clear h hj0
  go_enter Tryz.func66, Tryz.ntmps66
  go_wp2_with fail
  go_end0
  have hg : w.grownBy ((w.setCell ⟨J, 0, none⟩ (.pointer none)).setCell ⟨J, 1, none⟩ (.slice none 0 0)) (some J) := ⟨rfl, rfl, rfl, by simp [World.setCell], fun k _ hk => by
    rw [Below.heap_setCell _ _ _ _ (fun e => hk (congrArg some e)), Below.heap_setCell _ _ _ _ (fun e => hk (congrArg some e))]⟩
  have hb : Below B w ((w.setCell ⟨J, 0, none⟩ (.pointer none)).setCell ⟨J, 1, none⟩ (.slice none 0 0)) := ((Below.refl B w).setCell (p := ⟨J, 0, none⟩) hBJ _).setCell (p := ⟨J, 1, none⟩) hBJ _
  refine ⟨rfl, HH.out.turn hg (.inl ⟨hBJ, .slice none 0 0, ?_, World.ownsRowF_of (World.ownsRow_nil _ _ _ _), by simp [Value.ownBlock]⟩), hg, hb⟩
  simp [World.setCell, Array.getElem?_modify, hj]

/-- A row that has grown, put into the box. -/
theorem Held.grow {B J F : Nat} {fs fs' : List Fl} {j : List UInt8} {w w' : World} {v v' : Value} (h : Held B J F fs j w) (hv : Boxed w F 37 v) (hrow : RowF B v fs w) (hg : w.grownBy w' v.ownBlock) (hrow' : RowF B v' fs' w') :
    Boxed w' F 37 v ∧ Held B J F fs' j (w'.setCell ⟨F, 0, none⟩ v') ∧ KeepX J F w (w'.setCell ⟨F, 0, none⟩ v') ∧ Below B w (w'.setCell ⟨F, 0, none⟩ v') := by
  have hbox : Boxed w' F 37 v := hv.kept hg (fun e => hrow.ne hv (fun cs e' => by injection e' with _ e'; exact absurd e' (by decide)) e.symm)
  obtain ⟨_, cs, hj⟩ := bld_block h.bld
  have hbd := grown_bld h.bld hg (fun r e => by
    obtain ⟨_, cur, hh⟩ := hrow.block e
    refine ⟨fun e' => ?_, _, hh, fun c fz e' => by injection e' with _ e'; exact absurd e' (by decide)⟩
    rw [← e', hh] at hj
    injection hj with hj
    injection hj with _ hj
    exact absurd hj (by decide))
  have hb : Below B w w' := (Below.refl B w).grown hg h.room (fun k e => (hrow.block e).1)
  refine ⟨hbox, ?_, (KeepX.row hrow hg).trans (KeepX.set _ _), hb.setCell (p := ⟨F, 0, none⟩) h.base _⟩
  refine ⟨Bld.store hbd hbox (by decide) h.ne _ rfl _, ⟨v', hbox.set v', hrow'.keep (fun g hg' _ => ?_)⟩, h.base, by simpa [World.setCell] using Nat.le_trans h.room hb.size⟩
  refine Below.heap_setCell _ _ _ _ (fun e => ?_)
  exact hrow'.ne hbox (fun cs e => by injection e with _ e; exact absurd e (by decide)) (by rw [hg']; exact congrArg some e)

set_option maxHeartbeats 2000000 in
set_option maxRecDepth 100000 in
theorem end_any (B J F : Nat) (fs : List Fl) (j : List UInt8) (w : World) (h : Held B J F fs j w) (hE : ∀ w', Below B w w' → Srch.Env w') (hj : j.length ≤ 2147483648) (hfs : fs.length ≤ 1099511627776) :
    Calls Tryz.prog 63 #[.pointer (some ⟨J, 0, none⟩), .pointer (some ⟨F, 0, none⟩)] w fun e w' => e = .returned (.tuple #[]) ∧ Held B J F (fs ++ oneL j) [] w' ∧ KeepX J F w w' ∧ Below B w w' := by
  have HE := Lib.hid hE
  have HH := Lib.hid h
  have HB := Lib.hid h.room
  clear hE h
  go_enter Tryz.func63, Tryz.ntmps63
  go_wp2_with fail
  refine (Tryz.Builder_String_any_k B J j w HH.out.bld HB.out).mono ?_
  rintro e w1 ⟨rfl, hI1, hb1, hk1⟩
  have H1 := Lib.hid (HH.out.write hI1 hb1 hk1)
  have K1 : Hid (KeepX J F w w1) := Lib.hid (KeepX.others hk1 hb1.size)
  have B1 := Lib.hid hb1
  clear hI1 hk1 hb1
  go_wp2_with fail
  refine (asField_any ⟨j.toArray⟩ w1 (by rw [Lib.size_mk]; exact hj) (HE.out w1 B1.out)).mono ?_
  rintro e w2 ⟨rfl, hb2⟩
  have H2 := Lib.hid (H1.out.below hb2)
  have K2 : Hid (KeepX J F w w2) := Lib.hid (K1.out.trans (KeepX.below hb2))
  have B2 := Lib.hid (B1.out.trans (hb2.mono H1.out.room))
  clear hb2
  rw [show (ByteArray.mk j.toArray).data.toList = j from rfl]
  cases hf : fieldL j with
  | none =>
    have hone : Hid (fs ++ oneL j = fs) := Lib.hid (by unfold oneL; rw [hf]; simp)
    clear hf
    unfold fV
    go_wp2_with fail
    have H3 := Lib.hid (H2.out.alloc (.cells #[.string ⟨#[]⟩, .string ⟨#[]⟩] 74))
    refine (reset_any B J F fs j _ H3.out).mono ?_
    rintro e w3 ⟨rfl, h3, hg3, hb3⟩
    go_wp2_with fail
    go_end0
    rw [hone.out]
    exact ⟨rfl, h3, (K2.out.trans (KeepX.alloc _ _)).trans (KeepX.bld hg3), (B2.out.alloc H2.out.room _).trans hb3⟩
  | some f =>
    obtain ⟨fn, fv⟩ := f
    have hone : Hid (fs ++ oneL j = fs ++ [(fn, fv)]) := Lib.hid (by unfold oneL; rw [hf]; rfl)
    clear hf
    unfold fV sV
    have hblk := Kit.fresh_block w2 #[sV fn, sV fv] 74
    unfold sV at hblk
    have H3 := Lib.hid (H2.out.alloc (.cells #[sV fn, sV fv] 74))
    obtain ⟨v, hv, hrow⟩ := H3.out.box
    obtain ⟨va, vc, rfl⟩ := hrow.form
    have hc1 : (w2.alloc (.cells #[.string ⟨fn.toArray⟩, .string ⟨fv.toArray⟩] 74)).cell? ⟨F, 0, none⟩ = some (.slice va fs.length vc) := hv.cell
    have HRA := Lib.hid (And.intro hv (And.intro hrow H3.out.room))
    clear hv hrow hblk
    obtain ⟨w3, hw3⟩ : ∃ w3, w2.alloc (.cells #[.string ⟨fn.toArray⟩, .string ⟨fv.toArray⟩] 74) = w3 := ⟨_, rfl⟩
    have hblk2 : (w3.alloc (.cells #[sV fn, sV fv] 74)).heap[w3.heap.size]? = some (.cells #[sV fn, sV fv] 74 (0, 0)) := Kit.fresh_block w3 _ _
    have hs3 : w3.heap.size = w2.heap.size + 1 := by rw [← hw3]; simp
    rw [hs3] at hblk2
    rw [← hw3] at hblk2
    have hrow4 : RowF B (.slice va fs.length vc) fs ((w2.alloc (.cells #[.string ⟨fn.toArray⟩, .string ⟨fv.toArray⟩] 74)).alloc (.cells #[.string ⟨fn.toArray⟩, .string ⟨fv.toArray⟩] 74)) := HRA.out.2.1.below ((Below.refl _ _).alloc (Nat.le_refl _) _)
    have hB4 : B ≤ ((w2.alloc (.cells #[.string ⟨fn.toArray⟩, .string ⟨fv.toArray⟩] 74)).alloc (.cells #[.string ⟨fn.toArray⟩, .string ⟨fv.toArray⟩] 74)).heap.size := Nat.le_trans HRA.out.2.2 (by simp)
    clear hw3 hs3
    go_wp2_with (at_builtin; refine RowF.app rfl _ _ rfl B _ _ fs hrow4 (fn, fv) _ 1 hblk2 rfl rfl hfs hB4 ?_)
    intro g c w5 hrow5 hgr5 hat5
    have H4 := H3.out.alloc (.cells #[.string ⟨fn.toArray⟩, .string ⟨fv.toArray⟩] 74)
    have hv4 := HRA.out.1.alloc (.cells #[.string ⟨fn.toArray⟩, .string ⟨fv.toArray⟩] 74)
    obtain ⟨hbox5, H6, K6, B6⟩ := Held.grow H4 hv4 hrow4 hgr5 hrow5
    have c5 := hbox5.cell
    have f5 := hbox5.frozen
    have HF := Lib.hid (And.intro H6 (And.intro K6 B6))
    clear hrow5 hgr5 hat5 H4 hv4 hbox5 H6 K6 B6 hrow4 hB4 hblk2
    go_wp2_with fail
    refine (reset_any B J F (fs ++ [(fn, fv)]) j _ HF.out.1).mono ?_
    rintro e w7 ⟨rfl, h7, hg7, hb7⟩
    go_wp2_with fail
    go_end0
    rw [hone.out]
    have hb4 : Below B w ((w2.alloc (.cells #[.string ⟨fn.toArray⟩, .string ⟨fv.toArray⟩] 74)).alloc (.cells #[.string ⟨fn.toArray⟩, .string ⟨fv.toArray⟩] 74)) := (B2.out.alloc H2.out.room _).alloc HRA.out.2.2 _
    exact ⟨rfl, h7, (((K2.out.trans (KeepX.alloc _ _)).trans (KeepX.alloc _ _)).trans HF.out.2.1).trans (KeepX.bld hg7), (hb4.trans HF.out.2.2).trans hb7⟩
end Go.Proofs.YtnnbbjdidbggmaaGreatDoor.F0
