/-
  field.Split tells the fields of the lines of some bytes of a text, in a slice of its own, and the place behind the empty line. Conditions: the text has at most 32768 bytes; the bound of the library's search is some number.
-/
import Derived.Test.YtnnbbjdidbggmaaGreatDoorF0End
import Derived.Test.YtnnbbjdidbggmaaGreatDoorF0Lines
import Derived.Laws.EntriesVeiled
namespace Go.Proofs.YtnnbbjdidbggmaaGreatDoor.F0
open Go Go.RowKit Go.Joins Go.Shelf Kit

attribute [local go_sem] Oper.semAt_some

theorem boxes_below {s : ByteArray} {a0 t0 A1 A2 A3 : Nat} {w W : World} (h : Boxes s a0 t0 A1 A2 A3 w) (hb : Below w.heap.size w W) : Boxes s a0 t0 A1 A2 A3 W :=
  ⟨h.1.kept (grown_below hb) (by simp), h.2.1.kept (grown_below hb) (by simp), h.2.2.kept (grown_below hb) (by simp)⟩
theorem lines_stops (n : Nat) (hn : 1 ≤ n) (n0 A1 A2 A3 a0 t0 : Nat) (s : ByteArray) (hs : s.size ≤ 32768) (hat : a0 ≤ t0) (hto : t0 ≤ s.size) (w w0 : World) (hn0 : n0 ≤ w0.heap.size) (hw0 : Below n0 w0 w) (hE : ∀ w', Below n0 w0 w' → Srch.Env w') (hb : Boxes s a0 t0 A1 A2 A3 w) :
    SeqStopsK Fence.wide n Tryz.prog 103 #[.pointer (some ⟨A1, 0, none⟩), .pointer (some ⟨A2, 0, none⟩), .pointer (some ⟨A3, 0, none⟩)] encs (KpL n0 (Boxes s a0 t0 A1 A2 A3))
      (fun ys => ys.map dec = linesL a0 ((s.data.toList.take t0).drop a0)) (fun pre => pre.map dec <+: linesL a0 ((s.data.toList.take t0).drop a0)) 32769 w := fun l J Jx W hW hJ _ hY h0 =>
  lines1_in n hn l n0 A1 A2 A3 a0 t0 s hs hat hto J Jx hY W w0 hn0 (hw0.trans (hW.mono (Nat.le_trans hn0 hw0.size))) hE (boxes_below hb hW) h0 hJ

theorem boxed_at {W : World} {n : Nat} (h : W.heap.size = n) (t : TypeId) (v : Value) : Boxed (W.alloc (.cells #[v] t)) n t v := by
  subst h
  exact Boxed.new W t v
set_option maxHeartbeats 1000000 in
set_option maxRecDepth 100000 in
theorem split_none (s : ByteArray) (a t : Int) (w : World) (h : a < 0 ∨ t < a ∨ (s.size : Int) < t) :
    Calls Tryz.prog 37 #[.string s, .int .i64 a, .int .i64 t] w fun e w' => e = .returned (.tuple #[.slice none 0 0, .int .i64 a]) ∧ Below w.heap.size w w' := by
  have hb : Below w.heap.size w ((w.alloc (.cells #[.slice none 0 0] 37)).alloc (.cells #[.int .i64 a] 3)) := ((Below.refl _ w).alloc (Nat.le_refl _) _).alloc (by simp) _
  have c1 : ((w.alloc (.cells #[.slice none 0 0] 37)).alloc (.cells #[.int .i64 a] 3)).cell? ⟨w.heap.size, 0, none⟩ = some (.slice none 0 0) := ((Boxed.new w 37 (.slice none 0 0)).alloc _).cell
  have c2 : ((w.alloc (.cells #[.slice none 0 0] 37)).alloc (.cells #[.int .i64 a] 3)).cell? ⟨w.heap.size + 1, 0, none⟩ = some (.int .i64 a) := (boxed_at (by simp) _ _).cell
  have HC := Lib.hid (And.intro c1 (And.intro c2 hb))
  clear c1 c2 hb
  refine (callsIn_wide (n := 3)).1 ?_
  refine callsIn_of_wp_marks Tryz.func37 rfl trivial ?_ rfl
  simp only [Tryz.ntmps37, List.size_toArray, List.length_cons, List.length_nil, Nat.reduceAdd, Nat.reduceSub, Array.replicate_succ, Array.replicate_zero, List.push_toArray, List.append_toArray, List.nil_append, List.cons_append]
  have HFIN : ∀ tmps : Array Value, tmps.getD 6 undef = .pointer (some ⟨w.heap.size, 0, none⟩) → tmps.getD 7 undef = .pointer (some ⟨w.heap.size + 1, 0, none⟩) → bodyPostM Fence.wide 3 Tryz.prog Tryz.f37 (fun e w' => e = .returned (.tuple #[.slice none 0 0, .int .i64 a]) ∧ Below w.heap.size w w') .ret { tmps := tmps, defers := [] } ((w.alloc (.cells #[.slice none 0 0] 37)).alloc (.cells #[.int .i64 a] 3)) := by
    intro tmps h6 h7
    refine ⟨.tuple #[.slice none 0 0, .int .i64 a], ?_, rfl, HC.out.2.2⟩
    have h6' : tmps[6]?.getD undef = .pointer (some ⟨w.heap.size, 0, none⟩) := by simpa using h6
    have h7' : tmps[7]?.getD undef = .pointer (some ⟨w.heap.size + 1, 0, none⟩) := by simpa using h7
    have d1 := HC.out.1
    have d2 := HC.out.2.1
    simp [results, Tryz.f37, h6', h7', go_sem, d1, d2]
  have HF := Lib.hid HFIN
  clear HFIN
  rcases h with h1 | h1
  · gi_wp2_with fail
    exact HF.out _ rfl rfl
  · by_cases h0 : a < 0
    · clear h1
      gi_wp2_with fail
      exact HF.out _ rfl rfl
    · rcases h1 with h1 | h1
      · gi_wp2_with fail
        exact HF.out _ rfl rfl
      · by_cases h2 : t < a
        · gi_wp2_with fail
          exact HF.out _ rfl rfl
        · gi_wp2_with fail
          exact HF.out _ rfl rfl

def txt (x : Ln) : List UInt8 := x.1.1.data.toList
/-- The closure that ends a field. -/
def endV (B : Nat) : Value := .func (.func 63) #[] #[.pointer (some ⟨B + 1 + 1, 0, none⟩), .pointer (some ⟨B, 0, none⟩)]
def world0 (s : ByteArray) (a0 t0 : Nat) (w : World) : World :=
  (((((((w.alloc (.cells #[.slice none 0 0] 37)).alloc (.cells #[.int .i64 (t0 : Int)] 3)).alloc (.cells #[.pointer none, .slice none 0 0] 87)).alloc (.cells #[endV w.heap.size] 1)).alloc (.cells #[.string s] 9)).alloc (.cells #[.int .i64 (a0 : Int)] 3)).alloc (.cells #[.int .i64 (t0 : Int)] 3))
/-- What Split keeps in memory, between two lines. -/
structure Sp (s : ByteArray) (a0 t0 B : Nat) (w0 : World) (ts : List (List UInt8)) (b : Nat) (W : World) : Prop where
  held : Held B (B + 1 + 1) B (stL ts).1 (stL ts).2 W
  body : Boxed W (B + 1) 3 (.int .i64 (b : Int))
  clos : Boxed W (B + 1 + 1 + 1) 1 (endV B)
  boxes : Boxes s a0 t0 (B + 1 + 1 + 1 + 1 + 1) (B + 1 + 1 + 1 + 1 + 1 + 1) (B + 1 + 1 + 1 + 1) W
  below : Below B w0 W
theorem sp_start (s : ByteArray) (a0 t0 : Nat) (w : World) : Sp s a0 t0 w.heap.size w [] t0 (world0 s a0 t0 w) ∧ (world0 s a0 t0 w).heap.size = w.heap.size + 7 := by
  refine ⟨⟨⟨?_, ⟨_, ?_, RowF.new _ _⟩, Nat.le_refl _, ?_⟩, ?_, ?_, ⟨?_, ?_, ?_⟩, ?_⟩, ?_⟩
  · have h : ∀ W : World, W.heap.size = w.heap.size + 1 + 1 → Lib.IsBuilderF 87 5 w.heap.size (w.heap.size + 1 + 1) [] (W.alloc (.cells #[.pointer none, .slice none 0 0] 87)) := fun W hW =>
      .inl ⟨by omega, .slice none 0 0, Bld.at_size hW, World.ownsRowF_of (World.ownsRow_nil _ _ _ _), by simp [Value.ownBlock]⟩
    exact ((((h _ (by simp)).alloc _).alloc _).alloc _).alloc _
  · exact ((((((boxed_at rfl _ _).alloc _).alloc _).alloc _).alloc _).alloc _).alloc _
  · simp [world0]; omega
  · exact (((((boxed_at (by simp) _ _).alloc _).alloc _).alloc _).alloc _).alloc _
  · exact (((boxed_at (by simp) _ _).alloc _).alloc _).alloc _
  · exact (boxed_at (by simp) _ _).alloc _
  · exact boxed_at (by simp) _ _
  · exact ((boxed_at (by simp) _ _).alloc _).alloc _
  · unfold world0
    exact (((((((Below.refl _ w).alloc (Nat.le_refl _) _).alloc (by simp) _).alloc (by simp; omega) _).alloc (by simp; omega) _).alloc (by simp; omega) _).alloc (by simp; omega) _).alloc (by simp; omega) _
  · simp [world0]
/-- It abides what turns blocks that are no cells. -/
theorem Sp.own {s : ByteArray} {a0 t0 B : Nat} {w0 : World} {ts : List (List UInt8)} {b : Nat} {W W' : World} {row : Option Nat} (h : Sp s a0 t0 B w0 ts b W) (hB : w0.heap.size = B) (hg : W.grownBy W' row) (hr : ∀ r, row = some r → B ≤ r ∧ ∃ o : Obj, W.heap[r]? = some o ∧ o.isCells = false) : Sp s a0 t0 B w0 ts b W' := by
  have hne : ∀ {A : Nat} {t : TypeId} {v : Value}, Boxed W A t v → some A ≠ row := fun hA e => by
    obtain ⟨_, o, ho, hc⟩ := hr _ e.symm
    rw [show W.heap[_]? = _ from hA] at ho
    cases ho
    cases hc
  refine ⟨h.held.grown hg (fun r e => ?_), h.body.kept hg (hne h.body), h.clos.kept hg (hne h.clos), ⟨h.boxes.1.kept hg (hne h.boxes.1), h.boxes.2.1.kept hg (hne h.boxes.2.1), h.boxes.2.2.kept hg (hne h.boxes.2.2)⟩, h.below.grown hg (by rw [← hB]; exact h.below.size) (fun k e => (hr k e).1)⟩
  obtain ⟨_, o, ho, hc⟩ := hr r e
  obtain ⟨v, hv, _⟩ := h.held.box
  obtain ⟨_, cs, hj⟩ := bld_block h.held.bld
  refine ⟨fun e' => ?_, fun e' => ?_, o, ho, fun c fz e' => ?_, fun c fz e' => ?_⟩
  · rw [e', hj] at ho; cases ho; cases hc
  · rw [e', show W.heap[_]? = _ from hv] at ho; cases ho; cases hc
  · rw [e'] at hc; cases hc
  · rw [e'] at hc; cases hc
theorem Sp.setBody {s : ByteArray} {a0 t0 B : Nat} {w0 : World} {ts : List (List UInt8)} {b : Nat} {W : World} (h : Sp s a0 t0 B w0 ts b W) (b' : Nat) : Sp s a0 t0 B w0 ts b' (W.setCell ⟨B + 1, 0, none⟩ (.int .i64 (b' : Int))) := by
  have hg := grownBy_setCell' W (B + 1) (.int .i64 (b' : Int))
  have hne : ∀ {A : Nat}, A ≠ B + 1 → some A ≠ some (B + 1) := fun h e => h (Option.some.inj e)
  refine ⟨h.held.grown hg (fun r e => ?_), h.body.set _, h.clos.kept hg (hne (by omega)), ⟨h.boxes.1.kept hg (hne (by omega)), h.boxes.2.1.kept hg (hne (by omega)), h.boxes.2.2.kept hg (hne (by omega))⟩, h.below.setCell (p := ⟨B + 1, 0, none⟩) (by show B ≤ B + 1; omega) _⟩
  obtain rfl : B + 1 = r := Option.some.inj e
  exact ⟨by omega, by omega, _, h.body, fun c fz e' => by injection e' with _ e'; exact absurd e' (by decide), fun c fz e' => by injection e' with _ e'; exact absurd e' (by decide)⟩
/-- What the two writers leave. -/
theorem Sp.next {s : ByteArray} {a0 t0 B : Nat} {w0 : World} {ts ts' : List (List UInt8)} {b : Nat} {W W' : World} (h : Sp s a0 t0 B w0 ts b W) (hh : Held B (B + 1 + 1) B (stL ts').1 (stL ts').2 W') (hk : KeepX (B + 1 + 1) B W W') (hb : Below B W W') : Sp s a0 t0 B w0 ts' b W' :=
  ⟨hh, hk.box h.body (by omega) (by omega) (by decide) (by decide), hk.box h.clos (by omega) (by omega) (by decide) (by decide),
    ⟨hk.box h.boxes.1 (by omega) (by omega) (by decide) (by decide), hk.box h.boxes.2.1 (by omega) (by omega) (by decide) (by decide), hk.box h.boxes.2.2 (by omega) (by omega) (by decide) (by decide)⟩, h.below.trans hb⟩
theorem keepX_from {B C : Nat} {W W' : World} (hC : B + 7 ≤ C) (h : KeepX (B + 1 + 1) B W W') : KeepsFrom C W W' :=
  ⟨h.size, fun k o hk ho hc => h.same k o ho (by omega) (by omega) (fun c fz e => by rw [e] at hc; cases hc) (fun c fz e => by rw [e] at hc; cases hc)⟩
theorem keepX_kpl {s : ByteArray} {a0 t0 B : Nat} {W W' : World} (h : KeepX (B + 1 + 1) B W W') (hb : Below B W W') : KpL B (Boxes s a0 t0 (B + 1 + 1 + 1 + 1 + 1) (B + 1 + 1 + 1 + 1 + 1 + 1) (B + 1 + 1 + 1 + 1)) W W' :=
  ⟨hb, fun hx => ⟨h.box hx.1 (by omega) (by omega) (by decide) (by decide), h.box hx.2.1 (by omega) (by omega) (by decide) (by decide), h.box hx.2.2 (by omega) (by omega) (by decide) (by decide)⟩⟩
theorem fin_world {B D b : Nat} {v : Value} {FS : List Fl} {w w2 : World} (hv : Boxed w2 B 37 v) (hbd : Boxed w2 (B + 1) 3 (.int .i64 (b : Int))) (hrow : RowF B v FS w2) (hK : w2.heap[D]? = some (.deferred (some []))) (hD : B ≤ D) (hb : Below B w w2) :
    ((w2.setCell ⟨B, 0, none⟩ v).setCell ⟨B + 1, 0, none⟩ (.int .i64 (b : Int))).drew.heap[D]? = some (.deferred (some [])) ∧
      Boxed (((w2.setCell ⟨B, 0, none⟩ v).setCell ⟨B + 1, 0, none⟩ (.int .i64 (b : Int))).drew.putObj D (.deferred none)) B 37 v ∧
      Boxed (((w2.setCell ⟨B, 0, none⟩ v).setCell ⟨B + 1, 0, none⟩ (.int .i64 (b : Int))).drew.putObj D (.deferred none)) (B + 1) 3 (.int .i64 (b : Int)) ∧
      RowF B v FS (((w2.setCell ⟨B, 0, none⟩ v).setCell ⟨B + 1, 0, none⟩ (.int .i64 (b : Int))).drew.putObj D (.deferred none)) ∧
      Below B w (((w2.setCell ⟨B, 0, none⟩ v).setCell ⟨B + 1, 0, none⟩ (.int .i64 (b : Int))).drew.putObj D (.deferred none)) := by
  have n1 : D ≠ B := fun e => by rw [e, show w2.heap[B]? = _ from hv] at hK; cases hK
  have n2 : D ≠ B + 1 := fun e => by rw [e, show w2.heap[B + 1]? = _ from hbd] at hK; cases hK
  have hK3 : ((w2.setCell ⟨B, 0, none⟩ v).setCell ⟨B + 1, 0, none⟩ (.int .i64 (b : Int))).drew.heap[D]? = some (.deferred (some [])) := by
    show ((w2.setCell ⟨B, 0, none⟩ v).setCell ⟨B + 1, 0, none⟩ (.int .i64 (b : Int))).heap[D]? = _
    rw [Below.heap_setCell _ _ _ _ n2, Below.heap_setCell _ _ _ _ n1]
    exact hK
  have v3 : Boxed ((w2.setCell ⟨B, 0, none⟩ v).setCell ⟨B + 1, 0, none⟩ (.int .i64 (b : Int))).drew B 37 v := (hv.set v).other (by omega) _
  have b3 : Boxed ((w2.setCell ⟨B, 0, none⟩ v).setCell ⟨B + 1, 0, none⟩ (.int .i64 (b : Int))).drew (B + 1) 3 (.int .i64 (b : Int)) := (hbd.other (by omega) v).set _
  have hg := grownBy_putObj' ((w2.setCell ⟨B, 0, none⟩ v).setCell ⟨B + 1, 0, none⟩ (.int .i64 (b : Int))).drew D (.deferred none)
  have hb3 : Below B w ((w2.setCell ⟨B, 0, none⟩ v).setCell ⟨B + 1, 0, none⟩ (.int .i64 (b : Int))).drew := ((hb.setCell (p := ⟨B, 0, none⟩) (Nat.le_refl _) _).setCell (p := ⟨B + 1, 0, none⟩) (by show B ≤ B + 1; omega) _).drew
  refine ⟨hK3, v3.kept hg (fun e => n1 (Option.some.inj e).symm), b3.kept hg (fun e => n2 (Option.some.inj e).symm), hrow.keep (fun g hg' hl => ?_), hb3.grown hg (by have := (Array.getElem?_eq_some_iff.1 hK3).1; omega) (fun k e => by cases e; exact hD)⟩
  rw [World.putObj_heap_other (fun e => hrow.ne hK (fun cs e' => by cases e') (by rw [hg', e]))]
  show ((w2.setCell ⟨B, 0, none⟩ v).setCell ⟨B + 1, 0, none⟩ (.int .i64 (b : Int))).heap[g]? = _
  rw [Below.heap_setCell _ _ _ _ (fun e => hrow.ne hbd (fun cs e' => by injection e' with _ e'; exact absurd e' (by decide)) (by rw [hg']; exact congrArg some e)), Below.heap_setCell _ _ _ _ (fun e => hrow.ne hv (fun cs e' => by injection e' with _ e'; exact absurd e' (by decide)) (by rw [hg']; exact congrArg some e))]
theorem txt_dec (ys : List Ln) : (ys.map dec).map (·.1) = ys.map txt := by
  rw [List.map_map]
  rfl
theorem st_small {ys : List Ln} {L : List UInt8} {a0 : Nat} (hL : L.length ≤ 32768) (h : ys.map dec <+: linesL a0 L) : (stL (ys.map txt)).1.length ≤ 32769 ∧ (stL (ys.map txt)).2.length ≤ 1073774592 := by
  have h1 := h.length_le
  rw [List.length_map] at h1
  have h2 := linesG_count L [] a0
  unfold linesL at h1
  have hlen := stL_le 32768 (ys.map txt) (fun t ht => by
    obtain ⟨y, _, rfl⟩ := List.mem_map.1 ht
    unfold txt
    rw [← Lib.size_eq]
    exact y.2.1)
  rw [List.length_map] at hlen
  exact ⟨by omega, by omega⟩
theorem kpl_put {s : ByteArray} {a0 t0 A1 A2 A3 n0 : Nat} {w W : World} (hn : n0 ≤ w.heap.size) (l : Nat) (o o' : Obj) (hl : w.heap.size ≤ l) (h : W.heap[l]? = some o) (hc : o.isCells = false) (hw : o.isWalk = false) : KpL n0 (Boxes s a0 t0 A1 A2 A3) W (W.putObj l o') := by
  refine ⟨belowK_b hn W l o o' hl h hc hw, fun hb => ?_⟩
  have hne : ∀ {A : Nat} {t : TypeId} {v : Value}, Boxed W A t v → some A ≠ some l := fun hA e => by
    cases e
    rw [show W.heap[l]? = _ from hA] at h
    cases h
    cases hc
  exact ⟨hb.1.kept (grownBy_putObj' W l o') (hne hb.1), hb.2.1.kept (grownBy_putObj' W l o') (hne hb.2.1), hb.2.2.kept (grownBy_putObj' W l o') (hne hb.2.2)⟩

set_option maxHeartbeats 2000000 in
set_option maxRecDepth 100000 in
theorem split_some (s : ByteArray) (a0 t0 : Nat) (w : World) (hs : s.size ≤ 32768) (hat : a0 ≤ t0) (hto : t0 ≤ s.size) (hE : Srch.Env w) :
    Calls Tryz.prog 37 #[.string s, .int .i64 (a0 : Int), .int .i64 (t0 : Int)] w fun e w' => ∃ v, e = .returned (.tuple #[v, .int .i64 ((splitL a0 t0 ((s.data.toList.take t0).drop a0)).2 : Int)]) ∧
      RowF w.heap.size v (splitL a0 t0 ((s.data.toList.take t0).drop a0)).1 w' ∧ Below w.heap.size w w' := by
  have g0 : ¬ (a0 : Int) < 0 := by omega
  have g1 : ¬ (t0 : Int) < (a0 : Int) := by omega
  have g2 : ¬ (s.size : Int) < (t0 : Int) := by omega
  refine (callsIn_wide (n := 3)).1 ?_
  refine callsIn_of_wp_marks Tryz.func37 rfl trivial ?_ rfl
  simp only [Tryz.ntmps37, List.size_toArray, List.length_cons, List.length_nil, Nat.reduceAdd, Nat.reduceSub, Array.replicate_succ, Array.replicate_zero, List.push_toArray, List.append_toArray, List.nil_append, List.cons_append]
  gi_wp2_with fail
  refine ⟨trivial, ?_⟩
  refine (lines_any _ s a0 t0 _).mono ?_
  rintro e w1 ⟨rfl, rfl⟩
  gi_wp2_with fail
  obtain ⟨hsp, hsz0⟩ := sp_start s a0 t0 w
  have hw0 : (((((((w.alloc (.cells #[.slice none 0 0] 37)).alloc (.cells #[.int .i64 (t0 : Int)] 3)).alloc (.cells #[.pointer none, .slice none 0 0] 87)).alloc (.cells #[.func (.func 63) #[] #[.pointer (some ⟨w.heap.size + 1 + 1, 0, none⟩), .pointer (some ⟨w.heap.size, 0, none⟩)]] 1)).alloc (.cells #[.string s] 9)).alloc (.cells #[.int .i64 (a0 : Int)] 3)).alloc (.cells #[.int .i64 (t0 : Int)] 3)) = world0 s a0 t0 w := rfl
  rw [hw0]
  clear hw0
  have HE := Lib.hid hE
  have HENV : Hid (∀ w', Below w.heap.size w w' → Srch.Env w') := Lib.hid (fun w' h => HE.out.next h)
  obtain ⟨W0, hW0⟩ : ∃ W0, world0 s a0 t0 w = W0 := ⟨_, rfl⟩
  rw [hW0] at hsp hsz0 ⊢
  clear hW0 hE
  refine wpIn_rangeFunc_ownG rfl (by omega) (gf := 103) (lb := #[.pointer (some ⟨w.heap.size + 1 + 1 + 1 + 1 + 1, 0, none⟩), .pointer (some ⟨w.heap.size + 1 + 1 + 1 + 1 + 1 + 1, 0, none⟩), .pointer (some ⟨w.heap.size + 1 + 1 + 1 + 1, 0, none⟩)]) rfl trivial (enters_of Tryz.func103 (by kernel_rfl) rfl)
    (lines_stops 2 (by omega) w.heap.size _ _ _ a0 t0 s hs hat hto W0 w (Nat.le_refl _) hsp.below HENV.out hsp.boxes) (fun h k => KpL.t h k) (fun W l o o' hl h hc hw => kpl_put (w := W0) (by omega) l o o' hl h hc hw) (Below.refl _ _) (fun _ => rfl)
    (fun pre W => Sp s a0 t0 w.heap.size w (pre.map txt) t0 W ∧ ∀ x ∈ pre, txt x ≠ [])
    (fun c pre W => c = .exit 0 ∧ ∃ pre' x, pre = pre' ++ [x] ∧ txt x = [] ∧ (∀ y ∈ pre', txt y ≠ []) ∧ Sp s a0 t0 w.heap.size w (pre'.map txt) x.1.2 W)
    (fun pre X Y row hs' hg hr => ⟨hs'.1.own rfl hg (fun r e => ⟨by have := (hr r e).1; omega, (hr r e).2⟩), hs'.2⟩)
    (fun c pre X Y row hs' hg hr => by
      obtain ⟨hc, pre', x, h1, h2, h3, h4⟩ := hs'
      exact ⟨hc, pre', x, h1, h2, h3, h4.own rfl hg (fun r e => ⟨by have := (hr r e).1; omega, (hr r e).2⟩)⟩)
    ⟨hsp, fun x hx => by cases hx⟩
    (fun x => { tmps := #[.string s, .int .i64 a0, .int .i64 t0, undef, undef, undef, .pointer (some ⟨w.heap.size, 0, none⟩), .pointer (some ⟨w.heap.size + 1, 0, none⟩), .pointer (some ⟨w.heap.size + 1 + 1, 0, none⟩), .pointer (some ⟨w.heap.size + 1 + 1 + 1, 0, none⟩), .string x.1.1, .int .i64 (x.1.2 : Int), .int .i64 a0, .bool false, .bool false, .int .i64 a0, .int .i64 t0, .bool false, .bool false, .bool false, .int .i64 t0, .string s, .int .i64 s.size, .bool false, .bool false, undef,
      .func (.func 63) #[] #[.pointer (some ⟨w.heap.size + 1 + 1, 0, none⟩), .pointer (some ⟨w.heap.size, 0, none⟩)], .int .i64 t0, .string s, .int .i64 a0, .int .i64 t0,
      .func (.func 103) #[] #[.pointer (some ⟨w.heap.size + 1 + 1 + 1 + 1 + 1, 0, none⟩), .pointer (some ⟨w.heap.size + 1 + 1 + 1 + 1 + 1 + 1, 0, none⟩), .pointer (some ⟨w.heap.size + 1 + 1 + 1 + 1, 0, none⟩)], .string x.1.1, .int .i64 (x.1.2 : Int), undef, undef, undef, undef, undef, undef, undef, undef, undef, undef, undef, undef, undef, undef], defers := [] }) ?assign ?body ?done ?stop
  case assign =>
    intro l x W K hK
    dsimp only [encs]
    gi_wp2
    exact hK
  case body =>
    rintro l pre ⟨⟨T, nx⟩, hT, hN⟩ W ⟨hsp1, hpre⟩ hlt
    clear hsp
    have hsz1 : w.heap.size ≤ W.heap.size := hsp1.below.size
    have hlen := stL_le 32768 (pre.map txt) (fun t ht => by
      obtain ⟨y, _, rfl⟩ := List.mem_map.1 ht
      unfold txt
      rw [← Lib.size_eq]
      exact y.2.1)
    rw [List.length_map] at hlen
    obtain ⟨hlen1, hlen2⟩ := hlen
    have hlen3 : (stL (pre.map txt)).2.length ≤ 1073741824 := Nat.le_trans hlen2 (by omega)
    have hT1 : T.size ≤ 32768 := hT
    have HPRE := Lib.hid hpre
    have HSZ0 := Lib.hid hsz0
    clear hlen2 hpre hsz0
    obtain ⟨fs, hfs⟩ : ∃ fs, (stL (pre.map txt)).1 = fs := ⟨_, rfl⟩
    obtain ⟨j, hj⟩ : ∃ j, (stL (pre.map txt)).2 = j := ⟨_, rfl⟩
    have HFS := Lib.hid hfs
    have HJ := Lib.hid hj
    have hheld : Held w.heap.size (w.heap.size + 1 + 1) w.heap.size fs j W := by
      have := hsp1.held
      rw [hfs, hj] at this
      exact this
    rw [hfs] at hlen1
    rw [hj] at hlen3
    clear hfs hj
    by_cases hx : T.size = 0
    · have hte := toList_nil hx
      have cb := hsp1.body.cell
      have fb := hsp1.body.frozen
      have HSP := Lib.hid hsp1
      clear hsp1
      gi_wp2_with fail
      exact ⟨(KeepsOthers.setCell _ _ _).from _, rfl, pre, ⟨(T, nx), _⟩, rfl, by unfold txt; show T.data.toList = []; exact List.length_eq_zero_iff.1 (by rw [← Lib.size_eq]; exact hx), HPRE.out, HSP.out.setBody nx⟩
    · have hte := toList_isEmpty hx
      have HSP := Lib.hid hsp1
      have hcl := hsp1.clos.cell
      unfold endV at hcl
      have HH := Lib.hid hheld
      have HNE : Hid (∀ x ∈ pre ++ [(⟨(T, nx), ⟨hT, hN⟩⟩ : Ln)], txt x ≠ []) := Lib.hid (fun x hx' => by
        rcases List.mem_append.1 hx' with h | h
        · exact HPRE.out x h
        · simp only [List.mem_singleton] at h
          subst h
          unfold txt
          exact data_ne hx)
      have HMAP : Hid (∀ (W' : World), Held w.heap.size (w.heap.size + 1 + 1) w.heap.size (stepL (fs, j) T.data.toList).1 (stepL (fs, j) T.data.toList).2 W' → Held w.heap.size (w.heap.size + 1 + 1) w.heap.size (stL ((pre ++ [(⟨(T, nx), ⟨hT, hN⟩⟩ : Ln)]).map txt)).1 (stL ((pre ++ [(⟨(T, nx), ⟨hT, hN⟩⟩ : Ln)]).map txt)).2 W') := Lib.hid (fun W' h => by
        rw [List.map_append, List.map_singleton, stL_snoc, show stL (pre.map txt) = (fs, j) from Prod.ext HFS.out HJ.out]
        exact h)
      have hT0 : 0 < T.size := by omega
      clear hsp1 hheld
      gi_wp2_with fail
      refine ⟨trivial, ?_⟩
      refine (CallsIn.inRound l (callsIn_wide.2 (goesOn_any T W hT0))).mono ?_
      rintro e w1 ⟨rfl, hb1⟩
      have H1 := Lib.hid (HH.out.below hb1)
      have K1 : Hid (KeepX (w.heap.size + 1 + 1) w.heap.size W w1) := Lib.hid (KeepX.below hb1)
      have B1 := Lib.hid (hb1.mono hsz1)
      have hcl1 : w1.cell? ⟨w.heap.size + 1 + 1 + 1, 0, none⟩ = some (.func (.func 63) #[] #[.pointer (some ⟨w.heap.size + 1 + 1, 0, none⟩), .pointer (some ⟨w.heap.size, 0, none⟩)]) := (hb1.cell (p := ⟨w.heap.size + 1 + 1 + 1, 0, none⟩) (cell_lt hcl)).trans hcl
      clear hb1 hcl
      cases hgo : goesL T.data.toList
      · have HST : Hid (stepL (fs, j) T.data.toList = (fs ++ oneL j, T.data.toList)) := Lib.hid (by unfold stepL; rw [hgo]; rfl)
        clear hgo
        gi_wp2_with fail
        refine ⟨trivial, ?_⟩
        refine (CallsIn.inRound l (callsIn_wide.2 (end_any w.heap.size (w.heap.size + 1 + 1) w.heap.size fs j w1 H1.out (fun w' h => HENV.out w' ((HSP.out.below.trans B1.out).trans h)) (by omega) (by omega)))).mono ?_
        rintro e w2 ⟨rfl, h2, hk2, hb2⟩
        gi_wp2_with fail
        refine ⟨trivial, ?_⟩
        refine (CallsIn.inRound l (callsIn_wide.2 (Tryz.Builder_WriteString_k w.heap.size (w.heap.size + 1 + 1) _ T w2 h2.bld (by rw [Lib.byteCells_length]; show 0 + T.size ≤ _; omega) h2.room))).mono ?_
        rintro e w3 ⟨rfl, hI3, hb3, hk3⟩
        rw [Bld.str_cells] at hI3
        have h3 := h2.write (.inr hI3) hb3 hk3
        have K3 := (K1.out.trans hk2).trans (KeepX.others hk3 hb3.size)
        have B3 := (B1.out.trans hb2).trans hb3
        gi_wp2_with fail
        exact ⟨keepX_from (by have := HSZ0.out; omega) K3, keepX_kpl K3 B3, HSP.out.next (HMAP.out _ (by rw [HST.out]; exact h3)) K3 B3, HNE.out⟩
      · have HST : Hid (stepL (fs, j) T.data.toList = (fs, j ++ T.data.toList)) := Lib.hid (by unfold stepL; rw [hgo]; rfl)
        clear hgo
        gi_wp2_with fail
        refine ⟨trivial, ?_⟩
        refine (CallsIn.inRound l (callsIn_wide.2 (Tryz.Builder_WriteString_k w.heap.size (w.heap.size + 1 + 1) _ T w1 H1.out.bld (by rw [Lib.byteCells_length]; omega) H1.out.room))).mono ?_
        rintro e w3 ⟨rfl, hI3, hb3, hk3⟩
        rw [Bld.str_cells] at hI3
        have h3 := H1.out.write (.inr hI3) hb3 hk3
        have K3 := K1.out.trans (KeepX.others hk3 hb3.size)
        have B3 := B1.out.trans hb3
        gi_wp2_with fail
        exact ⟨keepX_from (by have := HSZ0.out; omega) K3, keepX_kpl K3 B3, HSP.out.next (HMAP.out _ (by rw [HST.out]; exact h3)) K3 B3, HNE.out⟩
  case done =>
    rintro D ys W hD hys ⟨hsp1, hne⟩ hK
    have hcl := hsp1.clos.cell
    unfold endV at hcl
    have HSP := Lib.hid hsp1
    have hsm := st_small (ys := ys) (a0 := a0) (by rw [take_drop_size s a0 t0 hat hto]; omega) (by rw [hys]; exact List.prefix_refl _)
    have HEQ : Hid (splitL a0 t0 ((s.data.toList.take t0).drop a0) = (endL (stL ((ys).map txt)), t0)) := Lib.hid (by unfold splitL; rw [← hys, fields_all (fun x hx => by obtain ⟨y, hy, rfl⟩ := List.mem_map.1 hx; exact hne y hy), txt_dec])
    obtain ⟨sm1, sm2⟩ := hsm
    clear hsp hsp1
    gi_wp2_with fail
    refine ⟨trivial, ?_⟩
    refine (callsIn_wide.2 (end_any w.heap.size (w.heap.size + 1 + 1) w.heap.size _ _ W HSP.out.held (fun w' h => HENV.out w' (HSP.out.below.trans h)) (by omega) (by omega))).mono ?_
    rintro e w2 ⟨rfl, h2, hk2, hb2⟩
    obtain ⟨FS, hFS⟩ : ∃ FS, (stL ((ys).map txt)).1 ++ oneL (stL ((ys).map txt)).2 = FS := ⟨_, rfl⟩
    rw [hFS] at h2
    have HFS := Lib.hid hFS
    clear hFS sm1 sm2
    obtain ⟨v, hv, hrow⟩ := h2.box
    obtain ⟨va, vc, rfl⟩ := hrow.form
    have hbd := hk2.box HSP.out.body (by omega) (by omega) (by decide) (by decide)
    have cv := hv.cell
    have fv := hv.frozen
    have cb := hbd.cell
    have fb := hbd.frozen
    have hK2 : w2.heap[D]? = some (.deferred (some [])) := hk2.same D _ hK (by omega) (by omega) (fun c fz e => by cases e) (fun c fz e => by cases e)
    have HFIN := Lib.hid (fin_world hv hbd hrow hK2 (by omega) (HSP.out.below.trans hb2))
    clear hv hbd hrow hK2 hK
    gi_wp2_with fail
    gi_region
    all_goals gi_wp2
    refine ⟨by simp, .inl ⟨_, _, rfl, run_takeDeferred HFIN.out.1, ?_⟩⟩
    have d1 := HFIN.out.2.1.cell
    have d2 := HFIN.out.2.2.1.cell
    refine ⟨.tuple #[.slice va FS.length vc, .int .i64 (t0 : Int)], ?_, .slice va FS.length vc, ?_, ?_, HFIN.out.2.2.2.2⟩
    · simp [results, Tryz.f37, go_sem, d1, d2]
    · rw [HEQ.out]
    · rw [HEQ.out]
      show RowF _ _ (endL _) _
      unfold endL
      rw [HFS.out]
      exact HFIN.out.2.2.2.1
  case stop =>
    rintro D c pre W hD hpx ⟨rfl, pre', x, rfl, hx0, hne, hsp1⟩ hK
    have hcl := hsp1.clos.cell
    unfold endV at hcl
    have HSP := Lib.hid hsp1
    have hsm := st_small (ys := pre') (a0 := a0) (by rw [take_drop_size s a0 t0 hat hto]; omega) (by rw [List.map_append] at hpx; exact (List.prefix_append _ _).trans hpx)
    have HEQ : Hid (splitL a0 t0 ((s.data.toList.take t0).drop a0) = (endL (stL ((pre').map txt)), x.1.2)) := Lib.hid (by 
      obtain ⟨r, hr⟩ := hpx
      unfold splitL
      rw [← hr, List.map_append, List.map_singleton, List.append_assoc, show dec x = ([], x.1.2) from Prod.ext hx0 rfl, List.singleton_append, fields_stop (fun x hx => by obtain ⟨y, hy, rfl⟩ := List.mem_map.1 hx; exact hne y hy), txt_dec])
    obtain ⟨sm1, sm2⟩ := hsm
    clear hsp hsp1
    gi_wp2_with fail
    refine ⟨trivial, ?_⟩
    refine (callsIn_wide.2 (end_any w.heap.size (w.heap.size + 1 + 1) w.heap.size _ _ W HSP.out.held (fun w' h => HENV.out w' (HSP.out.below.trans h)) (by omega) (by omega))).mono ?_
    rintro e w2 ⟨rfl, h2, hk2, hb2⟩
    obtain ⟨FS, hFS⟩ : ∃ FS, (stL ((pre').map txt)).1 ++ oneL (stL ((pre').map txt)).2 = FS := ⟨_, rfl⟩
    rw [hFS] at h2
    have HFS := Lib.hid hFS
    clear hFS sm1 sm2
    obtain ⟨v, hv, hrow⟩ := h2.box
    obtain ⟨va, vc, rfl⟩ := hrow.form
    have hbd := hk2.box HSP.out.body (by omega) (by omega) (by decide) (by decide)
    have cv := hv.cell
    have fv := hv.frozen
    have cb := hbd.cell
    have fb := hbd.frozen
    have hK2 : w2.heap[D]? = some (.deferred (some [])) := hk2.same D _ hK (by omega) (by omega) (fun c fz e => by cases e) (fun c fz e => by cases e)
    have HFIN := Lib.hid (fin_world hv hbd hrow hK2 (by omega) (HSP.out.below.trans hb2))
    clear hv hbd hrow hK2 hK
    gi_wp2_with fail
    gi_region
    all_goals gi_wp2
    refine ⟨by simp, .inl ⟨_, _, rfl, run_takeDeferred HFIN.out.1, ?_⟩⟩
    have d1 := HFIN.out.2.1.cell
    have d2 := HFIN.out.2.2.1.cell
    refine ⟨.tuple #[.slice va FS.length vc, .int .i64 (x.1.2 : Int)], ?_, .slice va FS.length vc, ?_, ?_, HFIN.out.2.2.2.2⟩
    · simp [results, Tryz.f37, go_sem, d1, d2]
    · rw [HEQ.out]
    · rw [HEQ.out]
      show RowF _ _ (endL _) _
      unfold endL
      rw [HFS.out]
      exact HFIN.out.2.2.2.1
end Go.Proofs.YtnnbbjdidbggmaaGreatDoor.F0
