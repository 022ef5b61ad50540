/-
  The statements' own example over package json is awake. Conditions: none.
-/
import Derived.Test.YtpnffmimpkimeaaJ7Parse
import Derived.Test.YtpnffmimpkimeaaL3Num
import Derived.Lib.SlBytesConst
namespace Go.Proofs.Ytpnffmimpkimeaa.J7
open Go Go.RowKit Go.Joins Kit

/-- The kids of a value, cell by cell. -/
theorem kid_cells {P : Nat → Prop} {w : World} {j : J} {c0 c1 c2 c3 c4 : Value} (h : NodeAt P w j (.agg #[c0, c1, c2, c3, c4])) (hk : j.kids ≠ []) :
    ∃ g o cap, c4 = .slice (some ⟨g, o, none⟩) j.kids.length cap ∧ ∀ (i : Nat) (hi : i < j.kids.length), ∃ d0 d1 d2 d3 d4, w.cell? ⟨g, o + 5 * i, none⟩ = some d0 ∧ w.cell? ⟨g, o + (5 * i + 1), none⟩ = some d1 ∧ w.cell? ⟨g, o + (5 * i + 2), none⟩ = some d2 ∧ w.cell? ⟨g, o + (5 * i + 3), none⟩ = some d3 ∧ w.cell? ⟨g, o + (5 * i + 4), none⟩ = some d4 ∧ NodeAt P w j.kids[i] (.agg #[d0, d1, d2, d3, d4]) := by
  obtain ⟨k, n, t, keys, kids⟩ := j
  rw [NodeAt] at h
  obtain ⟨kv, vv, e, _, cs, h3, h4⟩ := h
  have e4 : c4 = vv := by
    injection e with e; injection e with e; injection e with _ e; injection e with _ e; injection e with _ e; injection e with _ e; injection e
  subst e4
  have hlen := kids_length h4
  rcases h3 with ⟨_, h3, _⟩ | ⟨g, o, cap, hv, hc⟩
  · exact absurd (List.length_eq_zero_iff.1 h3) hk
  · refine ⟨g, o, cap, hv, fun i hi => ?_⟩
    obtain ⟨d0, d1, d2, d3, d4, e0, e1, e2, e3, e4, hn⟩ := kids_at h4 i hi
    have get : ∀ (q : Nat) (d : Value), cs[q]? = some d → w.cell? ⟨g, o + q, none⟩ = some d := fun q d hq => by
      obtain ⟨hl, hd⟩ := List.getElem?_eq_some_iff.1 hq
      rw [(hc q hl).2, hd]
    exact ⟨d0, d1, d2, d3, d4, get _ _ e0, get _ _ e1, get _ _ e2, get _ _ e3, get _ _ e4, hn⟩
/-- A value's own cells. -/
theorem node_cells {P : Nat → Prop} {w : World} {j : J} {c0 c1 c2 c3 c4 : Value} (h : NodeAt P w j (.agg #[c0, c1, c2, c3, c4])) :
    c0 = .int .i64 j.kind ∧ c1 = .int .i64 j.num ∧ c2 = .string j.text ∧ (∃ a m, c3 = .slice a j.keys.length m) ∧ (∃ a m, c4 = .slice a j.kids.length m) := by
  obtain ⟨k, n, t, keys, kids⟩ := j
  rw [NodeAt] at h
  obtain ⟨kv, vv, e, h2, cs, h3, h4⟩ := h
  injection e with e; injection e with e; injection e with e0 e; injection e with e1 e; injection e with e2 e; injection e with e3 e; injection e with e4
  refine ⟨e0, e1, e2, ?_, ?_⟩
  · rw [e3]
    rcases h2 with ⟨rfl, h2, _⟩ | ⟨g, o, cap, rfl, _⟩
    · exact ⟨none, 0, by show _ = Value.slice none keys.length 0; rw [h2]⟩
    · exact ⟨_, _, rfl⟩
  · rw [e4]
    rcases h3 with ⟨rfl, h3, _⟩ | ⟨g, o, cap, rfl, _⟩
    · exact ⟨none, 0, by show _ = Value.slice none kids.length 0; rw [h3]⟩
    · exact ⟨_, _, rfl⟩
def exL : List UInt8 := [91, 49, 44, 32, 34, 97, 34, 93]
theorem exL_parse : parseG numC exL = .ok (.mk 6 0 ⟨#[]⟩ [] [numJ 1, strJ [97]]) := by kernel_rfl
theorem marked_block (w : World) (cs : Array Value) (T : TypeId) (fr : Nat × Nat) : (w.alloc (.cells cs T fr)).heap[w.heap.size]? = some (.cells cs T fr) := by
  show (w.heap.push _)[w.heap.size]? = _
  simp
/-- A literal of bytes in a block of its own. -/
theorem bytes_lit (l : List UInt8) (cs : Array Value) (W : World) (n cap : Nat) (fr : Nat × Nat) (hn : l.length = n) (h : cs.toList = Lib.byteCells l) : BytesAt (W.alloc (.cells cs 5 fr)) (.slice (some ⟨W.heap.size, 0, none⟩) n cap) l := by
  subst hn
  refine Or.inr ⟨_, cap, rfl, fun j hj => ?_⟩
  rw [show (⟨W.heap.size, 0, none⟩ : Addr).add j = ⟨W.heap.size, j, none⟩ by simp [Addr.add]; omega, Lib.cell_of_heap (marked_block W _ _ _), ← Array.getElem?_toList, h]
  simp [Lib.byteCells, hj]
theorem convert_lit (w : World) (C : Array Value) (n c : Nat) : (convert 22 22 (.slice (some ⟨w.heap.size, 0, none⟩) n c)).run Try.prog (w.alloc (.cells C 5)) = .ok (.slice (some ⟨w.heap.size, 0, none⟩) n c) (w.alloc (.cells C 5 (C.size, C.size + 1))) :=
  Lib.run_convert_bytes_const (P := Try.prog) w 22 5 C n c Try.underlying22 Try.underlying5
theorem kept_below {P : Nat → Prop} {w w' : World} (h : Below w.heap.size w w') : Kept P P w w' := fun g hg hl => ⟨hg, h.block g hl⟩

set_option maxHeartbeats 2000000 in
set_option maxRecDepth 100000 in
theorem awake_any (w : World) :
    Calls Try.prog 12 #[] w fun e w' => e = .returned (.bool true) ∧ Below w.heap.size w w' := by
  have hb := bytes_lit exL #[.int .u8 91, .int .u8 49, .int .u8 44, .int .u8 32, .int .u8 34, .int .u8 97, .int .u8 34, .int .u8 93] w 8 8 (8, 9) rfl rfl
  have hp := parse_any exL _ _ hb
  rw [exL_parse] at hp
  have hcv := convert_lit
  go_enter Try.func12, Try.ntmps12
  go_wp2_with fail
  refine hp.mono ?_
  rintro e' w1 ⟨hb1, c0, c1, c2, c3, c4, c, rfl, rfl, hn⟩
  have hbel : Below w.heap.size w w1 := ((Below.refl _ w).alloc (Nat.le_refl _) _).trans (hb1.mono (by simp))
  obtain ⟨t0, t1, t2, ⟨a3, m3, t3⟩, -⟩ := node_cells hn
  obtain ⟨g, o, cap, t4, hk⟩ := kid_cells hn (by intro e; cases e)
  obtain rfl : c0 = .int .i64 6 := t0
  obtain rfl : c1 = .int .i64 0 := t1
  obtain rfl : c2 = .string ⟨#[]⟩ := t2
  obtain rfl : c3 = .slice a3 0 m3 := t3
  obtain rfl : c4 = .slice (some ⟨g, o, none⟩) 2 cap := t4
  obtain ⟨d0, d1, d2, d3, d4, e0, e1, e2, e3, e4, hn0⟩ := hk 0 (by decide)
  obtain ⟨d5, d6, d7, d8, d9, e5, e6, e7, e8, e9, hn1⟩ := hk 1 (by decide)
  obtain ⟨-, t1, -, -, -⟩ := node_cells hn0
  obtain ⟨-, -, t2, -, -⟩ := node_cells hn1
  obtain rfl : d1 = .int .i64 1 := t1
  obtain rfl : d7 = .string ⟨#[97]⟩ := t2
  have hg : g < w1.heap.size := cell_lt e1
  have u1 : (w1.alloc (Obj.cells #[.int .i64 6, .int .i64 0, .string ⟨#[]⟩, .slice a3 0 m3, .slice (some ⟨g, o, none⟩) 2 cap] 27)).cell? ⟨g, o + 1, none⟩ = some (.int .i64 1) := (World.cell?_of_block (w := w1) (Below.heap_alloc w1 _ g hg)).trans e1
  have u2 : (w1.alloc (Obj.cells #[.int .i64 6, .int .i64 0, .string ⟨#[]⟩, .slice a3 0 m3, .slice (some ⟨g, o, none⟩) 2 cap] 27)).cell? ⟨g, o + 5 + 2, none⟩ = some (.string ⟨#[97]⟩) := (World.cell?_of_block (w := w1) (Below.heap_alloc w1 _ g hg)).trans e7
  clear e0 e1 e2 e3 e4 e5 e6 e7 e8 e9
  clear hp hb hn hk hn0 hn1
  go_wp2_with fail
  refine (L3.num_any 0 _).mono ?_
  rintro e' w2 ⟨rfl, rfl⟩
  go_wp2_with fail
  go_ret
  exact ⟨rfl, hbel.alloc hbel.size _⟩
end Go.Proofs.Ytpnffmimpkimeaa.J7
