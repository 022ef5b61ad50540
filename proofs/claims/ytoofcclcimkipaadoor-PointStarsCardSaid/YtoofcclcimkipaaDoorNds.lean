/-
  A value of a struct Node as it is read, wherever it lies: an argument, opened; what a reader has left. No law and no function of the project in this text. Conditions: none but that it reads as data.
-/
import Derived.Test.YtoofcclcimkipaaDoorJ7Mem
import Derived.OpenShut
import Derived.Deep.Slices
import Derived.Deep.Strs
namespace Go.Proofs.YtoofcclcimkipaaDoor.Nds
open Go Go.RowKit Go.WideShapes Go.ChangeShapes Kit J7

/-- n elements of a slice, one cell each. -/
def RowIn (w : World) (n : Nat) (v : Value) (cs : List Value) : Prop := ∃ a cap, v = .slice a n cap ∧ ∀ j (h : j < cs.length), ∃ g o, a = some ⟨g, o, none⟩ ∧ w.cell? ⟨g, o + j, none⟩ = some cs[j]
/-- A value of a struct Node, what it reads as. -/
inductive NodeIn (w : World) : J → Value → Prop where
  | mk (k n : Int) (t : ByteArray) (keys : List ByteArray) (kids : List J) (kv : Value) (a : Option Addr) (cap : Nat) (C : Nat → Nat → Value)
      (hk : RowIn w keys.length kv (J7.strs keys))
      (hc : ∀ i, i < kids.length → ∃ g o, a = some ⟨g, o, none⟩ ∧ ∀ m, m < 5 → w.cell? ⟨g, o + (5 * i + m), none⟩ = some (C i m))
      (hv : ∀ i (h : i < kids.length), NodeIn w kids[i] (.agg #[C i 0, C i 1, C i 2, C i 3, C i 4])) :
      NodeIn w (.mk k n t keys kids) (.agg #[.int .i64 k, .int .i64 n, .string t, kv, .slice a kids.length cap])
theorem addr_plain {w : World} {a : Addr} {v : Value} (h : w.cell? (a.add 0) = some v) : a = ⟨a.block, a.off, none⟩ := by
  obtain ⟨b, off, spot⟩ := a
  have hs : spot = none := by simpa [Addr.add] using World.cell?_spot h
  rw [hs]
theorem cell_plain {w : World} {a : Addr} {i : Nat} {v : Value} (ha : a = ⟨a.block, a.off, none⟩) (h : w.cell? (a.add i) = some v) : w.cell? ⟨a.block, a.off + i, none⟩ = some v := by
  rw [ha] at h
  rw [← Go.WideShapes.add_plain]
  exact h
section
variable {H : Type} {enc : TypeId × Value → H} {W : World}
theorem keys_open {fuel : Nat} {cs : List Value} {x : DataW H × List MemPlace} (h : DataW.trod enc Tryd.prog W 0 (fun _ => true) true fuel 22 cs = some x) : ∃ (keys : List ByteArray) (kv : Value), cs = [kv] ∧ RowIn W keys.length kv (J7.strs keys) ∧ ∀ k ∈ keys, k.size ≤ maxLen := by
  rcases Go.Deep.open_strs Tryd.underlying22 Tryd.underlying9 (by kernel_rfl) h with ⟨rfl, _⟩ | ⟨a, len, cap, m, S, rfl, _, hl, _, hm, _, hx⟩
  · exact ⟨[], _, rfl, ⟨none, 0, rfl, fun j hj => absurd hj (Nat.not_lt_zero j)⟩, fun _ h => absurd h List.not_mem_nil⟩
  · simp only [if_true] at hm
    refine ⟨(List.range len).map S, _, rfl, ⟨some a, cap, by rw [List.length_map, List.length_range], fun j hj => ?_⟩, fun k hk => ?_⟩
    · unfold J7.strs at hj ⊢
      rw [List.length_map, List.length_map, List.length_range] at hj
      have h1 := addr_plain (hx 0 (by omega)).1
      have h2 := cell_plain h1 (hx j (by omega)).1
      refine ⟨a.block, a.off, congrArg some h1, ?_⟩
      rw [h2, List.getElem_map, List.getElem_map, List.getElem_range]
    · obtain ⟨i, hi, rfl⟩ := List.mem_map.1 hk
      have := List.mem_range.1 hi
      exact (hx i (by omega)).2
set_option maxRecDepth 100000 in
theorem node_open : ∀ (fuel : Nat) (cs : List Value) (x : DataW H × List MemPlace), DataW.trod enc Tryd.prog W 0 (fun _ => true) true fuel 25 cs = some x →
    ∃ (j : J) (c0 c1 c2 c3 c4 : Value), cs = [c0, c1, c2, c3, c4] ∧ NodeIn W j (.agg #[c0, c1, c2, c3, c4]) := by
  intro fuel
  induction fuel using Nat.strongRecOn with
  | _ fuel ih =>
    intro cs x h
    have hn5 : Tryd.prog.cellsOf 25 = 5 := by kernel_rfl
    have hi1 : Tryd.prog.cellsOf 3 = 1 := by kernel_rfl
    have hs1 : Tryd.prog.cellsOf 9 = 1 := by kernel_rfl
    have hk1 : Tryd.prog.cellsOf 22 = 1 := by kernel_rfl
    have hv1 : Tryd.prog.cellsOf 23 = 1 := by kernel_rfl
    obtain ⟨xs, n, rfl, rfl, hlen, hxs, hf⟩ := DataW.trod_struct Tryd.underlying25 h
    rw [hn5] at hlen
    obtain ⟨c0, c1, c2, c3, c4, rfl⟩ : ∃ c0 c1 c2 c3 c4, cs = [c0, c1, c2, c3, c4] := by
      match cs, hlen with
      | [c0, c1, c2, c3, c4], _ => exact ⟨c0, c1, c2, c3, c4, rfl⟩
    have hxl : xs.length = 5 := hxs
    have at_i : ∀ i, i < 5 → ∃ y, xs[i]? = some y := fun i hi => ⟨xs[i]'(by omega), List.getElem?_eq_getElem (by omega)⟩
    obtain ⟨y0, e0⟩ := at_i 0 (by omega)
    obtain ⟨y1, e1⟩ := at_i 1 (by omega)
    obtain ⟨y2, e2⟩ := at_i 2 (by omega)
    obtain ⟨y3, e3⟩ := at_i 3 (by omega)
    obtain ⟨y4, e4⟩ := at_i 4 (by omega)
    have f0 : DataW.trod enc Tryd.prog W 0 (fun _ => true) true n 3 [c0] = some y0 := by
      have g := (hf 0 _ rfl).trans e0
      change DataW.trod enc Tryd.prog W 0 (fun _ => true) true n 3 (([c0, c1, c2, c3, c4].drop 0).take (Tryd.prog.cellsOf 3)) = some y0 at g
      rw [hi1] at g
      exact g
    have f1 : DataW.trod enc Tryd.prog W 0 (fun _ => true) true n 3 [c1] = some y1 := by
      have g := (hf 1 _ rfl).trans e1
      change DataW.trod enc Tryd.prog W 0 (fun _ => true) true n 3 (([c0, c1, c2, c3, c4].drop 1).take (Tryd.prog.cellsOf 3)) = some y1 at g
      rw [hi1] at g
      exact g
    have f2 : DataW.trod enc Tryd.prog W 0 (fun _ => true) true n 9 [c2] = some y2 := by
      have g := (hf 2 _ rfl).trans e2
      change DataW.trod enc Tryd.prog W 0 (fun _ => true) true n 9 (([c0, c1, c2, c3, c4].drop 2).take (Tryd.prog.cellsOf 9)) = some y2 at g
      rw [hs1] at g
      exact g
    have f3 : DataW.trod enc Tryd.prog W 0 (fun _ => true) true n 22 [c3] = some y3 := by
      have g := (hf 3 _ rfl).trans e3
      change DataW.trod enc Tryd.prog W 0 (fun _ => true) true n 22 (([c0, c1, c2, c3, c4].drop 3).take (Tryd.prog.cellsOf 22)) = some y3 at g
      rw [hk1] at g
      exact g
    have f4 : DataW.trod enc Tryd.prog W 0 (fun _ => true) true n 23 [c4] = some y4 := by
      have g := (hf 4 _ rfl).trans e4
      change DataW.trod enc Tryd.prog W 0 (fun _ => true) true n 23 (([c0, c1, c2, c3, c4].drop 4).take (Tryd.prog.cellsOf 23)) = some y4 at g
      rw [hv1] at g
      exact g
    obtain ⟨k, q0, _, _⟩ := DataW.trod_int Tryd.underlying3 f0
    obtain ⟨m, q1, _, _⟩ := DataW.trod_int Tryd.underlying3 f1
    obtain ⟨t, q2, _, _⟩ := DataW.trod_string Tryd.underlying9 f2
    obtain ⟨keys, kv, q3, hkeys, _⟩ := keys_open f3
    have r0 : c0 = .int .i64 k := by simpa using q0
    have r1 : c1 = .int .i64 m := by simpa using q1
    have r2 : c2 = .string t := by simpa using q2
    have r3 : c3 = kv := by simpa using q3
    subst r0 r1 r2 r3
    rcases DataW.trod_slice Tryd.underlying23 f4 with ⟨q4, _⟩ | ⟨a, len, cap, elems, rest, n', hn', q4, _, _, hlc, _, hel, hall, _, _⟩
    · have r4 : c4 = .slice none 0 0 := by simpa using q4
      subst r4
      exact ⟨.mk k m t keys [], _, _, _, _, _, rfl, NodeIn.mk k m t keys [] _ none 0 (fun _ _ => .slice none 0 0) hkeys (fun i hi => absurd hi (Nat.not_lt_zero i)) (fun i hi => absurd hi (Nat.not_lt_zero i))⟩
    · have r4 : c4 = .slice (some a) len cap := by simpa using q4
      subst r4
      have first : 0 < len → a = ⟨a.block, a.off, none⟩ := fun h0 => by
        have hb := hall 0 h0
        rw [hn5, List.getElem?_eq_getElem (by rw [hel]; exact h0)] at hb
        obtain ⟨cs', g1, g2⟩ := Option.bind_eq_some_iff.1 hb
        obtain ⟨_, g4, g3⟩ := World.cells?_some g1
        obtain ⟨u, hu⟩ : ∃ u, cs'[0]? = some u := ⟨cs'[0]'(by omega), List.getElem?_eq_getElem (by omega)⟩
        have := (g3 0 (by omega)).trans hu
        rw [Go.Deep.add_add] at this
        exact addr_plain this
      have each : ∀ i, i < len → ∃ p : J × (Nat → Value), a = ⟨a.block, a.off, none⟩ ∧ (∀ z, z < 5 → W.cell? ⟨a.block, a.off + (5 * i + z), none⟩ = some (p.2 z)) ∧ NodeIn W p.1 (.agg #[p.2 0, p.2 1, p.2 2, p.2 3, p.2 4]) := fun i hi => by
        have hb := hall i hi
        rw [hn5, List.getElem?_eq_getElem (by rw [hel]; exact hi)] at hb
        obtain ⟨cs', g1, g2⟩ := Option.bind_eq_some_iff.1 hb
        obtain ⟨j, d0, d1, d2, d3, d4, rfl, hj⟩ := ih n' (by omega) cs' _ g2
        obtain ⟨_, _, g3⟩ := World.cells?_some g1
        have ha := first (by omega)
        have cell : ∀ z v, z < 5 → ([d0, d1, d2, d3, d4] : List Value)[z]? = some v → W.cell? ⟨a.block, a.off + (5 * i + z), none⟩ = some v := fun z v hz hv => by
          have := (g3 z hz).trans hv
          rw [Go.Deep.add_add] at this
          rw [Nat.mul_comm 5 i]
          exact cell_plain ha this
        refine ⟨(j, fun z => ([d0, d1, d2, d3, d4] : List Value).getD z (.slice none 0 0)), ha, fun z hz => ?_, hj⟩
        match z, hz with
        | 0, _ => exact cell 0 d0 (by omega) rfl
        | 1, _ => exact cell 1 d1 (by omega) rfl
        | 2, _ => exact cell 2 d2 (by omega) rfl
        | 3, _ => exact cell 3 d3 (by omega) rfl
        | 4, _ => exact cell 4 d4 (by omega) rfl
      have : Inhabited (J × (Nat → Value)) := ⟨(leafJ 0, fun _ => .slice none 0 0)⟩
      obtain ⟨f, hf'⟩ := Go.Deep.choose_lt each
      have hlk : ((List.range len).map fun i => (f i).1).length = len := by rw [List.length_map, List.length_range]
      have hnode := NodeIn.mk (w := W) k m t keys ((List.range len).map fun i => (f i).1) c3 (some a) cap (fun i z => (f i).2 z) hkeys (fun i hi => by
        rw [hlk] at hi
        exact ⟨a.block, a.off, congrArg some (hf' i hi).1, (hf' i hi).2.1⟩) (fun i hi => by
        rw [List.getElem_map, List.getElem_range]
        rw [hlk] at hi
        exact (hf' i hi).2.2)
      rw [hlk] at hnode
      exact ⟨_, _, _, _, _, _, rfl, hnode⟩
theorem opens {v : Value} {d : DataW H} {p : List MemPlace} (h : DataW.Trod enc Tryd.prog W 0 (fun _ => true) true 25 v d p) : ∃ (j : J) (c0 c1 c2 c3 c4 : Value), v.cells.toList = [c0, c1, c2, c3, c4] ∧ NodeIn W j (.agg #[c0, c1, c2, c3, c4]) := by
  obtain ⟨fuel, hf⟩ := h
  exact node_open fuel _ _ hf
end
end Go.Proofs.YtoofcclcimkipaaDoor.Nds
