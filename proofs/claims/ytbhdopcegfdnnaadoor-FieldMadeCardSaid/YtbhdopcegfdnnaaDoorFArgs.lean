/-
  Arguments that are slices: of fields, of texts, of bools, opened: what they hold, where it lies, its bounds. Condition: none but that they read as data.
-/
import Derived.Test.YtbhdopcegfdnnaaDoorF0Mem
import Derived.OpenShut
import Derived.Deep.Slices
import Derived.Deep.Strs
namespace Go.Proofs.YtbhdopcegfdnnaaDoor.F0
open Go Go.RowKit Go.WideShapes Go.ChangeShapes Kit

theorem addr_plain {w : World} {a : Addr} {v : Value} (h : w.cell? (a.add 0) = some v) : a = ⟨a.block, a.off, none⟩ := by
  obtain ⟨b, off, spot⟩ := a
  have hs : spot = none := by simpa [Addr.add] using World.cell?_spot h
  rw [hs]
theorem cell_plain {w : World} {a : Addr} {i : Nat} {v : Value} (ha : a = ⟨a.block, a.off, none⟩) (h : w.cell? (a.add i) = some v) : w.cell? ⟨a.block, a.off + i, none⟩ = some v := by
  rw [ha] at h
  rw [← Go.WideShapes.add_plain]
  exact h
/-- n cells behind a slice's value. -/
def ListAt (w : World) (A : Option Addr) (cs : List Value) : Prop := ∀ k (h : k < cs.length), ∃ g o, A = some ⟨g, o, none⟩ ∧ g < w.heap.size ∧ w.cell? ⟨g, o + k, none⟩ = some cs[k]
section
variable {H : Type} {enc : TypeId × Value → H} {W : World}
theorem strs_opens {A : Option Addr} {n c : Nat} {d : DataW H} {p : List MemPlace} (h : DataW.Trod enc Tryd.prog W 0 (fun _ => true) true 31 (.slice A n c) d p) :
    ∃ ss : List ByteArray, ss.length = n ∧ n ≤ 9223372036854775807 ∧ ListAt W A (ss.map .string) := by
  obtain ⟨fuel, hf⟩ := h
  rcases Go.Deep.open_strs Tryd.underlying31 Tryd.underlying9 (by kernel_rfl) hf with ⟨hcs, _⟩ | ⟨a, len, cap, m, S, hcs, _, hl, hmax, hm, _, hx⟩
  · simp [Value.cells] at hcs
    obtain ⟨rfl, rfl, rfl⟩ := hcs
    exact ⟨[], rfl, by omega, fun k hk => by simp at hk⟩
  · simp [Value.cells] at hcs
    obtain ⟨rfl, rfl, rfl⟩ := hcs
    simp only [if_true] at hm
    refine ⟨(List.range n).map S, by rw [List.length_map, List.length_range], by unfold maxLen at hmax; omega, fun k hk => ?_⟩
    rw [List.length_map, List.length_map, List.length_range] at hk
    have h1 := addr_plain (hx 0 (by omega)).1
    have h2 := cell_plain h1 (hx k (by omega)).1
    refine ⟨a.block, a.off, congrArg some h1, cell_lt h2, ?_⟩
    rw [h2, List.getElem_map, List.getElem_map, List.getElem_range]
theorem bools_opens {A : Option Addr} {n c : Nat} {d : DataW H} {p : List MemPlace} (h : DataW.Trod enc Tryd.prog W 0 (fun _ => true) true 32 (.slice A n c) d p) :
    ∃ bs : List Bool, bs.length = n ∧ n ≤ 9223372036854775807 ∧ ListAt W A (bs.map .bool) := by
  obtain ⟨fuel, hf⟩ := h
  have hb1 : Tryd.prog.cellsOf 4 = 1 := by kernel_rfl
  rcases DataW.trod_slice Tryd.underlying32 hf with ⟨hcs, _⟩ | ⟨a, len, cap, elems, rest, n', hn', hcs, _, _, hlc, hmax, hel, hall, _, _⟩
  · simp [Value.cells] at hcs
    obtain ⟨rfl, rfl, rfl⟩ := hcs
    exact ⟨[], rfl, by omega, fun k hk => by simp at hk⟩
  · simp [Value.cells] at hcs
    obtain ⟨rfl, rfl, rfl⟩ := hcs
    have each : ∀ i, i < n → ∃ b : Bool, W.cell? (a.add i) = some (.bool b) := fun i hi => by
      have hb := hall i hi
      rw [hb1, Nat.mul_one, List.getElem?_eq_getElem (by rw [hel]; exact hi)] at hb
      obtain ⟨cs', g1, g2⟩ := Option.bind_eq_some_iff.1 hb
      obtain ⟨b, rfl, _⟩ := DataW.trod_bool Tryd.underlying4 g2
      obtain ⟨_, _, g3⟩ := World.cells?_some g1
      have h0 := g3 0 (by omega)
      exact ⟨b, by simpa [Addr.add] using h0⟩
    obtain ⟨f, hf'⟩ := Go.Deep.choose_lt each
    refine ⟨(List.range n).map f, by rw [List.length_map, List.length_range], by unfold maxLen at hmax; omega, fun k hk => ?_⟩
    rw [List.length_map, List.length_map, List.length_range] at hk
    have h1 := addr_plain (hf' 0 (by omega))
    have h2 := cell_plain h1 (hf' k hk)
    refine ⟨a.block, a.off, congrArg some h1, cell_lt h2, ?_⟩
    rw [h2, List.getElem_map, List.getElem_map, List.getElem_range]
theorem field_open {fuel : Nat} {cs : List Value} {x : DataW H × List MemPlace} (h : DataW.trod enc Tryd.prog W 0 (fun _ => true) true fuel 35 cs = some x) : ∃ s t : ByteArray, cs = [.string s, .string t] ∧ x.1.weights Tryd.prog 35 = [s.size, t.size] := by
  have hn2 : Tryd.prog.cellsOf 35 = 2 := by kernel_rfl
  have hs1 : Tryd.prog.cellsOf 9 = 1 := by kernel_rfl
  obtain ⟨xs, n, rfl, rfl, hlen, hxs, hf⟩ := DataW.trod_struct Tryd.underlying35 h
  rw [hn2] at hlen
  obtain ⟨c0, c1, rfl⟩ : ∃ c0 c1, cs = [c0, c1] := by
    match cs, hlen with
    | [c0, c1], _ => exact ⟨c0, c1, rfl⟩
  have hxl : xs.length = 2 := hxs
  obtain ⟨y0, y1, rfl⟩ : ∃ y0 y1, xs = [y0, y1] := by
    match xs, hxl with
    | [y0, y1], _ => exact ⟨y0, y1, rfl⟩
  have f0 : DataW.trod enc Tryd.prog W 0 (fun _ => true) true n 9 [c0] = some y0 := by
    have g := hf 0 _ rfl
    change DataW.trod enc Tryd.prog W 0 (fun _ => true) true n 9 (([c0, c1].drop 0).take (Tryd.prog.cellsOf 9)) = some y0 at g
    rw [hs1] at g
    exact g
  have f1 : DataW.trod enc Tryd.prog W 0 (fun _ => true) true n 9 [c1] = some y1 := by
    have g := hf 1 _ rfl
    change DataW.trod enc Tryd.prog W 0 (fun _ => true) true n 9 (([c0, c1].drop 1).take (Tryd.prog.cellsOf 9)) = some y1 at g
    rw [hs1] at g
    exact g
  obtain ⟨s, q0, rfl, z0⟩ := DataW.trod_string Tryd.underlying9 f0
  obtain ⟨t, q1, rfl, z1⟩ := DataW.trod_string Tryd.underlying9 f1
  have r0 : c0 = .string s := by simpa using q0
  have r1 : c1 = .string t := by simpa using q1
  subst r0 r1
  refine ⟨s, t, rfl, ?_⟩
  simp [DataW.weights, DataW.weightsEach, Tryd.underlying35]
theorem weights_mem {e : TypeId} : ∀ (l : List (DataW H)) (x : DataW H) (_ : x ∈ l) (n : Nat) (_ : n ∈ x.weights Tryd.prog e), n ∈ DataW.weightsAll Tryd.prog e l
  | y :: r, x, h, n, hn => by
    rw [DataW.weightsAll]
    rcases List.mem_cons.1 h with rfl | h
    · exact List.mem_append.2 (Or.inl hn)
    · exact List.mem_append.2 (Or.inr (weights_mem r x h n hn))
theorem fields_opens {A : Option Addr} {n c : Nat} {d : DataW H} {p : List MemPlace} (h : DataW.Trod enc Tryd.prog W 0 (fun _ => true) true 23 (.slice A n c) d p) (hw : ∀ m ∈ d.weights Tryd.prog 23, m ≤ reachBytes) :
    ∃ fs : List Fl, fs.length = n ∧ n ≤ 140737488351232 ∧ FAt W (.slice A n c) fs ∧ ∀ f ∈ fs, f.1.length ≤ 140737488351232 ∧ f.2.length ≤ 140737488351232 := by
  obtain ⟨fuel, hf⟩ := h
  have hn2 : Tryd.prog.cellsOf 35 = 2 := by kernel_rfl
  have hby : Tryd.prog.bytesOf 35 = 32 := by kernel_rfl
  rcases DataW.trod_slice Tryd.underlying23 hf with ⟨hcs, _⟩ | ⟨a, len, cap, elems, rest, n', hn', hcs, hd, _, hlc, hmax, hel, hall, _, _⟩
  · simp [Value.cells] at hcs
    obtain ⟨rfl, rfl, rfl⟩ := hcs
    exact ⟨[], rfl, by omega, ⟨_, _, rfl, fun k hk => by simp at hk⟩, by simp⟩
  · simp [Value.cells] at hcs
    obtain ⟨rfl, rfl, rfl⟩ := hcs
    obtain rfl : d = .slice (elems.map (·.1)) (rest.map (·.1)) := (congrArg Prod.fst hd)
    have hws : (DataW.slice (elems.map (·.1)) (rest.map (·.1))).weights Tryd.prog 23 = ((elems.map (·.1)).length + (rest.map (·.1)).length) * Tryd.prog.bytesOf 35 :: (DataW.weightsAll Tryd.prog 35 (elems.map (·.1)) ++ DataW.weightsAll Tryd.prog 35 (rest.map (·.1))) := by
      rw [DataW.weights, Tryd.underlying23]
    rw [hws, hby] at hw
    have hnn := hw _ (List.mem_cons_self ..)
    rw [List.length_map, List.length_map] at hnn
    have hen : elems.length = n := hel
    unfold reachBytes at hnn hw
    have each : ∀ i, i < n → ∃ x : ByteArray × ByteArray, W.cell? (a.add (i * 2)) = some (.string x.1) ∧ W.cell? (a.add (i * 2 + 1)) = some (.string x.2) ∧ x.1.size ≤ 140737488351232 ∧ x.2.size ≤ 140737488351232 := fun i hi => by
      have hb := hall i hi
      rw [hn2, List.getElem?_eq_getElem (by rw [hel]; exact hi)] at hb
      obtain ⟨cs', g1, g2⟩ := Option.bind_eq_some_iff.1 hb
      obtain ⟨s, t, rfl, hwe⟩ := field_open g2
      obtain ⟨_, _, g3⟩ := World.cells?_some g1
      have h0 := g3 0 (by omega)
      have h1 := g3 1 (by omega)
      rw [Go.Deep.add_add] at h0 h1
      have hz : ∀ m, m ∈ [s.size, t.size] → m ≤ 140737488351232 := fun m hm => by
        rw [← hwe] at hm
        exact hw m (List.mem_cons_of_mem _ (List.mem_append_left _ (weights_mem _ _ (List.mem_map.2 ⟨_, List.getElem_mem _, rfl⟩) _ hm)))
      exact ⟨(s, t), by simpa using h0, by simpa using h1, hz _ (by simp), hz _ (by simp)⟩
    have : Inhabited (ByteArray × ByteArray) := ⟨(ByteArray.empty, ByteArray.empty)⟩
    obtain ⟨f, hf'⟩ := Go.Deep.choose_lt each
    have hlen : ((List.range n).map fun i => ((f i).1.data.toList, (f i).2.data.toList)).length = n := by rw [List.length_map, List.length_range]
    refine ⟨(List.range n).map fun i => ((f i).1.data.toList, (f i).2.data.toList), hlen, by omega, ⟨some a, c, by rw [hlen], fun k hk => ?_⟩, fun x hx => ?_⟩
    · rw [hlen] at hk
      have h1 : a = ⟨a.block, a.off, none⟩ := by
        have := (hf' 0 (by omega)).1
        rw [Nat.zero_mul] at this
        exact addr_plain this
      have h2 := cell_plain h1 (hf' k hk).1
      have h3 := cell_plain h1 (hf' k hk).2.1
      refine ⟨a.block, a.off, congrArg some h1, ?_, ?_⟩
      · rw [h2]; simp [sV]
      · rw [Nat.add_assoc, h3]; simp [sV]
    · obtain ⟨i, hi, rfl⟩ := List.mem_map.1 hx
      have := List.mem_range.1 hi
      obtain ⟨_, _, z0, z1⟩ := hf' i this
      simp only [← Lib.size_eq]
      exact ⟨z0, z1⟩
end
end Go.Proofs.YtbhdopcegfdnnaaDoor.F0
