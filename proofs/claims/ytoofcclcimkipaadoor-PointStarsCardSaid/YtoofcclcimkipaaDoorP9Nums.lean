/-
  Rows of numbers that grow by one in a region that draws its order; a text of five bytes. Conditions: at most 65536 elements.
-/
import Derived.Test.YtoofcclcimkipaaDoorP9Vals
import Derived.Test.YtoofcclcimkipaaDoorU8Kit
namespace Go.Proofs.YtoofcclcimkipaaDoor.J9
open Go Go.RowKit Go.Joins Kit J7 Nds J8

theorem KidsR.new (B : Nat) (w : World) : KidsR B (.slice none 0 0) [] w := ⟨[], ⟨rfl, Or.inl ⟨rfl, rfl⟩⟩, kids_nil⟩
theorem KidsR.lt {B : Nat} {v : Value} {kids : List J} {w : World} (h : KidsR B v kids w) {g : Nat} (hg : v.ownBlock = some g) : B ≤ g ∧ g < w.heap.size := by
  obtain ⟨cs, h1, _⟩ := h
  exact h1.lt g hg
/-- append of a value, as a step of a region that draws. -/
theorem KidsR.step {ops : Array Oper} {o : Oper} {a : Act} {K : Act → World → Prop} {Q : Exit → Act → World → Prop} {E : Prop} (hgd : o.guard = none) (sl x : Operand)
    (ho : o.op = .call { callee := .builtin .append, args := #[sl, x], argTypes := #[23, 23] })
    (B : Nat) (w : World) (v : Value) (kids : List J) (hK : KidsR B v kids w) (j : J) (c0 c1 c2 c3 c4 : Value) (S : Nat) (hn : NodeAt (fun g => S ≤ g) w j (.agg #[c0, c1, c2, c3, c4])) (hB : B ≤ S) (hv : ∀ g, v.ownBlock = some g → g < S)
    (b cap : Nat) (fr : Nat × Nat) (hblk : w.heap[b]? = some (.cells #[c0, c1, c2, c3, c4] 25 fr)) (hs : a.eval sl = v) (hx : a.eval x = .slice (some ⟨b, 0, none⟩) 1 cap) (hlen : kids.length ≤ 65536) (hsz : B ≤ w.heap.size)
    (h : ∀ g c w', KidsR B (.slice (some ⟨g, 0, none⟩) (kids.length + 1) c) (kids ++ [j]) w' → w.grownBy w' v.ownBlock → (v.ownBlock = some g ∨ g = w.heap.size) → K (a.put o.dst (.slice (some ⟨g, 0, none⟩) (kids.length + 1) c)) w') :
    if Region.wanted o (yielded ops a.tmps) = true then Oper.wp Tryd.prog o a w K Q else E := by
  obtain ⟨i0, hi, hz0, hz1, hz2⟩ := info_parts info8N
  obtain ⟨cs, hown, hkids⟩ := hK
  refine step_append_lies w hgd sl x 23 ho B 25 i0 _ 5 80 Tryd.underlying23 hi hz0 hz1 hz2 rfl (by decide) v kids.length cs hs hown ⟨b, 0, none⟩ 1 cap [c0, c1, c2, c3, c4] hx rfl ?_ (node_one hn) (by decide) ?_ ?_ hsz w.heap.size rfl ?_
  · intro k u hk
    exact World.news_of_block hblk k u hk
  · unfold maxLen; omega
  · omega
  · intro g c w' ho' hg hat _
    refine h g c w' ⟨cs ++ [c0, c1, c2, c3, c4], ?_, kids_snoc ?_ ?_⟩ hg hat
    · rw [List.length_append]; exact ho'
    · refine hn.keep (fun k hk hl => ?_)
      have hk' : S ≤ k := hk
      have q1 : (Value.slice (some ⟨g, 0, none⟩) (kids.length + 1) c).ownBlock ≠ some k := by
        intro e
        have hgk : g = k := by simpa [Value.ownBlock] using e
        subst hgk
        rcases hat with hat | hat
        · have := hv g hat
          omega
        · omega
      have q2 : some k ≠ v.ownBlock := by
        intro e
        have := hv k e.symm
        omega
      exact ⟨⟨Nat.le_trans hB hk, q1⟩, hg.block k hl q2⟩
    · refine hkids.keep (fun k hk hl => ?_)
      obtain ⟨k1, k2⟩ := hk
      have q1 : (Value.slice (some ⟨g, 0, none⟩) (kids.length + 1) c).ownBlock ≠ some k := by
        intro e
        have hgk : g = k := by simpa [Value.ownBlock] using e
        subst hgk
        rcases hat with hat | hat
        · exact k2 hat
        · omega
      exact ⟨⟨k1, q1⟩, hg.block k hl (fun e => k2 e.symm)⟩
/-- A row, read. -/
theorem KidsR.read {B : Nat} {v : Value} {kids : List J} {w : World} (h : KidsR B v kids w) : ∃ cs, CellsAt (fun _ => True) w kids.length v cs ∧ KidsAt (fun _ => True) w kids cs := by
  obtain ⟨cs, h1, h2⟩ := h
  exact ⟨cs, cells_own h1 (fun _ _ => trivial), h2.keep (kept_mono (fun _ _ => trivial))⟩
/-- An array of a row. -/
theorem KidsR.arr {B : Nat} {v : Value} {kids : List J} {w : World} (h : KidsR B v kids w) : NodeAt (fun _ => True) w (arrK kids) (.agg #[.int .i64 6, .int .i64 0, .string ⟨#[]⟩, .slice none 0 0, v]) := by
  obtain ⟨cs, h1, h2⟩ := KidsR.read h
  exact node_made cells_none h1 h2
/-- Numbers from 0 on. -/
def numsJ (k : Nat) : List J := (List.range k).map (fun (i : Nat) => numJ (i : Int))
theorem nums_len (k : Nat) : (numsJ k).length = k := by unfold numsJ; rw [List.length_map, List.length_range]
theorem nums_next (k : Nat) : numsJ (k + 1) = numsJ k ++ [numJ (k : Int)] := by
  unfold numsJ
  rw [List.range_succ, List.map_append]
  rfl
theorem nums_mem {k : Nat} {P : J → Prop} (h : ∀ i : Nat, i < k → P (numJ (i : Int))) : ∀ x ∈ numsJ k, P x := fun x hx => by
  unfold numsJ at hx
  obtain ⟨i, hi, rfl⟩ := List.mem_map.1 hx
  exact h i (List.mem_range.1 hi)
theorem nums_get {k i : Nat} (h : i < k) : (numsJ k)[i]'(by rw [nums_len]; exact h) = numJ (i : Int) := by
  unfold numsJ
  rw [List.getElem_map, List.getElem_range]
theorem num_new (S : Nat) (w : World) (v : Int) : NodeAt (fun g => S ≤ g) w (numJ v) (.agg #[.int .i64 4, .int .i64 v, .string ⟨#[]⟩, .slice none 0 0, .slice none 0 0]) := node_plain _ w 4 v ⟨#[]⟩
theorem cnts_nums : ∀ k, cnts (numsJ k) = k
  | 0 => rfl
  | k + 1 => by
    rw [nums_next, cnts_append, cnts_nums k, cnts, cnts]
    unfold numJ
    simp only [cnt, cnts]
end Go.Proofs.YtoofcclcimkipaaDoor.J9
