/-
  slices.Sorted of slices.Values, and slices.Compact behind it: a new slice that holds the texts, rising, each once. Condition: they are at most 2^36.
-/
import Derived.Test.YtggnkpbadfabcaaFgSeq
import Derived.Lib.OwnBridge
import Derived.Deep.AppendLies
namespace Go.Proofs.Ytggnkpbadfabcaa.Fg
open Go Go.RowKit Go.Joins Go.Shelf Go.Sort Kit

/-- A row of texts of the call's own. -/
def RowT (B : Nat) (v : Value) (zs : List Tl) (w : World) : Prop := w.ownsRow B 9 1 v zs.length (zs.map encT)
theorem RowT.new (B : Nat) (w : World) : RowT B (.slice none 0 0) [] w := World.ownsRow_nil _ _ _ _
theorem RowT.keep {B : Nat} {v : Value} {zs : List Tl} {w w' : World} (h : RowT B v zs w) (hk : ∀ g, v.ownBlock = some g → g < w.heap.size → w'.heap[g]? = w.heap[g]?) : RowT B v zs w' := by
  obtain ⟨h1, h2⟩ := h
  refine ⟨h1, ?_⟩
  rcases h2 with h2 | ⟨g, cap, cur, hv, hg, hh, r⟩
  · exact Or.inl h2
  · exact Or.inr ⟨g, cap, cur, hv, hg, by rw [hk g (by rw [hv]; rfl) (Array.getElem?_eq_some_iff.1 hh).1]; exact hh, r⟩
theorem RowT.below {B : Nat} {v : Value} {zs : List Tl} {w w' : World} (h : RowT B v zs w) (hb : Below w.heap.size w w') : RowT B v zs w' := h.keep (fun g _ hl => hb.block g hl)
theorem RowT.form {B : Nat} {v : Value} {zs : List Tl} {w : World} (h : RowT B v zs w) : ∃ a cap, v = .slice a zs.length cap := by
  rcases h.2 with ⟨rfl, h0⟩ | ⟨g, cap, cur, rfl, _⟩
  · exact ⟨none, 0, by rw [h0]⟩
  · exact ⟨_, _, rfl⟩
theorem RowT.base {B C : Nat} {v : Value} {zs : List Tl} {w : World} (h : RowT B v zs w) (hC : C ≤ B) : RowT C v zs w :=
  ⟨h.1, h.2.imp id (fun ⟨g, cap, cur, a, b, c⟩ => ⟨g, cap, cur, a, Nat.le_trans hC b, c⟩)⟩
/-- What it holds is read. -/
theorem RowT.at {B : Nat} {a : Option Addr} {n cap : Nat} {zs : List Tl} {w : World} (h : RowT B (.slice a n cap) zs w) (j : Nat) (hj : j < zs.length) : ∃ g, a = some ⟨g, 0, none⟩ ∧ g < w.heap.size ∧ w.cell? ⟨g, j, none⟩ = some (encT zs[j]) := by
  have hl := h.1
  rcases h.2 with ⟨hv, h0⟩ | ⟨g, cap', cur, hv, hb, hh, r⟩
  · omega
  · injection hv with e1 e2 e3
    subst e1 e2 e3
    have h' : w.ownsRow B 9 1 (.slice (some ⟨g, 0, none⟩) zs.length cap) zs.length (zs.map encT) := h
    refine ⟨g, rfl, (Array.getElem?_eq_some_iff.1 hh).1, ?_⟩
    rw [h'.cellAt j (by simpa using hj)]
    simp [hj]
/-- append of a text that lies in a new block. -/
theorem RowT.app {ops : Array Oper} {rest : List Oper} {o : Oper} {a : Act} {Q : Exit → Act → World → Prop} (hgd : o.guard = none) (sl x : Operand)
    (ho : o.op = .call { callee := .builtin .append, args := #[sl, x], argTypes := #[22, 22] })
    (B : Nat) (w : World) (v : Value) (zs : List Tl) (h : RowT B v zs w) (z : Tl) (b cap : Nat) (hblk : w.heap[b]? = some (.cells #[encT z] 9 (0, 0))) (hs : a.eval sl = v) (hx : a.eval x = .slice (some ⟨b, 0, none⟩) 1 cap)
    (hlen : zs.length ≤ 1099511627776) (hB : B ≤ w.heap.size)
    (k : ∀ g c w', RowT B (.slice (some ⟨g, 0, none⟩) (zs.length + 1) c) (zs ++ [z]) w' → w.grownBy w' v.ownBlock → wpList Try.prog ops Q rest (a.put o.dst (.slice (some ⟨g, 0, none⟩) (zs.length + 1) c)) w') : wpList Try.prog ops Q (o :: rest) a w := by
  obtain ⟨i0, hi, hz0, hz1, hz2⟩ := info_parts infoT
  refine wpList_append_lies w hgd sl x 22 ho B 9 i0 _ 1 16 Try.underlying22 hi hz0 hz1 hz2 rfl (by decide) v zs.length _ hs h ⟨b, 0, none⟩ 1 cap [encT z] hx rfl ?_ ?_ Nat.zero_lt_one ?_ ?_ hB w.heap.size rfl ?_
  · intro j u hj
    exact World.news_of_block hblk j u hj
  · intro u hu
    simp only [List.mem_singleton] at hu
    rw [hu]
    rfl
  · unfold maxLen; omega
  · omega
  · intro g c w' ho' hg hat _
    refine k g c w' ?_ hg
    unfold RowT
    rw [List.length_append, List.map_append]
    exact ho'
theorem RowT.own {B : Nat} {v : Value} {zs : List Tl} {w : World} (h : RowT B v zs w) : ∀ g, v.ownBlock = some g → B ≤ g := fun g hg => by
  rcases h.2 with ⟨rfl, _⟩ | ⟨g', cap, cur, rfl, hb, _⟩
  · cases hg
  · simp only [Value.ownBlock, Option.some.injEq] at hg
    omega

set_option maxHeartbeats 1000000 in
theorem collect_any (Bs cap : Nat) (A : Option Addr) (zs : List Tl) (hlen : zs.length ≤ 68719476736) (w : World) (hBs : Bs < w.heap.size)
    (hc : w.cell? ⟨Bs, 0, none⟩ = some (.slice A zs.length cap)) (hI : TsAt w.heap.size w A zs) :
    Calls Try.prog 39 #[.func (.func 41) #[] #[.pointer (some ⟨Bs, 0, none⟩)]] w fun e W' => ∃ v, e = .returned v ∧ RowT w.heap.size v zs W' ∧ Below w.heap.size w W' := by
  have HA := Lib.hid ((callsIn_wide (n := 3)).1 (append_in 3 (by omega) Bs cap A zs hlen w hBs hc hI))
  go_enter Try.func39, Try.ntmps39
  go_wp2_with fail
  refine HA.out.mono ?_
  rintro e w1 ⟨v, rfl, hr, _, hb⟩
  have HR : Hid (RowT w.heap.size v zs w1) := Lib.hid hr
  obtain ⟨a, c, rfl⟩ := RowT.form HR.out
  clear hr
  go_wp2_with fail
  go_ret
  exact ⟨_, rfl, HR.out, hb⟩
set_option maxHeartbeats 1000000 in
theorem sorted_any (Bs cap : Nat) (A : Option Addr) (zs : List Tl) (hlen : zs.length ≤ 68719476736) (w : World) (hBs : Bs < w.heap.size)
    (hc : w.cell? ⟨Bs, 0, none⟩ = some (.slice A zs.length cap)) (hI : TsAt w.heap.size w A zs) :
    Calls Try.prog 29 #[.func (.func 41) #[] #[.pointer (some ⟨Bs, 0, none⟩)]] w fun e W' => ∃ v, e = .returned v ∧ RowT w.heap.size v (zs.mergeSort (fun x y => decide (x ≤ y))) W' ∧ Below w.heap.size w W' := by
  go_enter Try.func29, Try.ntmps29
  go_wp2_with fail
  refine (collect_any Bs cap A zs hlen w hBs hc hI).mono ?_
  rintro e w1 ⟨v, rfl, hr, hb⟩
  rcases hr.2 with ⟨rfl, h0⟩ | ⟨g, cap2, cur, rfl, hbase, hgb, r1, r2, r3, r4⟩
  · obtain rfl : zs = [] := List.eq_nil_of_length_eq_zero h0
    go_wp2_with fail
    refine (Try.slices_Sort_string_none none 0 w1).mono ?_
    rintro e w2 ⟨rfl, rfl⟩
    go_wp2_with fail
    go_ret
    exact ⟨_, rfl, by simpa using hr, hb⟩
  · have hH : Holds encStr w1 g 0 zs.toArray := holds_of_block hgb (by simpa using r4)
    have hgl : g < w1.heap.size := (Array.getElem?_eq_some_iff.1 hgb).1
    have HS := Lib.hid (Try.slices_Sort_string g 0 cap2 zs w1 hH hgl (by omega))
    have HR : Hid (∀ n os, RowT w.heap.size (.slice (some ⟨g, 0, none⟩) zs.length cap2) (zs.mergeSort (fun x y => decide (x ≤ y))) (grow (putRow encStr (Sort.ahead w1 n) g 0 (zs.mergeSort (fun x y => decide (x ≤ y))).toArray) os) ∧ Below w.heap.size w (grow (putRow encStr (Sort.ahead w1 n) g 0 (zs.mergeSort (fun x y => decide (x ≤ y))).toArray) os)) := Lib.hid (fun n os => by
      refine ⟨?_, hb.grown (grownBy_sorted _) hb.size (fun j hj => by cases hj; exact hbase)⟩
      have h := ownsRow_sorted (n := n) (os := os) (ts := zs.mergeSort (fun x y => decide (x ≤ y))) (ss := zs) (by simp) hbase hgb r1 r2 r3
      unfold RowT
      rw [List.length_mergeSort]
      exact h)
    clear hr hH hgl hgb r1 r2 r3 r4
    go_wp2_with fail
    refine HS.out.mono ?_
    rintro e w2 ⟨rfl, n, os, rfl⟩
    have HRR := Lib.hid (HR.out n os)
    go_wp2_with fail
    go_ret
    exact ⟨_, rfl, HRR.out.1, HRR.out.2⟩
set_option maxHeartbeats 1000000 in
theorem compact_any (B : Nat) (v : Value) (zs : List Tl) (w : World) (hlen : zs.length ≤ 68719476736) (hr : RowT B v zs w) :
    Calls Try.prog 28 #[v] w fun e w' => ∃ u, e = .returned u ∧ RowT B u (Lib.compact zs) w' ∧ Below B w w' := by
  have hcl : (Lib.compact zs).length ≤ zs.length := by
    unfold Lib.compact Lib.compactUpTo
    rw [List.length_map]
    have := List.length_filter_le (Lib.keeps zs.toArray) (List.range zs.length)
    rw [List.length_range] at this
    exact this
  rcases hr.2 with ⟨rfl, h0⟩ | ⟨g, cap, cur, rfl, hbase, hgb, r1, r2, r3, r4⟩
  · obtain rfl : zs = [] := List.eq_nil_of_length_eq_zero h0
    refine (Try.slices_Compact_string_empty none 0 w).mono ?_
    rintro e w2 ⟨rfl, rfl⟩
    exact ⟨_, rfl, by simpa [Lib.compact, Lib.compactUpTo] using hr, Below.refl _ _⟩
  · have hH : Holds encStr w g 0 zs.toArray := holds_of_block hgb (by simpa using r4)
    refine (Try.slices_Compact_string g 0 cap zs w hH (by omega) r1).mono ?_
    rintro e w2 ⟨rfl, q, rfl⟩
    refine ⟨_, rfl, ?_, Lib.below_putRow (Below.refl _ _) hbase⟩
    have h := Lib.ownsRow_putRow (q := q) (k := (Lib.compact zs).length) (ys := Lib.compact zs ++ List.replicate (zs.length - (Lib.compact zs).length) []) (zs := zs) (enc := encStr) hr (by rw [List.length_append, List.length_replicate]; omega) hcl
    rw [List.take_left] at h
    exact h
end Go.Proofs.Ytggnkpbadfabcaa.Fg
