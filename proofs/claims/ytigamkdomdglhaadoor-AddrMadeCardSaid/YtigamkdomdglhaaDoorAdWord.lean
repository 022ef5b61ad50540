/-
  The program's reader of addresses: a word that ends. No law in this text. Conditions: the words are at most 10^12.
-/
import Derived.Test.YtigamkdomdglhaaDoorAdBld
import Derived.Deep.CutRange
import Derived.Deep.RegionWith
namespace Go.Proofs.YtigamkdomdglhaaDoor.Ad
open Go Go.RowKit Go.Joins Kit J7
variable {w0 w : World} {b : Nat} {c0 c1 p v wv c5 c6 tv : Value} {l : List UInt8} {ws : List (List UInt8)} {T : List Ad3}

theorem infoS : (Tryd.prog.info? 9).map (fun i => (i.zero, i.size, i.bytes)) = some (some (.string ⟨#[]⟩), 1, 16) := by kernel_rfl
/-- append of a text to the words, as a step of a region that draws. -/
theorem words_step {ops : Array Oper} {o : Oper} {a : Act} {K : Act → World → Prop} {Q : Exit → Act → World → Prop} {E : Prop} (hgd : o.guard = none) (sl x : Operand)
    (ho : o.op = .call { callee := .builtin .append, args := #[sl, x], argTypes := #[22, 22] })
    (B : Nat) (W : World) (h : W.ownsRow B 9 1 wv ws.length (ws.map sV)) (hB : B ≤ W.heap.size) (t : List UInt8) (g cap : Nat) (hblk : W.heap[g]? = some (.cells #[sV t] 9 (0, 0))) (hs : a.eval sl = wv) (hx : a.eval x = .slice (some ⟨g, 0, none⟩) 1 cap)
    (hlen : ws.length ≤ 1099511627776)
    (k : ∀ g' c w', w'.ownsRow B 9 1 (.slice (some ⟨g', 0, none⟩) (ws.length + 1) c) (ws ++ [t]).length ((ws ++ [t]).map sV) → W.grownBy w' wv.ownBlock → K (a.put o.dst (.slice (some ⟨g', 0, none⟩) (ws.length + 1) c)) w') :
    if Region.wanted o (yielded ops a.tmps) = true then Oper.wp Tryd.prog o a W K Q else E := by
  obtain ⟨i0, hi, hz0, hz1, hz2⟩ := info_parts infoS
  refine step_append_lies W hgd sl x 22 ho B 9 i0 _ 1 16 Tryd.underlying22 hi hz0 hz1 hz2 rfl (by decide) wv ws.length _ hs h ⟨g, 0, none⟩ 1 cap [sV t] hx rfl ?_ ?_ Nat.zero_lt_one ?_ ?_ hB W.heap.size rfl ?_
  · intro j u hj
    exact World.news_of_block hblk j u hj
  · intro u hu
    simp only [List.mem_cons, List.not_mem_nil, or_false] at hu
    rcases hu with rfl
    rfl
  · unfold maxLen; omega
  · omega
  · intro g' c w' ho' hg hat _
    refine k g' c w' ?_ hg
    rw [List.length_append, List.map_append]
    exact ho'

set_option maxHeartbeats 4000000 in
set_option maxRecDepth 100000 in
theorem endWord_any {s : St} (h : RM w0 b s w) (hw : s.words.length ≤ 1099511627776) :
    Calls Tryd.prog 13 #[.pointer (some ⟨b, 0, none⟩)] w fun e w' => e = .returned (.tuple #[]) ∧ RM w0 b (endWordS s) w' := by
  obtain ⟨p, v, wv, tv, h⟩ := h
  have HW := Lib.hid hw
  clear hw
  have hd : RX w0 b _ _ p v wv _ _ tv s.txt s.words s.told w.drew := h.below (Below.refl _ w).drew
  have hstr := bstring_any hd
  have l4 : w.drew.cell? ⟨b, 4, none⟩ = some wv := hd.y.cell 4
  clear h
  go_enter Tryd.func13, Tryd.ntmps13
  go_upto_region 0 with fail
  refine wp_region_any (by kernel_rfl) ?_
  try (change wpAny _ _ _ _ _ _ _ (World.drew _))
  refine wpAny_take (i := 0) (v := ?_) rfl (by kernel_rfl) (by kernel_rfl) (by kernel_rfl) (fun _ _ _ h => h) (Or.inl ⟨by rfl, ?_⟩) ?_
  rotate_left 1
  · (intro w; go_simp) <;> with_reducible rfl
  refine wpAny_take (i := 1) (v := ?_) rfl (by kernel_rfl) (by kernel_rfl) (by kernel_rfl) (fun _ _ _ h => h) (Or.inl ⟨by rfl, ?_⟩) ?_
  rotate_left 1
  · (intro w; go_simp) <;> with_reducible rfl
  refine wpAny_take (i := 2) (v := ?_) rfl (by kernel_rfl) (by kernel_rfl) (by kernel_rfl) (fun _ _ _ h => h) (Or.inl ⟨by rfl, ?_⟩) ?_
  rotate_left 1
  · (intro w; go_simp) <;> with_reducible rfl
  refine wpAny_take (i := 3) (v := ?_) rfl (by kernel_rfl) (by kernel_rfl) (by kernel_rfl) (fun _ _ _ h => h) (Or.inl ⟨by rfl, ?_⟩) ?_
  rotate_left 1
  · (intro w; go_simp) <;> with_reducible rfl
  refine wpAny_take (i := 5) (v := ?_) rfl (by kernel_rfl) (by kernel_rfl) (by kernel_rfl) (fun _ _ _ h => h) (Or.inl ⟨by rfl, ?_⟩) ?_
  rotate_left 1
  · (intro w; go_simp) <;> with_reducible rfl
  refine wpAny_take (i := 6) (v := ?_) rfl (by kernel_rfl) (by kernel_rfl) (by kernel_rfl) (fun _ _ _ h => h) (Or.inl ⟨by rfl, ?_⟩) ?_
  rotate_left 1
  · (intro w; go_simp) <;> with_reducible rfl
  refine wpAny_take (i := 7) (v := ?_) rfl (by kernel_rfl) (by kernel_rfl) (by kernel_rfl) (fun _ _ _ h => h) (Or.inl ⟨by rfl, ?_⟩) ?_
  rotate_left 1
  · (intro w; go_simp) <;> with_reducible rfl
  refine wpAny_ready (rs := [4, 8]) (by kernel_rfl) (by simp) ?_
  refine AllReady.cons rfl (fun K hK => ?_) (AllReady.cons rfl (fun K hK => ?_) AllReady.nil)
  · go_simp
    refine hK _ _ ?_
    clear hK K
    refine wpAny_ready (rs := [8]) (by kernel_rfl) (by simp) ?_
    refine AllReady.cons rfl (fun K hK => ?_) AllReady.nil
    go_simp
    go_wp2_with fail
    refine hstr.mono ?_
    rintro e w1 ⟨rfl, h1⟩
    have m4 : w1.cell? ⟨b, 4, none⟩ = some wv := h1.cell 4
    have hb2 : Below w1.heap.size w1 (w1.alloc (.cells #[.string ⟨s.txt.toArray⟩] 9)) := (Below.refl _ w1).alloc (Nat.le_refl _) _
    have h2 := h1.below hb2
    have m5 : (w1.alloc (.cells #[.string ⟨s.txt.toArray⟩] 9)).cell? ⟨b, 4, none⟩ = some wv := h2.cell 4
    clear hd hstr
    go_wp2_with fail
    refine wpAny_ready (rs := [9]) (by kernel_rfl) (by simp) ?_
    refine AllReady.cons rfl (fun K hK => ?_) AllReady.nil
    go_simp
    refine hK _ _ ?_
    clear hK K
    refine wpAny_ready (rs := [10]) (by kernel_rfl) (by simp) ?_
    refine AllReady.cons rfl (fun K hK => ?_) AllReady.nil
    refine words_step rfl (.tmp 6) (.tmp 11) rfl w0.heap.size _ h2.wrd h2.room s.txt w1.heap.size _ (Kit.fresh_block w1 _ _) (by first | rfl | simp [Act.eval, Act.put]) (by first | rfl | simp [Act.eval, Act.put]) HW.out ?_
    intro g5 cap5 w5 ho5 hg5
    have h5 := h2.put4 hg5 ho5
    have hb5 := (hg5.block b h2.lt (fun e => h2.wne e.symm)).trans h2.blk
    have m6 : w5.cell? ⟨b, 4, none⟩ = some wv := by rw [Lib.cell_of_heap hb5]; rfl
    have m7 : w5.frozen? ⟨b, 4, none⟩ = false := Lib.frozen_of_heap hb5 4
    clear ho5 hg5 hb5 h2 h1
    refine hK _ _ ?_
    clear hK K
    refine wpAny_take (i := 11) (v := ?_) rfl (by kernel_rfl) (by kernel_rfl) (by kernel_rfl) (fun _ _ _ h => h) (Or.inl ⟨by rfl, ?_⟩) ?_
    rotate_left 1
    · (intro w; go_simp) <;> with_reducible rfl
    refine wpAny_take (i := 12) (v := ?_) rfl (by kernel_rfl) (by kernel_rfl) (by kernel_rfl) (fun _ _ _ h => h) (Or.inl ⟨by rfl, ?_⟩) ?_
    rotate_left 1
    · (intro w; go_simp) <;> with_reducible rfl
    refine wpAny_ready (rs := [13]) (by kernel_rfl) (by simp) ?_
    refine AllReady.cons rfl (fun K hK => ?_) AllReady.nil
    go_simp
    refine hK _ _ ?_
    clear hK K
    refine wpAny_done (by kernel_rfl) ?_ _
    go_wp2_with fail
    refine (reset_any h5).mono ?_
    rintro e w6 ⟨rfl, h6⟩
    have f0 := h6.y.free 0
    have q0 : w6.cell? ⟨b, 0, none⟩ = some (.int .i64 s.st) := h6.y.cell 0
    have h7 := h6.set0 (.int .i64 0)
    clear h6 h5
    go_wp2_with fail
    go_end0
    exact ⟨rfl, _, _, _, _, h7⟩
  · go_simp
    go_wp2_with fail
    refine hstr.mono ?_
    rintro e w1 ⟨rfl, h1⟩
    have m4 : w1.cell? ⟨b, 4, none⟩ = some wv := h1.cell 4
    have hb2 : Below w1.heap.size w1 (w1.alloc (.cells #[.string ⟨s.txt.toArray⟩] 9)) := (Below.refl _ w1).alloc (Nat.le_refl _) _
    have h2 := h1.below hb2
    have m5 : (w1.alloc (.cells #[.string ⟨s.txt.toArray⟩] 9)).cell? ⟨b, 4, none⟩ = some wv := h2.cell 4
    clear hd hstr
    go_wp2_with fail
    refine wpAny_ready (rs := [4, 9]) (by kernel_rfl) (by simp) ?_
    refine AllReady.cons rfl (fun K hK => ?_) (AllReady.cons rfl (fun K hK => ?_) AllReady.nil)
    · go_simp
      refine hK _ _ ?_
      clear hK K
      refine wpAny_ready (rs := [9]) (by kernel_rfl) (by simp) ?_
      refine AllReady.cons rfl (fun K hK => ?_) AllReady.nil
      go_simp
      refine hK _ _ ?_
      clear hK K
      refine wpAny_ready (rs := [10]) (by kernel_rfl) (by simp) ?_
      refine AllReady.cons rfl (fun K hK => ?_) AllReady.nil
      refine words_step rfl (.tmp 6) (.tmp 11) rfl w0.heap.size _ h2.wrd h2.room s.txt w1.heap.size _ (Kit.fresh_block w1 _ _) (by first | rfl | simp [Act.eval, Act.put]) (by first | rfl | simp [Act.eval, Act.put]) HW.out ?_
      intro g5 cap5 w5 ho5 hg5
      have h5 := h2.put4 hg5 ho5
      have hb5 := (hg5.block b h2.lt (fun e => h2.wne e.symm)).trans h2.blk
      have m6 : w5.cell? ⟨b, 4, none⟩ = some wv := by rw [Lib.cell_of_heap hb5]; rfl
      have m7 : w5.frozen? ⟨b, 4, none⟩ = false := Lib.frozen_of_heap hb5 4
      clear ho5 hg5 hb5 h2 h1
      refine hK _ _ ?_
      clear hK K
      refine wpAny_take (i := 11) (v := ?_) rfl (by kernel_rfl) (by kernel_rfl) (by kernel_rfl) (fun _ _ _ h => h) (Or.inl ⟨by rfl, ?_⟩) ?_
      rotate_left 1
      · (intro w; go_simp) <;> with_reducible rfl
      refine wpAny_take (i := 12) (v := ?_) rfl (by kernel_rfl) (by kernel_rfl) (by kernel_rfl) (fun _ _ _ h => h) (Or.inl ⟨by rfl, ?_⟩) ?_
      rotate_left 1
      · (intro w; go_simp) <;> with_reducible rfl
      refine wpAny_ready (rs := [13]) (by kernel_rfl) (by simp) ?_
      refine AllReady.cons rfl (fun K hK => ?_) AllReady.nil
      go_simp
      refine hK _ _ ?_
      clear hK K
      refine wpAny_done (by kernel_rfl) ?_ _
      go_wp2_with fail
      refine (reset_any h5).mono ?_
      rintro e w6 ⟨rfl, h6⟩
      have f0 := h6.y.free 0
      have q0 : w6.cell? ⟨b, 0, none⟩ = some (.int .i64 s.st) := h6.y.cell 0
      have h7 := h6.set0 (.int .i64 0)
      clear h6 h5
      go_wp2_with fail
      go_end0
      exact ⟨rfl, _, _, _, _, h7⟩
    · go_simp
      refine hK _ _ ?_
      clear hK K
      refine wpAny_ready (rs := [4]) (by kernel_rfl) (by simp) ?_
      refine AllReady.cons rfl (fun K hK => ?_) AllReady.nil
      go_simp
      refine hK _ _ ?_
      clear hK K
      refine wpAny_ready (rs := [10]) (by kernel_rfl) (by simp) ?_
      refine AllReady.cons rfl (fun K hK => ?_) AllReady.nil
      refine words_step rfl (.tmp 6) (.tmp 11) rfl w0.heap.size _ h2.wrd h2.room s.txt w1.heap.size _ (Kit.fresh_block w1 _ _) (by first | rfl | simp [Act.eval, Act.put]) (by first | rfl | simp [Act.eval, Act.put]) HW.out ?_
      intro g5 cap5 w5 ho5 hg5
      have h5 := h2.put4 hg5 ho5
      have hb5 := (hg5.block b h2.lt (fun e => h2.wne e.symm)).trans h2.blk
      have m6 : w5.cell? ⟨b, 4, none⟩ = some wv := by rw [Lib.cell_of_heap hb5]; rfl
      have m7 : w5.frozen? ⟨b, 4, none⟩ = false := Lib.frozen_of_heap hb5 4
      clear ho5 hg5 hb5 h2 h1
      refine hK _ _ ?_
      clear hK K
      refine wpAny_take (i := 11) (v := ?_) rfl (by kernel_rfl) (by kernel_rfl) (by kernel_rfl) (fun _ _ _ h => h) (Or.inl ⟨by rfl, ?_⟩) ?_
      rotate_left 1
      · (intro w; go_simp) <;> with_reducible rfl
      refine wpAny_take (i := 12) (v := ?_) rfl (by kernel_rfl) (by kernel_rfl) (by kernel_rfl) (fun _ _ _ h => h) (Or.inl ⟨by rfl, ?_⟩) ?_
      rotate_left 1
      · (intro w; go_simp) <;> with_reducible rfl
      refine wpAny_ready (rs := [13]) (by kernel_rfl) (by simp) ?_
      refine AllReady.cons rfl (fun K hK => ?_) AllReady.nil
      go_simp
      refine hK _ _ ?_
      clear hK K
      refine wpAny_done (by kernel_rfl) ?_ _
      go_wp2_with fail
      refine (reset_any h5).mono ?_
      rintro e w6 ⟨rfl, h6⟩
      have f0 := h6.y.free 0
      have q0 : w6.cell? ⟨b, 0, none⟩ = some (.int .i64 s.st) := h6.y.cell 0
      have h7 := h6.set0 (.int .i64 0)
      clear h6 h5
      go_wp2_with fail
      go_end0
      exact ⟨rfl, _, _, _, _, h7⟩
end Go.Proofs.YtigamkdomdglhaaDoor.Ad
