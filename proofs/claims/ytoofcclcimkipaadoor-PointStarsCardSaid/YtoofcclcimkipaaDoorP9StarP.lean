/-
  Ahead of the law PointStars: what the star leads to in the values that it puts together; rows of numbers; the four orders in which a new object's blocks are made. Conditions: lists of at most 100 numbers.
-/
import Derived.Test.YtoofcclcimkipaaDoorP9Gets
import Derived.Test.YtoofcclcimkipaaDoorP9Nums
namespace Go.Proofs.YtoofcclcimkipaaDoor.J9
open Go Go.RowKit Go.Joins Kit J7 Nds J8

def xK : ByteArray := ⟨#[120]⟩
def idK : ByteArray := ⟨#[105, 100]⟩
def aJ (v : Int) : J := objK [xK, idK] [numJ 1, numJ v]
def bJ (ks : List J) : J := objK [idK] [arrK ks]
def aL (xs : List Int) (q : Nat) : List J := (xs.take q).map aJ
theorem aL_len {xs : List Int} {q : Nat} (h : q ≤ xs.length) : (aL xs q).length = q := by unfold aL; rw [List.length_map, List.length_take]; omega
theorem aL_next {xs : List Int} {q : Nat} (h : q < xs.length) : aL xs (q + 1) = aL xs q ++ [aJ (xs.getD q 0)] := by
  unfold aL
  rw [List.take_succ_eq_append_getElem h, List.map_append, List.getD_eq_getElem?_getD, List.getElem?_eq_getElem h]
  rfl
def numsF (i c : Nat) : List J := (List.range c).map (fun j => numJ ((i + j : Nat) : Int))
theorem numsF_len (i c : Nat) : (numsF i c).length = c := by unfold numsF; rw [List.length_map, List.length_range]
theorem numsF_next (i c : Nat) : numsF i (c + 1) = numsF i c ++ [numJ ((i + c : Nat) : Int)] := by
  unfold numsF
  rw [List.range_succ, List.map_append]
  rfl
def bL (cs : Nat → Nat) (q : Nat) : List J := (List.range q).map (fun i => bJ (numsF i (cs i)))
theorem bL_len (cs : Nat → Nat) (q : Nat) : (bL cs q).length = q := by unfold bL; rw [List.length_map, List.length_range]
theorem bL_next (cs : Nat → Nat) (q : Nat) : bL cs (q + 1) = bL cs q ++ [bJ (numsF q (cs q))] := by
  unfold bL
  rw [List.range_succ, List.map_append]
  rfl
def intsF (i c : Nat) : List Int := (List.range c).map (fun j => ((i + j : Nat) : Int))
theorem intsF_next (i c : Nat) : intsF i (c + 1) = intsF i c ++ [((i + c : Nat) : Int)] := by
  unfold intsF
  rw [List.range_succ, List.map_append]
  rfl
theorem intsF_len (i c : Nat) : (intsF i c).length = c := by unfold intsF; rw [List.length_map, List.length_range]
def wantL (cs : Nat → Nat) (q : Nat) : List Int := ((List.range q).map (fun i => intsF i (cs i))).flatten
theorem wantL_next (cs : Nat → Nat) (q : Nat) : wantL cs (q + 1) = wantL cs q ++ intsF q (cs q) := by
  unfold wantL
  rw [List.range_succ, List.map_append, List.flatten_append, List.map_singleton, List.flatten_singleton]
theorem wantL_len {cs : Nat → Nat} (h : ∀ i, cs i ≤ 3) : ∀ q, (wantL cs q).length ≤ 3 * q
  | 0 => Nat.le_refl _
  | q + 1 => by
    rw [wantL_next, List.length_append, intsF_len]
    have h1 := wantL_len h q
    have h2 := h q
    omega
theorem collect_map {α : Type} {f : J → Option J} (g h : α → J) (hf : ∀ a, f (g a) = some (h a)) : ∀ l : List α, collect f (l.map g) = some ((l.map (fun a => flatJ (h a))).flatten)
  | [] => rfl
  | a :: r => by
    rw [List.map_cons, collect, hf a, collect_map g h hf r]
    rfl
theorem star_all {α : Type} {l : List ByteArray} (g h : α → J) (hf : ∀ a, followP num9 l (g a) = some (h a)) (es : List α) : followP num9 (starB :: l) (arrK (es.map g)) = some (arrK ((es.map (fun a => flatJ (h a))).flatten)) := by
  rw [star_follow rfl]
  show (match collect (followP num9 l) (es.map g) with | none => none | some ks => some (arrK ks)) = _
  rw [collect_map g h hf es]
theorem a_id (v : Int) : followP num9 [idK] (aJ v) = some (numJ v) := by
  have hf : J8.Found (aJ v) idK 1 := ⟨rfl, by show 1 < 2; decide, by show 1 < 2; decide, rfl, fun j h => by
    have h0 : j = 0 := by omega
    subst h0
    show xK ≠ idK
    decide⟩
  rw [follow_key hf, followP]
  rfl
theorem b_id (ks : List J) : followP num9 [idK] (bJ ks) = some (arrK ks) := by
  have hf : J8.Found (bJ ks) idK 0 := ⟨rfl, by show 0 < 1; decide, by show 0 < 1; decide, rfl, fun j h => absurd h (Nat.not_lt_zero j)⟩
  rw [follow_key hf, followP]
  rfl
theorem flat_single {α : Type} (f : α → J) : ∀ l : List α, (l.map (fun a => [f a])).flatten = l.map f
  | [] => rfl
  | a :: r => by
    rw [List.map_cons, List.flatten_cons, flat_single f r]
    rfl
theorem star_a (xs : List Int) : followP num9 [starB, idK] (arrK (xs.map aJ)) = some (arrK (xs.map numJ)) := by
  rw [star_all aJ numJ a_id xs, ← flat_single numJ xs]
  rfl
theorem numsF_ints (i c : Nat) : numsF i c = (intsF i c).map numJ := by
  unfold numsF intsF
  rw [List.map_map]
  rfl
theorem star_b (cs : Nat → Nat) (q : Nat) : followP num9 [starB, idK] (arrK (bL cs q)) = some (arrK ((wantL cs q).map numJ)) := by
  unfold bL
  rw [star_all (fun i => bJ (numsF i (cs i))) (fun i => arrK (numsF i (cs i))) (fun i => b_id _) (List.range q)]
  unfold wantL
  rw [List.map_flatten, List.map_map]
  refine congrArg (fun l => some (arrK l.flatten)) (List.map_congr_left (fun i _ => ?_))
  exact numsF_ints i (cs i)
theorem x_keys : KeysFine [xK, idK] := by
  unfold KeysFine
  decide
theorem right_a {dd : Nat} {v : Int} (hd : dd < 24) (h0 : -32768 ≤ v) (h1 : v ≤ 32767) : RightIn dd (aJ v) := right_objK hd rfl x_keys (fun k hk => by
  simp only [List.mem_cons, List.not_mem_nil, or_false] at hk
  rcases hk with rfl | rfl
  · exact right_num (by decide) (by decide)
  · exact right_num (by omega) (by omega))
theorem tame_a (v : Int) : Tame (aJ v) := tame_objK (by decide) (fun k hk => by
  simp only [List.mem_cons, List.not_mem_nil, or_false] at hk
  rcases hk with rfl | rfl <;> decide) (by show 2 ≤ 65536; decide) (fun k hk => by
  simp only [List.mem_cons, List.not_mem_nil, or_false] at hk
  rcases hk with rfl | rfl
  · exact tame_num 1
  · exact tame_num v)
theorem mem_nums {i c : Nat} {P : J → Prop} (h : ∀ j : Nat, j < c → P (numJ ((i + j : Nat) : Int))) : ∀ x ∈ numsF i c, P x := fun x hx => by
  unfold numsF at hx
  obtain ⟨j, hj, rfl⟩ := List.mem_map.1 hx
  exact h j (List.mem_range.1 hj)
theorem right_b {dd i c : Nat} (hd : dd < 23) (hi : i ≤ 100) (hc : c ≤ 3) : RightIn dd (bJ (numsF i c)) := right_objK (by omega) rfl (keys_one (by first | rfl | decide)) (fun k hk => by
  rw [mem_one hk]
  exact right_arrK (by omega) (mem_nums (fun j hj => right_num (by omega) (by omega))))
theorem tame_b {i c : Nat} (hc : c ≤ 3) : Tame (bJ (numsF i c)) := tame_objK (by decide) (fun k hk => by rw [mem_one hk]; decide) (by show 1 ≤ 65536; decide) (fun k hk => by
  rw [mem_one hk]
  exact tame_arrK (by rw [numsF_len]; omega) (mem_nums (fun j _ => tame_num _)))
theorem cnts_map {α : Type} (f : α → J) (m : Nat) (hm : ∀ a, cnt (f a) ≤ m) : ∀ l : List α, cnts (l.map f) ≤ m * l.length
  | [] => by rw [List.map_nil, cnts]; exact Nat.zero_le _
  | a :: r => by
    rw [List.map_cons, cnts, List.length_cons, Nat.mul_succ]
    have h1 := cnts_map f m hm r
    have h2 := hm a
    omega
theorem cnt_num (v : Int) : cnt (numJ v) = 1 := by
  unfold numJ
  simp only [cnt, cnts]
theorem cnt_arr (ks : List J) : cnt (arrK ks) = 1 + cnts ks := by unfold arrK; rw [cnt]
theorem cnt_a (v : Int) : cnt (aJ v) ≤ 3 := by
  unfold aJ objK numJ
  simp only [cnt, cnts]
  decide
theorem cnt_b {i c : Nat} (hc : c ≤ 3) : cnt (bJ (numsF i c)) ≤ 5 := by
  unfold bJ objK
  simp only [cnt, cnts, cnt_arr]
  have h := cnts_map (fun j => numJ ((i + j : Nat) : Int)) 1 (fun j => Nat.le_of_eq (cnt_num _)) (List.range c)
  rw [List.length_range] at h
  unfold numsF
  omega
def stB : ByteArray := ⟨#[47, 42, 47, 105, 100]⟩
theorem st_parts : partsP stB = some [starB, idK] := partsP_path (ls := [starB, idK]) rfl (by decide)
section
variable {xs : List Int} (hn : xs.length ≤ 100) (hb : ∀ k, -32768 ≤ xs.getD k 0 ∧ xs.getD k 0 ≤ 32767)
theorem mem_getD {xs : List Int} {x : Int} (h : x ∈ xs) : ∃ k, xs.getD k 0 = x := by
  obtain ⟨i, hi, e⟩ := List.getElem_of_mem h
  exact ⟨i, by rw [List.getD_eq_getElem?_getD, List.getElem?_eq_getElem hi]; exact e⟩
include hn in
theorem tame_as : Tame (arrK (xs.map aJ)) := tame_arrK (by rw [List.length_map]; omega) (fun k hk => by
  obtain ⟨v, _, rfl⟩ := List.mem_map.1 hk
  exact tame_a v)
include hn in
theorem cnt_as : cnt (arrK (xs.map aJ)) ≤ 2000 := by
  rw [cnt_arr]
  have h := cnts_map aJ 3 cnt_a xs
  omega
include hb in
theorem point_as : pointP (arrK (xs.map aJ)) stB = (arrK (xs.map numJ), 0) := point_0 (rightP_yes (right_arrK (by decide) (fun k hk => by
  obtain ⟨v, hv, rfl⟩ := List.mem_map.1 hk
  obtain ⟨i, hi⟩ := mem_getD hv
  have h := hb i
  rw [hi] at h
  exact right_a (by decide) h.1 h.2))) st_parts (star_a xs)
end
section
variable {cs : Nat → Nat} {m : Nat} (hm : m ≤ 100) (hc : ∀ i, cs i ≤ 3)
include hm hc
theorem tame_bs : Tame (arrK (bL cs m)) := tame_arrK (by rw [bL_len]; omega) (fun k hk => by
  unfold bL at hk
  obtain ⟨i, _, rfl⟩ := List.mem_map.1 hk
  exact tame_b (hc i))
theorem cnt_bs : cnt (arrK (bL cs m)) ≤ 2000 := by
  rw [cnt_arr]
  have h := cnts_map (fun i => bJ (numsF i (cs i))) 5 (fun i => cnt_b (hc i)) (List.range m)
  rw [List.length_range] at h
  unfold bL
  omega
theorem point_bs : pointP (arrK (bL cs m)) stB = (arrK ((wantL cs m).map numJ), 0) := point_0 (rightP_yes (right_arrK (by decide) (fun k hk => by
  unfold bL at hk
  obtain ⟨i, hi, rfl⟩ := List.mem_map.1 hk
  have := List.mem_range.1 hi
  exact right_b (by decide) (by omega) (hc i)))) st_parts (star_b cs m)
end

/-! ### Rows in memory -/
theorem KidsQ.same3 {P : Nat → Prop} {B : Nat} {v : Value} {kids : List J} {w w' : World} (h : KidsQ P B v kids w) (hk : ∀ g, P g ∨ v.ownBlock = some g → g < w.heap.size → w'.heap[g]? = w.heap[g]?) : KidsQ P B v kids w' := by
  obtain ⟨cs, h1, h2⟩ := h
  exact ⟨cs, own_keep8 h1 (fun g hg hl => hk g (Or.inr hg) hl), h2.keep (fun g hg hl => ⟨hg, hk g (Or.inl hg.1) hl⟩)⟩
theorem KidsQ.mono {P P' : Nat → Prop} {B : Nat} {v : Value} {kids : List J} {w : World} (h : KidsQ P B v kids w) (hp : ∀ g, P g → g < w.heap.size → P' g) : KidsQ P' B v kids w := by
  obtain ⟨cs, h1, h2⟩ := h
  exact ⟨cs, h1, h2.keep (fun g hg hl => ⟨⟨hp g hg.1 hl, hg.2⟩, rfl⟩)⟩
theorem KidsQ.arr {P : Nat → Prop} {B : Nat} {v : Value} {kids : List J} {w : World} (h : KidsQ P B v kids w) : NodeAt (fun _ => True) w (arrK kids) (.agg #[.int .i64 6, .int .i64 0, .string ⟨#[]⟩, .slice none 0 0, v]) := by
  obtain ⟨cs, h1, h2⟩ := h
  exact node_made cells_none (cells_own h1 (fun _ _ => trivial)) (h2.keep (kept_mono (fun _ _ => trivial)))
theorem info8I : (Tryd.prog.info? 3).map (fun i => (i.zero, i.size, i.bytes)) = some (some (.int .i64 0), 1, 8) := by kernel_rfl
def intCells (xs : List Int) : List Value := xs.map (Value.int .i64)
/-- A row of numbers of the call's own. -/
def IntsR (B : Nat) (v : Value) (xs : List Int) (w : World) : Prop := w.ownsRow B 3 1 v xs.length (intCells xs)
theorem IntsR.new (B : Nat) (w : World) : IntsR B (.slice none 0 0) [] w := ⟨rfl, Or.inl ⟨rfl, rfl⟩⟩
theorem IntsR.same {B : Nat} {v : Value} {xs : List Int} {w w' : World} (h : IntsR B v xs w) (hk : ∀ g, v.ownBlock = some g → g < w.heap.size → w'.heap[g]? = w.heap[g]?) : IntsR B v xs w' := own_keep8 h hk
theorem IntsR.cell {B : Nat} {v : Value} {xs : List Int} {w : World} (h : IntsR B v xs w) (i : Nat) (hi : i < xs.length) : ∃ g cap, v = .slice (some ⟨g, 0, none⟩) xs.length cap ∧ w.cell? ⟨g, i, none⟩ = some (.int .i64 (xs.getD i 0)) := by
  obtain ⟨h1, h2⟩ := h
  rcases h2 with ⟨_, h0⟩ | ⟨g, cap, cur, rfl, hg, hh, r1, r2, r3, r4⟩
  · omega
  · have h : w.ownsRow B 3 1 (.slice (some ⟨g, 0, none⟩) xs.length cap) xs.length (intCells xs) := ⟨h1, Or.inr ⟨g, cap, cur, rfl, hg, hh, r1, r2, r3, r4⟩⟩
    refine ⟨g, cap, rfl, ?_⟩
    have hc := h.cellAt i (by rw [Nat.mul_one]; exact hi)
    unfold intCells at hc
    rw [List.getElem?_map, List.getElem?_eq_getElem hi] at hc
    rw [List.getD_eq_getElem?_getD, List.getElem?_eq_getElem hi]
    exact hc
theorem IntsR.form {B : Nat} {v : Value} {xs : List Int} {w : World} (h : IntsR B v xs w) : ∃ ao cap, v = .slice ao xs.length cap := own_form8 h
theorem ints_app {ops : Array Oper} {rest : List Oper} {o : Oper} {a : Act} {Q : Exit → Act → World → Prop} (hgd : o.guard = none) (sl x : Operand)
    (ho : o.op = .call { callee := .builtin .append, args := #[sl, x], argTypes := #[41, 41] })
    (B : Nat) (w : World) (v : Value) (xs : List Int) (hK : IntsR B v xs w) (k : Int) (hs : a.eval sl = v) (hx : a.eval x = .slice (some ⟨w.heap.size, 0, none⟩) 1 1) (hlen : xs.length ≤ 65536) (hsz : B ≤ w.heap.size)
    (h : ∀ g c w', IntsR B (.slice (some ⟨g, 0, none⟩) (xs.length + 1) c) (xs ++ [k]) w' → (w.alloc (.cells #[.int .i64 k] 3)).grownBy w' v.ownBlock → (v.ownBlock = some g ∨ g = w.heap.size + 1) → wpList Tryd.prog ops Q rest (a.put o.dst (.slice (some ⟨g, 0, none⟩) (xs.length + 1) c)) w') :
    wpList Tryd.prog ops Q (o :: rest) a (w.alloc (.cells #[.int .i64 k] 3)) := by
  obtain ⟨i0, hi, hz0, hz1, hz2⟩ := info_parts info8I
  have hlow : ∀ g, g < w.heap.size → (w.alloc (.cells #[.int .i64 k] 3)).heap[g]? = w.heap[g]? := fun g hg => Below.heap_alloc w _ g hg
  refine wpList_append_lies (w.alloc (.cells #[.int .i64 k] 3)) hgd sl x 41 ho B 3 i0 _ 1 8 Tryd.underlying41 hi hz0 hz1 hz2 rfl (by decide) v xs.length (intCells xs) hs (own_keep8 hK (fun g _ hl => hlow g hl)) ⟨w.heap.size, 0, none⟩ 1 1 [.int .i64 k] hx rfl ?_ ?_ (by decide) ?_ ?_ ?_ (w.heap.size + 1) (by simp) ?_
  · intro q u hk
    exact World.news_of_block (Kit.fresh_block w _ _) q u hk
  · intro u hu
    simp only [List.mem_cons, List.not_mem_nil, or_false] at hu
    subst hu
    rfl
  · unfold maxLen; omega
  · omega
  · simp; omega
  · intro g c w' ho' hg hat _
    refine h g c w' ?_ hg hat
    have e : intCells (xs ++ [k]) = intCells xs ++ [.int .i64 k] := by unfold intCells; simp
    unfold IntsR
    rw [e, List.length_append]
    exact ho'
/-- A row of numbers and a row of values lie in two blocks. -/
theorem ints_ne {P : Nat → Prop} {B B' : Nat} {v v' : Value} {xs : List Int} {kids : List J} {w : World} (h : IntsR B v xs w) (h' : KidsQ P B' v' kids w) {g : Nat} (hg : v.ownBlock = some g) : v'.ownBlock ≠ some g := by
  obtain ⟨cs, h1, _⟩ := h'
  exact own_ne8 h h1 (by decide) hg

/-! ### A new object's blocks, in whatever order they are made -/
def keyO : Obj := .cells #[.string ⟨#[120]⟩, .string ⟨#[105, 100]⟩] 9
def kidO (v : Int) : Obj := .cells #[.int .i64 4, .int .i64 1, .string ⟨#[]⟩, .slice none 0 0, .slice none 0 0, .int .i64 4, .int .i64 v, .string ⟨#[]⟩, .slice none 0 0, .slice none 0 0] 25
/-- What is known of a world where both blocks lie. -/
def Laid9 (wr W : World) (v : Int) (kb vb : Nat) : Prop := Below wr.heap.size wr W ∧ W.heap[kb]? = some (.cells #[.string ⟨#[120]⟩, .string ⟨#[105, 100]⟩] 9 (0, 0)) ∧ W.heap[vb]? = some (.cells #[.int .i64 4, .int .i64 1, .string ⟨#[]⟩, .slice none 0 0, .slice none 0 0, .int .i64 4, .int .i64 v, .string ⟨#[]⟩, .slice none 0 0, .slice none 0 0] 25 (0, 0)) ∧ wr.heap.size ≤ kb ∧ wr.heap.size ≤ vb
theorem below_al {w W : World} (h : Below w.heap.size w W) (o : Obj) : Below w.heap.size w (W.alloc o) := h.alloc h.size o
theorem size_al (w : World) (o : Obj) : (w.alloc o).heap.size = w.heap.size + 1 := by simp
theorem old_al {w : World} {g : Nat} {o b : Obj} (h : w.heap[g]? = some b) : (w.alloc o).heap[g]? = some b := (Below.heap_alloc w o g (Array.getElem?_eq_some_iff.1 h).1).trans h
theorem old_bl {w w' : World} {g : Nat} {b : Obj} (hb : Below w.heap.size w w') (h : w.heap[g]? = some b) : w'.heap[g]? = some b := (hb.block g (Array.getElem?_eq_some_iff.1 h).1).trans h
theorem lay1 {wr w4 w5 : World} {v : Int} {X : Obj} (h4 : Below (World.drew (World.alloc wr keyO)).heap.size (World.drew (World.alloc wr keyO)) w4) (h5 : Below w4.heap.size w4 w5) : Laid9 wr (World.alloc (World.alloc w5 (kidO v)) X) v wr.heap.size w5.heap.size := by
  have e0 : Below wr.heap.size wr (World.drew (World.alloc wr keyO)) := (below_al (Below.refl _ wr) _).drew
  have e1 := e0.trans (h4.mono e0.size)
  have e2 := e1.trans (h5.mono e1.size)
  have hf : (World.drew (World.alloc wr keyO)).heap[wr.heap.size]? = some (.cells #[.string ⟨#[120]⟩, .string ⟨#[105, 100]⟩] 9 (0, 0)) := Kit.fresh_block wr _ _
  exact ⟨below_al (below_al e2 _) _, old_al (old_al (old_bl h5 (old_bl h4 hf))), old_al (Kit.fresh_block w5 _ _), Nat.le_refl _, e2.size⟩
theorem lay2 {wr w4 w5 : World} {v : Int} {X : Obj} (h4 : Below wr.drew.heap.size wr.drew w4) (h5 : Below (World.alloc w4 keyO).heap.size (World.alloc w4 keyO) w5) : Laid9 wr (World.alloc (World.alloc w5 (kidO v)) X) v w4.heap.size w5.heap.size := by
  have e1 : Below wr.heap.size wr w4 := ((Below.refl _ wr).drew).trans h4
  have e0 := below_al e1 keyO
  have e2 := e0.trans (h5.mono e0.size)
  exact ⟨below_al (below_al e2 _) _, old_al (old_al (old_bl h5 (Kit.fresh_block w4 _ _))), old_al (Kit.fresh_block w5 _ _), e1.size, e2.size⟩
theorem lay3 {wr w4 w5 : World} {v : Int} {X : Obj} (h4 : Below wr.drew.heap.size wr.drew w4) (h5 : Below w4.heap.size w4 w5) : Laid9 wr (World.alloc (World.alloc (World.alloc w5 keyO) (kidO v)) X) v w5.heap.size (w5.heap.size + 1) := by
  have e1 : Below wr.heap.size wr w4 := ((Below.refl _ wr).drew).trans h4
  have e2 := e1.trans (h5.mono e1.size)
  have hf := Kit.fresh_block (World.alloc w5 keyO) #[.int .i64 4, .int .i64 1, .string ⟨#[]⟩, .slice none 0 0, .slice none 0 0, .int .i64 4, .int .i64 v, .string ⟨#[]⟩, .slice none 0 0, .slice none 0 0] 25
  rw [size_al] at hf
  exact ⟨below_al (below_al (below_al e2 _) _) _, old_al (old_al (Kit.fresh_block w5 _ _)), old_al hf, e2.size, Nat.le_succ_of_le e2.size⟩
theorem lay4 {wr w4 w5 : World} {v : Int} {X : Obj} (h4 : Below wr.drew.heap.size wr.drew w4) (h5 : Below w4.heap.size w4 w5) : Laid9 wr (World.alloc (World.alloc (World.alloc w5 (kidO v)) keyO) X) v (w5.heap.size + 1) w5.heap.size := by
  have e1 : Below wr.heap.size wr w4 := ((Below.refl _ wr).drew).trans h4
  have e2 := e1.trans (h5.mono e1.size)
  have hf := Kit.fresh_block (World.alloc w5 (kidO v)) #[.string ⟨#[120]⟩, .string ⟨#[105, 100]⟩] 9
  rw [size_al] at hf
  exact ⟨below_al (below_al (below_al e2 _) _) _, old_al hf, old_al (old_al (Kit.fresh_block w5 _ _)), Nat.le_succ_of_le e2.size, e2.size⟩
theorem cells_new {P : Nat → Prop} {w : World} {N n cap : Nat} {t : TypeId} {cs : Array Value} {l : List Value} (h : w.heap[N]? = some (.cells cs t (0, 0))) (hP : P N) (e : cs.toList = l) : CellsAt P w n (.slice (some ⟨N, 0, none⟩) n cap) l := by
  subst e
  refine Or.inr ⟨N, 0, cap, rfl, fun j hj => ⟨hP, ?_⟩⟩
  rw [Lib.cell_of_heap h, Nat.zero_add]
  simp at hj
  simp [hj]
theorem node_new {P : Nat → Prop} {w : World} {k n : Int} {t : ByteArray} {keys : List ByteArray} {kids : List J} {kv vv : Value} {cs : List Value} (h1 : CellsAt P w keys.length kv (strs keys)) (h2 : CellsAt P w kids.length vv cs) (h3 : KidsAt P w kids cs) :
    NodeAt P w (.mk k n t keys kids) (.agg #[.int .i64 k, .int .i64 n, .string t, kv, vv]) := by
  rw [NodeAt]
  exact ⟨_, _, rfl, h1, cs, h2, h3⟩
theorem a_node {wr W : World} {v : Int} {kb vb : Nat} (h : Laid9 wr W v kb vb) : NodeAt (fun g => wr.heap.size ≤ g) W (aJ v) (.agg #[.int .i64 7, .int .i64 0, .string ⟨#[]⟩, .slice (some ⟨kb, 0, none⟩) 2 2, .slice (some ⟨vb, 0, none⟩) 2 2]) :=
  node_new (cells_new h.2.1 h.2.2.2.1 rfl) (cells_new h.2.2.1 h.2.2.2.2 rfl) (kids_more (num_new _ _ 1) (kids_single (num_new _ _ v)))
theorem fresh_at {w : World} {cs : Array Value} {T : TypeId} {b : Nat} (h : b = w.heap.size) : (w.alloc (.cells cs T)).heap[b]? = some (.cells cs T (0, 0)) := by
  rw [h]
  exact Kit.fresh_block w cs T
/-- The object, put on. -/
theorem a_step {ops : Array Oper} {o : Oper} {a : Act} {K : Act → World → Prop} {Q : Exit → Act → World → Prop} {E : Prop} {sl x : Operand} {B : Nat} {wr : World} {v : Value} {xs : List Int} {q : Nat} {lv : Int} {kb vb b cap : Nat} {W : World}
    (hkd : KidsR B v (aL xs q) wr) (hq : q < xs.length) (hv : xs.getD q 0 = lv) (hn : xs.length ≤ 100) (hB : B ≤ wr.heap.size) (hgd : o.guard = none)
    (ho : o.op = .call { callee := .builtin .append, args := #[sl, x], argTypes := #[23, 23] })
    (hs : a.eval sl = v) (hx : a.eval x = .slice (some ⟨b, 0, none⟩) 1 cap) (hL : Laid9 wr W lv kb vb) (hblk : W.heap[b]? = some (.cells #[.int .i64 7, .int .i64 0, .string ⟨#[]⟩, .slice (some ⟨kb, 0, none⟩) 2 2, .slice (some ⟨vb, 0, none⟩) 2 2] 25 (0, 0)))
    (h : ∀ g c w', KidsR B (.slice (some ⟨g, 0, none⟩) (q + 1) c) (aL xs (q + 1)) w' → Below B wr w' → K (a.put o.dst (.slice (some ⟨g, 0, none⟩) (q + 1) c)) w') :
    if Region.wanted o (yielded ops a.tmps) = true then Oper.wp Tryd.prog o a W K Q else E := by
  have hl := aL_len (Nat.le_of_lt hq)
  have hsz := hL.1.size
  refine KidsR.step hgd sl x ho B W v (aL xs q) (KidsR.same hkd (fun g _ hg => hL.1.block g hg)) (aJ lv) _ _ _ _ _ wr.heap.size (a_node hL) hB (fun g hg => (KidsR.lt hkd hg).2) b cap (0, 0) hblk hs hx (by rw [hl]; omega) (Nat.le_trans hB hsz) ?_
  intro g c w' h1 h2 h3
  rw [hl] at h1 ⊢
  refine h g c w' ?_ ?_
  · rw [aL_next hq, hv]
    exact h1
  · exact ⟨h2.os.trans hL.1.os, h2.tape.trans hL.1.tape, h2.output.trans hL.1.output, Nat.le_trans hsz h2.size, fun k hk => (h2.block k (by omega) (fun e => by have := (KidsR.lt hkd e.symm).1; omega)).trans (hL.1.block k (by omega))⟩
theorem cells_own2 {P : Nat → Prop} {B size n : Nat} {w : World} {e : TypeId} {v : Value} {cs : List Value} (h : w.ownsRow B e size v n cs) (hP : ∀ g, v.ownBlock = some g → P g) : CellsAt P w n v cs := by
  obtain ⟨h1, h2⟩ := h
  rcases h2 with ⟨rfl, rfl⟩ | ⟨g, cap, cur, rfl, hg, hh, r1, r2, r3, r4⟩
  · exact Or.inl ⟨⟨none, 0, rfl⟩, rfl, by rw [← List.length_eq_zero_iff, h1]; omega⟩
  · refine Or.inr ⟨g, 0, cap, rfl, fun j hj => ⟨hP g rfl, ?_⟩⟩
    have h : w.ownsRow B e size (.slice (some ⟨g, 0, none⟩) n cap) n cs := ⟨h1, Or.inr ⟨g, cap, cur, rfl, hg, hh, r1, r2, r3, r4⟩⟩
    rw [Nat.zero_add, h.cellAt j (by omega), List.getElem?_eq_getElem hj]
/-- An array of a row, in a new object. -/
theorem b_node {P P0 : Nat → Prop} {S : Nat} {w : World} {kv : Value} {ks : List J} {kb vb : Nat} (hk : KidsQ P0 S kv ks w) (h0 : ∀ g, P0 g → P g) (hkv : ∀ g, kv.ownBlock = some g → P g)
    (k1 : w.heap[kb]? = some (.cells #[.string ⟨#[105, 100]⟩] 9 (0, 0))) (k2 : w.heap[vb]? = some (.cells #[.int .i64 6, .int .i64 0, .string ⟨#[]⟩, .slice none 0 0, kv] 25 (0, 0))) (p1 : P kb) (p2 : P vb) :
    NodeAt P w (bJ ks) (.agg #[.int .i64 7, .int .i64 0, .string ⟨#[]⟩, .slice (some ⟨kb, 0, none⟩) 1 1, .slice (some ⟨vb, 0, none⟩) 1 1]) := by
  obtain ⟨cs, h1, h2⟩ := hk
  refine node_new (cells_new k1 p1 rfl) (cells_new k2 p2 rfl) (kids_single (node_new (Or.inl ⟨⟨none, 0, rfl⟩, rfl, rfl⟩) (cells_own2 h1 hkv) (h2.keep (kept_mono (fun g hg => h0 g hg.1)))))
/-- Get where the path leads to numbers in an array. -/
theorem get_nums {n : J} {l : List Int} {x : ByteArray} (h : pointP n x = (arrK (l.map numJ), 0)) (ht : Tame n) (hcn : cnt n ≤ 2000) (w : World) (hE : EnvP w) {c0 c1 c2 c3 c4 : Value} (hN : NodeIn w n (.agg #[c0, c1, c2, c3, c4])) :
    Calls Tryd.prog 10 #[.agg #[c0, c1, c2, c3, c4], .string x] w fun e w' => ∃ a3 m3 a4 m4, e = .returned (.tuple #[.agg #[.int .i64 6, .int .i64 0, .string ⟨#[]⟩, .slice a3 0 m3, .slice a4 l.length m4], .int .i64 0]) ∧ Hid (∀ i, i < l.length → ∃ g o, a4 = some ⟨g, o, none⟩ ∧ g < w'.heap.size ∧ w'.cell? ⟨g, o + i * 5 + 1, none⟩ = some (.int .i64 (l.getD i 0))) ∧ Below w.heap.size w w' := by
  refine (get_is h ht hcn w hE hN).mono ?_
  rintro e w' ⟨a3, m3, a4, m4, h1, h2, h3⟩
  have hl : (arrK (l.map numJ)).kids.length = l.length := List.length_map _
  rw [hl] at h1 h2
  refine ⟨a3, m3, a4, m4, h1, Lib.hid (fun i hi => ?_), h3⟩
  obtain ⟨b3, n3, b4, n4, -, -, -, -, e4, -, hk⟩ := node_parts h2
  injection e4 with e41 e42 e43
  have hi2 : i < (arrK (l.map numJ)).kids.length := by rw [hl]; exact hi
  obtain ⟨g, o, d0, d1, d2, d3, d4, e5, -, s1, -, -, -, hn⟩ := hk i hi2
  obtain ⟨-, -, -, -, -, e6, -⟩ := node_parts hn
  refine ⟨g, o, by rw [e41, e5], World.block_lt_of_cell? w' _ s1, ?_⟩
  have he : (arrK (l.map numJ)).kids[i]'hi2 = numJ (l.getD i 0) := by
    have h9 : (l.map numJ)[i]'(by rw [List.length_map]; exact hi) = numJ (l.getD i 0) := by rw [List.getElem_map, List.getD_eq_getElem?_getD, List.getElem?_eq_getElem hi, Option.getD_some]
    exact h9
  rw [s1, e6, he]
  rfl
end Go.Proofs.YtoofcclcimkipaaDoor.J9
