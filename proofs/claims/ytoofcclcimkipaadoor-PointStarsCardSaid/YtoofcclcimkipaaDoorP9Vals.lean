/-
  Values that the statements over package point put together: that they are right, how they lie in memory; Get at them. Conditions: as Get's.
-/
import Derived.Test.YtoofcclcimkipaaDoorP9Get
namespace Go.Proofs.YtoofcclcimkipaaDoor.J9
open Go Go.RowKit Go.Joins Kit J7 Nds J8

def numJ (v : Int) : J := .mk 4 v ⟨#[]⟩ [] []
def objK (keys : List ByteArray) (kids : List J) : J := .mk 7 0 ⟨#[]⟩ keys kids
theorem tame_num (v : Int) : Tame (numJ v) := Tame.mk 4 v ⟨#[]⟩ [] [] (by decide) (by decide) (by decide) (fun q hq => absurd hq (Nat.not_lt_zero q)) (fun i hi => absurd hi (Nat.not_lt_zero i))
theorem tame_arrK {ks : List J} (hl : ks.length ≤ 65536) (h : ∀ k ∈ ks, Tame k) : Tame (arrK ks) := Tame.mk 6 0 ⟨#[]⟩ [] ks (by decide) hl (by decide) (fun q hq => absurd hq (Nat.not_lt_zero q)) (fun i hi => h _ (List.getElem_mem hi))
theorem tame_objK {keys : List ByteArray} {ks : List J} (hk : keys.length ≤ 65536) (hz : ∀ k ∈ keys, k.size ≤ 300000) (hl : ks.length ≤ 65536) (h : ∀ k ∈ ks, Tame k) : Tame (objK keys ks) := Tame.mk 7 0 ⟨#[]⟩ keys ks hk hl (by decide) (fun q hq => hz _ (List.getElem_mem hq)) (fun i hi => h _ (List.getElem_mem hi))
theorem valid_nil : U8.validL (⟨#[]⟩ : ByteArray).data.toList = true := by
  first
  | rfl
  | decide
theorem head_num {dd : Nat} {v : Int} (h0 : -9007199254740991 ≤ v) (h1 : v ≤ 9007199254740991) : Head dd 4 v ⟨#[]⟩ 0 0 :=
  ⟨by decide, by decide, fun h => absurd rfl h, h1, h0, fun _ => rfl, valid_nil, fun _ => rfl, fun _ => rfl, fun h => absurd h (by decide), fun h => absurd h (by decide)⟩
theorem head_arr {dd n : Nat} (hd : dd < 24) : Head dd 6 0 ⟨#[]⟩ 0 n :=
  ⟨by decide, by decide, fun _ => rfl, by decide, by decide, fun _ => rfl, valid_nil, fun h => absurd h (by decide), fun _ => rfl, fun h => absurd h (by decide), fun _ => hd⟩
theorem head_obj {dd n m : Nat} (hd : dd < 24) (hl : m = n) : Head dd 7 0 ⟨#[]⟩ m n :=
  ⟨by decide, by decide, fun _ => rfl, by decide, by decide, fun _ => rfl, valid_nil, fun h => absurd h (by decide), fun h => absurd rfl h, fun _ => hl, fun _ => hd⟩
theorem right_num {dd : Nat} {v : Int} (h0 : -9007199254740991 ≤ v) (h1 : v ≤ 9007199254740991) : RightIn dd (numJ v) :=
  RightIn.mk dd _ (head_num h0 h1) (fun i hi => absurd hi (Nat.not_lt_zero i)) (fun q hq => absurd hq (Nat.not_lt_zero q))
theorem right_arrK {dd : Nat} {ks : List J} (hd : dd < 24) (h : ∀ k ∈ ks, RightIn (dd + 1) k) : RightIn dd (arrK ks) :=
  RightIn.mk dd _ (head_arr hd) (fun _ hi => h _ (List.getElem_mem hi)) (fun q hq => absurd hq (Nat.not_lt_zero q))
theorem right_objK {dd : Nat} {keys : List ByteArray} {ks : List J} (hd : dd < 24) (hl : keys.length = ks.length) (hk : KeysFine keys) (h : ∀ k ∈ ks, RightIn (dd + 1) k) : RightIn dd (objK keys ks) :=
  RightIn.mk dd _ (head_obj hd hl) (fun _ hi => h _ (List.getElem_mem hi)) hk
theorem keys_one {k : ByteArray} (h : U8.validL k.data.toList = true) : KeysFine [k] := fun q hq => by
  have h0 : q = 0 := by have : q < 1 := hq; omega
  subst h0
  exact ⟨h, fun y hy => absurd hy (Nat.not_lt_zero y)⟩
theorem follow_key {n : J} {p : ByteArray} {i : Nat} (hf : J8.Found n p i) (l : List ByteArray) : followP num9 (p :: l) n = followP num9 l (n.kids[i]'hf.hv) := by
  rw [followP, if_pos hf.kind, findP_some hf]
theorem follow_nokey {n : J} {p : ByteArray} (h7 : n.kind = 7) (h : ∀ i, ¬ J8.Found n p i) (l : List ByteArray) : followP num9 (p :: l) n = none := by
  rw [followP, if_pos h7, findP_none h]
theorem follow_leaf0 {n : J} {p : ByteArray} (h7 : n.kind ≠ 7) (h6 : n.kind ≠ 6) (l : List ByteArray) : followP num9 (p :: l) n = none := by
  rw [followP, if_neg h7, if_neg h6]

/-! ### In memory -/
theorem cells_block {w : World} {N n cap : Nat} {t : TypeId} {cs : Array Value} {l : List Value} (h : w.heap[N]? = some (.cells cs t (0, 0))) (e : cs.toList = l) : CellsAt (fun _ => True) w n (.slice (some ⟨N, 0, none⟩) n cap) l := by
  subst e
  refine Or.inr ⟨N, 0, cap, rfl, fun j hj => ⟨trivial, ?_⟩⟩
  rw [Lib.cell_of_heap h, Nat.zero_add]
  simp at hj
  simp [hj]
theorem cells_none {w : World} : CellsAt (fun _ => True) w 0 (.slice none 0 0) [] := Or.inl ⟨⟨none, 0, rfl⟩, rfl, rfl⟩
theorem node_made {w : World} {k n : Int} {t : ByteArray} {keys : List ByteArray} {kids : List J} {kv vv : Value} {cs : List Value} (h1 : CellsAt (fun _ => True) w keys.length kv (strs keys)) (h2 : CellsAt (fun _ => True) w kids.length vv cs) (h3 : KidsAt (fun _ => True) w kids cs) :
    NodeAt (fun _ => True) w (.mk k n t keys kids) (.agg #[.int .i64 k, .int .i64 n, .string t, kv, vv]) := by
  rw [NodeAt]
  exact ⟨_, _, rfl, h1, cs, h2, h3⟩
theorem kids_single {P : Nat → Prop} {w : World} {j : J} {c0 c1 c2 c3 c4 : Value} (h : NodeAt P w j (.agg #[c0, c1, c2, c3, c4])) : KidsAt P w [j] [c0, c1, c2, c3, c4] := by
  rw [KidsAt]
  exact ⟨_, _, _, _, _, [], rfl, h, kids_nil⟩
theorem kids_more {P : Nat → Prop} {w : World} {j : J} {r : List J} {c0 c1 c2 c3 c4 : Value} {t : List Value} (h : NodeAt P w j (.agg #[c0, c1, c2, c3, c4])) (k : KidsAt P w r t) : KidsAt P w (j :: r) (c0 :: c1 :: c2 :: c3 :: c4 :: t) := by
  rw [KidsAt]
  exact ⟨_, _, _, _, _, t, rfl, h, k⟩
/-- Three new blocks. -/
theorem three_new (w : World) (K V X : Array Value) (TK TV TX : TypeId) : ∃ W, (((w.alloc (.cells K TK)).alloc (.cells V TV)).alloc (.cells X TX)) = W ∧ Below w.heap.size w W ∧ W.heap.size = w.heap.size + 3 ∧ W.heap[w.heap.size]? = some (.cells K TK (0, 0)) ∧ W.heap[w.heap.size + 1]? = some (.cells V TV (0, 0)) ∧ W.heap[w.heap.size + 2]? = some (.cells X TX (0, 0)) := by
  refine ⟨_, rfl, (((Below.refl _ w).alloc (Nat.le_refl _) _).alloc (by simp) _).alloc (by simp; omega) _, by simp, ?_, ?_, ?_⟩
  · rw [Below.heap_alloc _ _ _ (by simp; omega), Below.heap_alloc _ _ _ (by simp)]
    exact Kit.fresh_block w _ _
  · rw [Below.heap_alloc _ _ _ (by simp)]
    have h := Kit.fresh_block (w.alloc (.cells K TK)) V TV
    simpa using h
  · have h := Kit.fresh_block ((w.alloc (.cells K TK)).alloc (.cells V TV)) X TX
    simpa using h
theorem two_new (w : World) (K V : Array Value) (TK TV : TypeId) : ∃ W, ((w.alloc (.cells K TK)).alloc (.cells V TV)) = W ∧ Below w.heap.size w W ∧ W.heap.size = w.heap.size + 2 ∧ W.heap[w.heap.size]? = some (.cells K TK (0, 0)) ∧ W.heap[w.heap.size + 1]? = some (.cells V TV (0, 0)) := by
  refine ⟨_, rfl, ((Below.refl _ w).alloc (Nat.le_refl _) _).alloc (by simp) _, by simp, ?_, ?_⟩
  · rw [Below.heap_alloc _ _ _ (by simp)]
    exact Kit.fresh_block w _ _
  · have h := Kit.fresh_block (w.alloc (.cells K TK)) V TV
    simpa using h
theorem at_below {w w' : World} {j : J} {v : Value} (h : NodeAt (fun _ => True) w j v) (hb : Below w.heap.size w w') : NodeAt (fun _ => True) w' j v := h.keep (kept_below hb)
theorem num_at (w : World) (v : Int) : NodeAt (fun _ => True) w (numJ v) (.agg #[.int .i64 4, .int .i64 v, .string ⟨#[]⟩, .slice none 0 0, .slice none 0 0]) := node_plain _ w 4 v ⟨#[]⟩

set_option maxHeartbeats 1000000 in
set_option maxRecDepth 100000 in
theorem num9c (v : Int) (w : World) :
    Calls Tryd.prog 17 #[.int .i64 v] w fun e w' => e = .returned (.agg #[.int .i64 4, .int .i64 v, .string ⟨#[]⟩, .slice none 0 0, .slice none 0 0]) ∧ Below w.heap.size w w' := by
  have hb : Below w.heap.size w (w.alloc (.cells #[.int .i64 4, .int .i64 v, .string ⟨#[]⟩, .slice none 0 0, .slice none 0 0] 25)) := (Below.refl _ w).alloc (Nat.le_refl _) _
  have hx : Bx w.heap.size (.int .i64 4) (.int .i64 v) (.string ⟨#[]⟩) (.slice none 0 0) (.slice none 0 0) (w.alloc (.cells #[.int .i64 4, .int .i64 v, .string ⟨#[]⟩, .slice none 0 0, .slice none 0 0] 25)) := Bx.made w _ _ _ _ _
  have HB := Lib.hid hb
  have HX := Lib.hid hx
  clear hb hx
  go_enter Tryd.func17, Tryd.ntmps17
  go_wp2_with fail
  refine bodyPost_ret (node_result rfl _ rfl HX.out) rfl ?_
  exact ⟨rfl, HB.out⟩
/-- Get where it is known what the path leads to. -/
theorem get_is {n y : J} {c : Int} {x : ByteArray} (h : pointP n x = (y, c)) (ht : Tame n) (hcn : cnt n ≤ 2000) (w : World) (hE : EnvP w) {c0 c1 c2 c3 c4 : Value} (hN : NodeIn w n (.agg #[c0, c1, c2, c3, c4])) :
    Calls Tryd.prog 10 #[.agg #[c0, c1, c2, c3, c4], .string x] w fun e w' => ∃ a3 m3 a4 m4, e = .returned (.tuple #[.agg #[.int .i64 y.kind, .int .i64 y.num, .string y.text, .slice a3 y.keys.length m3, .slice a4 y.kids.length m4], .int .i64 c]) ∧ NodeIn w' y (.agg #[.int .i64 y.kind, .int .i64 y.num, .string y.text, .slice a3 y.keys.length m3, .slice a4 y.kids.length m4]) ∧ Below w.heap.size w w' := by
  refine (get9 n ht hcn x w hE _ _ _ _ _ hN).mono ?_
  rintro e w' ⟨d0, d1, d2, d3, d4, h1, h2, h3⟩
  rw [h] at h1 h2
  obtain ⟨a3, m3, a4, m4, e0, e1, e2, e3, e4, _⟩ := node_parts h2
  simp only at h1 h2 e0 e1 e2 e3 e4
  subst e0 e1 e2 e3 e4
  exact ⟨a3, m3, a4, m4, h1, h2, h3⟩
/-- Get where what the path leads to is of no texts, keys, kids. -/
theorem get_shape {n : J} {k v c : Int} {x : ByteArray} (h : pointP n x = (.mk k v ⟨#[]⟩ [] [], c)) (ht : Tame n) (hcn : cnt n ≤ 2000) (w : World) (hE : EnvP w) {c0 c1 c2 c3 c4 : Value} (hN : NodeIn w n (.agg #[c0, c1, c2, c3, c4])) :
    Calls Tryd.prog 10 #[.agg #[c0, c1, c2, c3, c4], .string x] w fun e w' => ∃ a3 m3 a4 m4, e = .returned (.tuple #[.agg #[.int .i64 k, .int .i64 v, .string ⟨#[]⟩, .slice a3 0 m3, .slice a4 0 m4], .int .i64 c]) ∧ Below w.heap.size w w' := by
  refine (get_is h ht hcn w hE hN).mono ?_
  rintro e w' ⟨a3, m3, a4, m4, h1, _, h3⟩
  exact ⟨a3, m3, a4, m4, h1, h3⟩
end Go.Proofs.YtoofcclcimkipaaDoor.J9
