/-
  The program's reader of JSON: what a value's function leaves; kids that grow. Conditions: the text has at most 65536 bytes.
-/
import Derived.Test.YtpnffmimpkimeaaJ7Cx
import Derived.Test.YtpnffmimpkimeaaJ7Cn
import Derived.Test.YtpnffmimpkimeaaJ7Bx
import Derived.Deep.AppendLies
import Derived.Deep.CutRange
namespace Go.Proofs.Ytpnffmimpkimeaa.J7
open Go Go.RowKit Go.Joins Kit

/-- What a function of the program's reader that reads a value leaves: the value lies in new blocks. -/
def ValLeft (R : Nat) (s : ByteArray) (w : World) (o : Out J) (e' : Ending) (w' : World) : Prop :=
  Step R w w' ∧ match o with
    | .ok (j, r) => ∃ c0 c1 c2 c3 c4, e' = .returned (.agg #[c0, c1, c2, c3, c4]) ∧ NodeAt (fun g => w.heap.size ≤ g) w' j (.agg #[c0, c1, c2, c3, c4]) ∧ ∃ k : Nat, k ≤ s.size ∧ r = tail s k ∧ Rc R s k w'
    | .error c => e' = Errs c
/-- The contract of value within a others, n more to come. -/
def ValOk (s : ByteArray) (n a : Nat) : Prop := ∀ (R i : Nat) (w : World), Rc R s i w → i ≤ s.size →
  Calls Try.prog 22 #[.pointer (some ⟨R, 0, none⟩), .int .i64 (a : Int)] w fun e' w' => ValLeft R s w (valueG numC n (tail s i)) e' w'
theorem infoN : (Try.prog.info? 27).map (fun i => (i.zero, i.size, i.bytes)) = some (some (.agg #[.int .i64 0, .int .i64 0, .string ⟨#[]⟩, .slice none 0 0, .slice none 0 0]), 5, 80) := by kernel_rfl
theorem infoS : (Try.prog.info? 9).map (fun i => (i.zero, i.size, i.bytes)) = some (some (.string ⟨#[]⟩), 1, 16) := by kernel_rfl
theorem own_keep5 {w w' : World} {B size : Nat} {e : TypeId} {v : Value} {n : Nat} {xs : List Value} (h : w.ownsRow B e size v n xs) (hk : ∀ g, v.ownBlock = some g → g < w.heap.size → w'.heap[g]? = w.heap[g]?) : w'.ownsRow B e size v n xs := by
  obtain ⟨h1, h2⟩ := h
  refine ⟨h1, ?_⟩
  rcases h2 with h2 | ⟨g, cap, cur, hv, hg, hh, r⟩
  · exact Or.inl h2
  · exact Or.inr ⟨g, cap, cur, hv, hg, by rw [hk g (by rw [hv]; rfl) (Array.getElem?_eq_some_iff.1 hh).1]; exact hh, r⟩
theorem own_ne {w : World} {B B' size size' : Nat} {e e' : TypeId} {v v' : Value} {n n' : Nat} {xs xs' : List Value} (h : w.ownsRow B e size v n xs) (h' : w.ownsRow B' e' size' v' n' xs') (he : e ≠ e') {g : Nat} (hg : v.ownBlock = some g) : v'.ownBlock ≠ some g := by
  intro hg'
  rcases h.2 with ⟨rfl, _⟩ | ⟨g1, cap, cur, rfl, _, hh, _⟩
  · cases hg
  · rcases h'.2 with ⟨rfl, _⟩ | ⟨g2, cap2, cur2, rfl, _, hh2, _⟩
    · cases hg'
    · simp only [Value.ownBlock, Option.some.injEq] at hg hg'
      subst hg
      subst hg'
      rw [hh] at hh2
      injection hh2 with hh2
      injection hh2 with _ hh2
      exact he hh2
/-- The kids so far: a row of the call's own, from block B on, and what its cells lead to, in other blocks from B on. -/
def Kids (B : Nat) (X : Option Nat) (v : Value) (kids : List J) (w : World) : Prop :=
  ∃ cs, w.ownsRow B 27 5 v kids.length cs ∧ KidsAt (fun g => B ≤ g ∧ v.ownBlock ≠ some g ∧ X ≠ some g) w kids cs
theorem kids_empty (B : Nat) (X : Option Nat) (w : World) : Kids B X (.slice none 0 0) [] w := ⟨[], World.ownsRow_nil _ _ _ _, kids_nil⟩
theorem Kids.same {B : Nat} {X : Option Nat} {v : Value} {kids : List J} {w w' : World} (h : Kids B X v kids w) (hk : ∀ g, B ≤ g → g < w.heap.size → w'.heap[g]? = w.heap[g]?) : Kids B X v kids w' := by
  obtain ⟨cs, h1, h2⟩ := h
  exact ⟨cs, own_keep5 h1 (fun g hg hl => hk g (h1.lt g hg).1 hl), h2.keep (fun g hg hl => ⟨hg, hk g hg.1 hl⟩)⟩
theorem Kids.read {B : Nat} {X : Option Nat} {v : Value} {kids : List J} {w : World} (h : Kids B X v kids w) (P : Nat → Prop) (hP : ∀ g, B ≤ g → P g) : ∃ cs, CellsAt P w kids.length v cs ∧ KidsAt P w kids cs := by
  obtain ⟨cs, h1, h2⟩ := h
  exact ⟨cs, cells_own h1 hP, h2.keep (kept_mono (fun g hg => hP g hg.1))⟩
theorem own_form {w : World} {B size : Nat} {e : TypeId} {v : Value} {n : Nat} {xs : List Value} (h : w.ownsRow B e size v n xs) : ∃ ao cap, v = .slice ao n cap := by
  rcases h.2 with ⟨rfl, h0⟩ | ⟨g, cap, cur, rfl, _⟩
  · exact ⟨none, 0, by rw [h0]⟩
  · exact ⟨_, _, rfl⟩
theorem Kids.form {B : Nat} {X : Option Nat} {v : Value} {kids : List J} {w : World} (h : Kids B X v kids w) : ∃ ao cap, v = .slice ao kids.length cap := by
  obtain ⟨cs, h1, _⟩ := h
  exact own_form h1
theorem cells_one {P : Nat → Prop} {n : Nat} {w : World} {v : Value} {cs : List Value} (h : CellsAt P w n v cs) : v.oneCell' = true := by
  rcases h with ⟨rfl, _⟩ | ⟨g, o, cap, rfl, _⟩ <;> rfl
/-- append of a value, as a step of a region that draws. -/
theorem Kids.step {ops : Array Oper} {o : Oper} {a : Act} {K : Act → World → Prop} {Q : Exit → Act → World → Prop} {E : Prop} (hgd : o.guard = none) (sl x : Operand)
    (ho : o.op = .call { callee := .builtin .append, args := #[sl, x], argTypes := #[25, 25] })
    (B : Nat) (X : Option Nat) (w : World) (v : Value) (kids : List J) (hK : Kids B X v kids w) (j : J) (c0 c1 c2 c3 c4 : Value) (S : Nat) (hn : NodeAt (fun g => S ≤ g) w j (.agg #[c0, c1, c2, c3, c4])) (hB : B ≤ S) (hv : ∀ g, v.ownBlock = some g → g < S) (hX : ∀ g, X = some g → g < S)
    (b cap : Nat) (fr : Nat × Nat) (hblk : w.heap[b]? = some (.cells #[c0, c1, c2, c3, c4] 27 fr)) (hs : a.eval sl = v) (hx : a.eval x = .slice (some ⟨b, 0, none⟩) 1 cap) (hlen : kids.length ≤ 65536) (hsz : B ≤ w.heap.size)
    (h : ∀ g c w', Kids B X (.slice (some ⟨g, 0, none⟩) (kids.length + 1) c) (kids ++ [j]) w' → w.grownBy w' v.ownBlock → (v.ownBlock = some g ∨ g = w.heap.size) → K (a.put o.dst (.slice (some ⟨g, 0, none⟩) (kids.length + 1) c)) w') :
    if Region.wanted o (yielded ops a.tmps) = true then Oper.wp Try.prog o a w K Q else E := by
  obtain ⟨i0, hi, hz0, hz1, hz2⟩ := info_parts infoN
  obtain ⟨cs, hown, hkids⟩ := hK
  refine step_append_lies w hgd sl x 25 ho B 27 i0 _ 5 80 Try.underlying25 hi hz0 hz1 hz2 rfl (by decide) v kids.length cs hs hown ⟨b, 0, none⟩ 1 cap [c0, c1, c2, c3, c4] hx rfl ?_ ?_ (by decide) ?_ ?_ hsz w.heap.size rfl ?_
  · intro k u hk
    exact World.news_of_block hblk k u hk
  · obtain ⟨jk, jn, jt, jkeys, jkids⟩ := j
    rw [NodeAt] at hn
    obtain ⟨kv, vv, e, q1, cs', q2, _⟩ := hn
    injection e with e
    injection e with e
    injection e with e0 e
    injection e with e1 e
    injection e with e2 e
    injection e with e3 e
    injection e with e4 e
    subst e0 e1 e2 e3 e4
    intro u hu
    simp only [List.mem_cons, List.not_mem_nil, or_false] at hu
    rcases hu with rfl | rfl | rfl | rfl | rfl
    · rfl
    · rfl
    · rfl
    · exact cells_one q1
    · exact cells_one q2
  · unfold maxLen; omega
  · omega
  · intro g c w' ho' hg hat _
    refine h g c w' ⟨cs ++ [c0, c1, c2, c3, c4], ?_, kids_snoc ?_ ?_⟩ hg hat
    · rw [List.length_append]; exact ho'
    · refine hn.keep (fun k hk hl => ?_)
      have hk' : S ≤ k := hk
      have q1 : (Value.slice (some ⟨g, 0, none⟩) (kids.length + 1) c).ownBlock ≠ some k := by
        intro e
        have hgk : g = k := by simpa [Value.ownBlock] using e
        subst hgk
        rcases hat with hat | hat
        · have := hv g hat
          omega
        · omega
      have q2 : some k ≠ v.ownBlock := by
        intro e
        have := hv k e.symm
        omega
      exact ⟨⟨Nat.le_trans hB hk, q1, fun e => by have := hX k e; omega⟩, hg.block k hl q2⟩
    · refine hkids.keep (fun k hk hl => ?_)
      have q1 : (Value.slice (some ⟨g, 0, none⟩) (kids.length + 1) c).ownBlock ≠ some k := by
        intro e
        have hgk : g = k := by simpa [Value.ownBlock] using e
        subst hgk
        rcases hat with hat | hat
        · exact hk.2.1 hat
        · omega
      exact ⟨⟨hk.1, q1, hk.2.2⟩, hg.block k hl (fun e => hk.2.1 e.symm)⟩
theorem skip_skip : ∀ l : List UInt8, skipL (skipL l) = skipL l
  | [] => rfl
  | c :: r => by
    by_cases h : blank c = true
    · rw [show skipL (c :: r) = skipL r by rw [skipL, if_pos h]]
      exact skip_skip r
    · rw [show skipL (c :: r) = c :: r by rw [skipL, if_neg h]]
      rw [skipL, if_neg h]
theorem tail_le {s : ByteArray} {k q : Nat} (hk : k ≤ s.size) (hq : q ≤ s.size) (h : tail s k <:+ tail s q) : q ≤ k := by
  have := h.length_le
  rw [tail_length, tail_length] at this
  omega
theorem val_place {s : ByteArray} {n k q : Nat} {j : J} (h : valueG numC n (tail s q) = .ok (j, tail s k)) (hk : k ≤ s.size) (hq : q ≤ s.size) : q ≤ k :=
  tail_le hk hq (valueG_suffix (fun _ _ _ h => (numC_suffix h).1) n _ _ _ h)
theorem items_err {val : List UInt8 → Out J} {f : Nat} {kids : List J} {l : List UInt8} {c : Nat} (h : val l = .error c) (hf : l.length < f) : itemsG val false f [] kids l = .error c := by
  obtain ⟨f, rfl⟩ : ∃ g, f = g + 1 := ⟨f - 1, by omega⟩
  rw [itemsG]
  show (match val l with
    | .error e => (.error e : Out J)
    | .ok (j, l2) => _) = _
  rw [h]
theorem items_ok {val : List UInt8 → Out J} {f : Nat} {kids : List J} {l r : List UInt8} {j : J} (h : val l = .ok (j, r)) : itemsG val false (f + 1) [] kids l = match eatL 93 (skipL r) with
    | some r1 => .ok (listJ false [] (kids ++ [j]), r1)
    | none => match eatL 44 (skipL r) with
      | some r1 => itemsG val false f [] (kids ++ [j]) r1
      | none => .error 3 := by
  rw [itemsG]
  show (match val l with
    | .error e => (.error e : Out J)
    | .ok (j, l2) => _) = _
  rw [h]
  rfl


/-- The kids stay where a row of another type grows, in block X. -/
theorem Kids.beside {B : Nat} {X X' : Option Nat} {v : Value} {kids : List J} {w w' : World} (h : Kids B X v kids w) (hg : w.grownBy w' X) (hne : ∀ g, v.ownBlock = some g → X ≠ some g) (hX : ∀ g, X' = some g → X = some g ∨ g = w.heap.size) : Kids B X' v kids w' := by
  obtain ⟨cs, h1, h2⟩ := h
  refine ⟨cs, own_keep5 h1 (fun g hv hl => hg.block g hl (fun e => hne g hv e.symm)), h2.keep (fun k hk hl => ⟨⟨hk.1, hk.2.1, fun e => ?_⟩, hg.block k hl (fun e => hk.2.2 e.symm)⟩)⟩
  rcases hX k e with e | e
  · exact hk.2.2 e
  · omega
/-- append of a key, as a step of a region that draws. -/
theorem key_step {ops : Array Oper} {o : Oper} {a : Act} {K : Act → World → Prop} {Q : Exit → Act → World → Prop} {E : Prop} (hgd : o.guard = none) (sl x : Operand)
    (ho : o.op = .call { callee := .builtin .append, args := #[sl, x], argTypes := #[24, 24] })
    (B : Nat) (w : World) (v : Value) (keys : List ByteArray) (hown : w.ownsRow B 9 1 v keys.length (strs keys)) (kb : ByteArray)
    (b cap : Nat) (fr : Nat × Nat) (hblk : w.heap[b]? = some (.cells #[.string kb] 9 fr)) (hs : a.eval sl = v) (hx : a.eval x = .slice (some ⟨b, 0, none⟩) 1 cap) (hlen : keys.length ≤ 65536) (hsz : B ≤ w.heap.size)
    (h : ∀ g c w', w'.ownsRow B 9 1 (.slice (some ⟨g, 0, none⟩) (keys.length + 1) c) (keys ++ [kb]).length (strs (keys ++ [kb])) → w.grownBy w' v.ownBlock → (v.ownBlock = some g ∨ g = w.heap.size) → K (a.put o.dst (.slice (some ⟨g, 0, none⟩) (keys.length + 1) c)) w') :
    if Region.wanted o (yielded ops a.tmps) = true then Oper.wp Try.prog o a w K Q else E := by
  obtain ⟨i0, hi, hz0, hz1, hz2⟩ := info_parts infoS
  refine step_append_lies w hgd sl x 24 ho B 9 i0 _ 1 16 Try.underlying24 hi hz0 hz1 hz2 rfl (by decide) v keys.length (strs keys) hs hown ⟨b, 0, none⟩ 1 cap [.string kb] hx rfl ?_ ?_ (by decide) ?_ ?_ hsz w.heap.size rfl ?_
  · intro k u hk
    exact World.news_of_block hblk k u hk
  · intro u hu
    simp only [List.mem_cons, List.not_mem_nil, or_false] at hu
    subst hu
    rfl
  · unfold maxLen; omega
  · omega
  · intro g c w' ho' hg hat _
    refine h g c w' ?_ hg hat
    rw [List.length_append, List.length_singleton]
    unfold strs at ho' ⊢
    rw [List.map_append]
    exact ho'
end Go.Proofs.Ytpnffmimpkimeaa.J7
