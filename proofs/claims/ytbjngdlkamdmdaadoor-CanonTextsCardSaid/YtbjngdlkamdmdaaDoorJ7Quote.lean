/-
  The document's answer for package canon, as the statements have it: a text in JSON is put behind bytes. Conditions: what it holds has at most 2^47 bytes.
-/
import Derived.Test.YtbjngdlkamdmdaaDoorJ7Cells
import Derived.Test.YtbjngdlkamdmdaaDoorJ7Bx
import Derived.Test.YtbjngdlkamdmdaaDoorBldK
import Derived.Deep.AppendLies
import Derived.IntWalk
namespace Go.Proofs.YtbjngdlkamdmdaaDoor.J7
open Go Go.RowKit Go.Joins Kit

/-- What turns while a slice grows: its own row, and what is new. -/
structure Gb (w w' : World) (v v' : Value) : Prop where
  os : w'.os = w.os
  tape : w'.tape = w.tape
  output : w'.output = w.output
  size : w.heap.size ≤ w'.heap.size
  block : ∀ k, k < w.heap.size → v.ownBlock ≠ some k → w'.heap[k]? = w.heap[k]?
  own : ∀ g, v'.ownBlock = some g → v.ownBlock = some g ∨ w.heap.size ≤ g
theorem Gb.refl (w : World) (v : Value) : Gb w w v v := ⟨rfl, rfl, rfl, Nat.le_refl _, fun _ _ _ => rfl, fun _ h => Or.inl h⟩
theorem Gb.trans {a b c : World} {v v' v'' : Value} (h : Gb a b v v') (k : Gb b c v' v'') : Gb a c v v'' :=
  ⟨k.os.trans h.os, k.tape.trans h.tape, k.output.trans h.output, Nat.le_trans h.size k.size,
    fun i hi hn => (k.block i (Nat.lt_of_lt_of_le hi h.size) (fun e => by rcases h.own i e with e' | e'; exact hn e'; omega)).trans (h.block i hi hn),
    fun g e => by rcases k.own g e with e' | e'; exact h.own g e'; exact Or.inr (Nat.le_trans h.size e')⟩
theorem Gb.below {a b c : World} {v v' : Value} (h : Gb a b v v') (hb : Below b.heap.size b c) : Gb a c v v' :=
  ⟨hb.os.trans h.os, hb.tape.trans h.tape, hb.output.trans h.output, Nat.le_trans h.size hb.size, fun i hi hn => (hb.block i (Nat.lt_of_lt_of_le hi h.size)).trans (h.block i hi hn), h.own⟩
theorem Gb.after {a b c : World} {v v' : Value} (hb : Below a.heap.size a b) (h : Gb b c v v') : Gb a c v v' :=
  ⟨h.os.trans hb.os, h.tape.trans hb.tape, h.output.trans hb.output, Nat.le_trans hb.size h.size, fun i hi hn => (h.block i (Nat.lt_of_lt_of_le hi hb.size) hn).trans (hb.block i hi),
    fun g e => by rcases h.own g e with e' | e'; exact Or.inl e'; exact Or.inr (Nat.le_trans hb.size e')⟩
/-- Bytes that the call owns, in blocks from B on. -/
structure OwnB (B : Nat) (v : Value) (l : List UInt8) (w : World) : Prop where
  own : w.ownsRow B 5 1 v l.length (Lib.byteCells l)
  base : B ≤ w.heap.size
theorem OwnB.empty {B : Nat} {w : World} (h : B ≤ w.heap.size) : OwnB B (.slice none 0 0) [] w := ⟨⟨by decide, Or.inl ⟨rfl, rfl⟩⟩, h⟩
theorem OwnB.below {B : Nat} {v : Value} {l : List UInt8} {w w' : World} (h : OwnB B v l w) (hb : Below w.heap.size w w') : OwnB B v l w' := ⟨Kit.ownsRow_below h.own hb, Nat.le_trans h.base hb.size⟩
theorem OwnB.lt {B : Nat} {v : Value} {l : List UInt8} {w : World} (h : OwnB B v l w) {g : Nat} (hg : v.ownBlock = some g) : B ≤ g ∧ g < w.heap.size := h.own.lt g hg
theorem OwnB.form {B : Nat} {v : Value} {l : List UInt8} {w : World} (h : OwnB B v l w) : ∃ a cap, v = .slice a l.length cap := by
  rcases h.own.2 with ⟨rfl, h0⟩ | ⟨g, cap, cur, rfl, _⟩
  · exact ⟨none, 0, by rw [h0]⟩
  · exact ⟨_, _, rfl⟩
theorem OwnB.string {B : Nat} {v : Value} {l : List UInt8} {w : World} (h : OwnB B v l w) : (convert 40 9 v).run Tryd.prog w = .ok (.string ⟨l.toArray⟩) w := Kit.run_row l l.length v w B h.own
theorem Gb.of_grown {w W w' : World} {v : Value} {g n c : Nat} (hW : Below w.heap.size w W) (hg : W.grownBy w' v.ownBlock) (hat : v.ownBlock = some g ∨ g = W.heap.size) : Gb w w' v (.slice (some ⟨g, 0, none⟩) n c) :=
  ⟨hg.os.trans hW.os, hg.tape.trans hW.tape, hg.output.trans hW.output, Nat.le_trans hW.size hg.size, fun k hk hn => (hg.block k (Nat.lt_of_lt_of_le hk hW.size) (fun e => hn e.symm)).trans (hW.block k hk),
    fun x hx => by
      have hgx : g = x := by simpa [Value.ownBlock] using hx
      subst hgx
      rcases hat with e | e
      · exact Or.inl e
      · exact Or.inr (by rw [e]; exact hW.size)⟩
/-- append of some bytes. -/
theorem app_lit {ops : Array Oper} {rest : List Oper} {o : Oper} {a : Act} {Q : Exit → Act → World → Prop} (hgd : o.guard = none) (sl x : Operand)
    (ho : o.op = .call { callee := .builtin .append, args := #[sl, x], argTypes := #[40, 40] })
    (B : Nat) (w : World) (v : Value) (l : List UInt8) (h : OwnB B v l w) (cs : Array Value) (ns : List UInt8) (m cap : Nat) (hm : ns.length = m) (hm0 : 0 < m) (hcs : cs.toList = Lib.byteCells ns) (hs : a.eval sl = v) (hx : a.eval x = .slice (some ⟨w.heap.size, 0, none⟩) m cap)
    (hlen : l.length + m ≤ 140737488355328) (k : ∀ v' w', OwnB B v' (l ++ ns) w' → Gb w w' v v' → wpList Tryd.prog ops Q rest (a.put o.dst v') w') : wpList Tryd.prog ops Q (o :: rest) a (w.alloc (.cells cs 5)) := by
  obtain ⟨i0, hi, hz0, hz1, hz2⟩ := info_parts Kit.info5
  subst hm
  refine wpList_append_lies (w.alloc (.cells cs 5)) hgd sl x 40 ho B 5 i0 (.int .u8 0) 1 1 Tryd.underlying40 hi hz0 hz1 hz2 rfl (by decide) v l.length _ hs (h.own.alloc _) ⟨w.heap.size, 0, none⟩ ns.length cap (Lib.byteCells ns) hx ?_ ?_ ?_ hm0 ?_ ?_ ?_ (w.alloc (.cells cs 5)).heap.size rfl ?_
  · rw [Lib.byteCells_length, Nat.mul_one]
  · intro j u hj
    exact World.news_of_block (Kit.fresh_block w cs 5) j u (by rw [hcs]; exact hj)
  · intro u hu
    unfold Lib.byteCells at hu
    obtain ⟨c, _, rfl⟩ := List.mem_map.1 hu
    rfl
  · unfold maxLen; omega
  · omega
  · have := h.base; simp; omega
  · intro g c w' ho' hg hat _
    refine k _ _ ⟨?_, ?_⟩ (Gb.of_grown ((Below.refl _ w).alloc (Nat.le_refl _) _) hg hat)
    · rw [List.length_append, Lib.byteCells_append]
      exact ho'
    · have := h.base; have := hg.size; simp at this; omega
/-- .. as a step of a region that draws. -/
theorem step_lit {ops : Array Oper} {o : Oper} {a : Act} {K : Act → World → Prop} {Q : Exit → Act → World → Prop} {E : Prop} (hgd : o.guard = none) (sl x : Operand)
    (ho : o.op = .call { callee := .builtin .append, args := #[sl, x], argTypes := #[40, 40] })
    (B : Nat) (w W : World) (v : Value) (l : List UInt8) (h : OwnB B v l W) (hW : Below w.heap.size w W) (cs : Array Value) (ns : List UInt8) (m cap b : Nat) (hm : ns.length = m) (hm0 : 0 < m) (hcs : cs.toList = Lib.byteCells ns) (hblk : W.heap[b]? = some (.cells cs 5 (0, 0))) (hs : a.eval sl = v) (hx : a.eval x = .slice (some ⟨b, 0, none⟩) m cap)
    (hlen : l.length + m ≤ 140737488355328) (k : ∀ g c w', OwnB B (.slice (some ⟨g, 0, none⟩) (l.length + m) c) (l ++ ns) w' → Gb w w' v (.slice (some ⟨g, 0, none⟩) (l.length + m) c) → K (a.put o.dst (.slice (some ⟨g, 0, none⟩) (l.length + m) c)) w') :
    if Region.wanted o (yielded ops a.tmps) = true then Oper.wp Tryd.prog o a W K Q else E := by
  obtain ⟨i0, hi, hz0, hz1, hz2⟩ := info_parts Kit.info5
  subst hm
  refine step_append_lies W hgd sl x 40 ho B 5 i0 (.int .u8 0) 1 1 Tryd.underlying40 hi hz0 hz1 hz2 rfl (by decide) v l.length _ hs h.own ⟨b, 0, none⟩ ns.length cap (Lib.byteCells ns) hx ?_ ?_ ?_ hm0 ?_ ?_ h.base W.heap.size rfl ?_
  · rw [Lib.byteCells_length, Nat.mul_one]
  · intro j u hj
    exact World.news_of_block hblk j u (by rw [hcs]; exact hj)
  · intro u hu
    unfold Lib.byteCells at hu
    obtain ⟨c, _, rfl⟩ := List.mem_map.1 hu
    rfl
  · unfold maxLen; omega
  · omega
  · intro g c w' ho' hg hat _
    refine k g c w' ⟨?_, Nat.le_trans h.base hg.size⟩ (Gb.of_grown hW hg hat)
    rw [List.length_append, Lib.byteCells_append]
    exact ho'
/-- append of a text. -/
theorem app_str {ops : Array Oper} {rest : List Oper} {o : Oper} {a : Act} {Q : Exit → Act → World → Prop} (hgd : o.guard = none) (sl x : Operand)
    (ho : o.op = .call { callee := .builtin .append, args := #[sl, x], argTypes := #[40, 9] })
    (B : Nat) (w : World) (v : Value) (l : List UInt8) (h : OwnB B v l w) (t : ByteArray) (hs : a.eval sl = v) (hx : a.eval x = .string t)
    (hlen : l.length + t.size ≤ 140737488355328) (k : ∀ v' w', OwnB B v' (l ++ t.data.toList) w' → Gb w w' v v' → wpList Tryd.prog ops Q rest (a.put o.dst v') w') : wpList Tryd.prog ops Q (o :: rest) a w := by
  obtain ⟨i0, hi, hz0, hz1, hz2⟩ := info_parts Kit.info5
  refine Bld.wpList_text_lies w hgd sl x 40 9 ho B 5 i0 Tryd.underlying40 Tryd.underlying9 hi hz0 hz1 hz2 v l.length _ hs h.own t hx ?_ ?_ h.base ?_
  · unfold maxLen; omega
  · omega
  · intro v' w' ho' hg hat
    refine k v' w' ⟨?_, Nat.le_trans h.base hg.size⟩ ⟨hg.os, hg.tape, hg.output, hg.size, fun i hi hn => hg.block i hi (fun e => hn e.symm), hat⟩
    rw [List.length_append, ← Lib.size_eq, ← Bld.str_cells]
    exact ho'

/-! ### A text in JSON -/
def lowT : ByteArray := ⟨#[48, 49, 50, 51, 52, 53, 54, 55, 56, 57, 97, 98, 99, 100, 101, 102]⟩
def dgS (k : Nat) : UInt8 := lowT.data.toList.getD k 0
theorem lowlt (k : Int) (_ : 0 ≤ k) (h1 : k < 16) : k.toNat < lowT.size := by show _ < 16; omega
theorem lowget (k : Int) (h0 : 0 ≤ k) (h1 : k < 16) : lowT[k.toNat]'(lowlt k h0 h1) = dgS k.toNat := by
  unfold dgS
  rw [List.getD_eq_getElem?_getD, List.getElem?_eq_getElem (by rw [← Lib.size_eq]; exact lowlt k h0 h1), Option.getD_some, byte_get lowT k.toNat (lowlt k h0 h1)]
/-- What a byte of a text is in JSON. -/
def qB (c : UInt8) : List UInt8 :=
  if c = 34 ∨ c = 92 then [92, c] else if c = 8 then [92, 98] else if c = 9 then [92, 116] else if c = 10 then [92, 110] else if c = 12 then [92, 102] else if c = 13 then [92, 114]
  else if c.toNat < 32 then [92, 117, 48, 48] ++ [dgS (c.toNat / 16), dgS (c.toNat % 16)] else [c]
def qL (l : List UInt8) : List UInt8 := l.flatMap qB
def quoteL (l : List UInt8) : List UInt8 := 34 :: (qL l ++ [34])
theorem qL_next (s : ByteArray) (k : Nat) (h : k < s.size) : qL (s.data.toList.take k) ++ qB s[k] = qL (s.data.toList.take (k + 1)) := by
  have hl : k < s.data.toList.length := by rw [← Lib.size_eq]; exact h
  rw [List.take_succ_eq_append_getElem hl, byte_get s k h]
  unfold qL
  rw [List.flatMap_append, List.flatMap_cons, List.flatMap_nil, List.append_nil]
theorem qB_cases (c : UInt8) : (c = 34 ∧ qB c = [92, 34]) ∨ (c = 92 ∧ qB c = [92, 92]) ∨ (c = 8 ∧ qB c = [92, 98]) ∨ (c = 9 ∧ qB c = [92, 116]) ∨ (c = 10 ∧ qB c = [92, 110]) ∨ (c = 12 ∧ qB c = [92, 102]) ∨ (c = 13 ∧ qB c = [92, 114]) ∨
    ((c ≠ 34 ∧ c ≠ 92 ∧ c ≠ 8 ∧ c ≠ 9 ∧ c ≠ 10 ∧ c ≠ 12 ∧ c ≠ 13) ∧ c.toNat < 32 ∧ qB c = [92, 117, 48, 48] ++ [dgS (c.toNat / 16), dgS (c.toNat % 16)]) ∨
    ((c ≠ 34 ∧ c ≠ 92 ∧ c ≠ 8 ∧ c ≠ 9 ∧ c ≠ 10 ∧ c ≠ 12 ∧ c ≠ 13) ∧ ¬ c.toNat < 32 ∧ qB c = [c]) := by
  by_cases h1 : c = 34
  · subst h1; exact Or.inl ⟨rfl, rfl⟩
  by_cases h2 : c = 92
  · subst h2; exact Or.inr (Or.inl ⟨rfl, rfl⟩)
  by_cases h3 : c = 8
  · subst h3; exact Or.inr (Or.inr (Or.inl ⟨rfl, rfl⟩))
  by_cases h4 : c = 9
  · subst h4; exact Or.inr (Or.inr (Or.inr (Or.inl ⟨rfl, rfl⟩)))
  by_cases h5 : c = 10
  · subst h5; exact Or.inr (Or.inr (Or.inr (Or.inr (Or.inl ⟨rfl, rfl⟩))))
  by_cases h6 : c = 12
  · subst h6; exact Or.inr (Or.inr (Or.inr (Or.inr (Or.inr (Or.inl ⟨rfl, rfl⟩)))))
  by_cases h7 : c = 13
  · subst h7; exact Or.inr (Or.inr (Or.inr (Or.inr (Or.inr (Or.inr (Or.inl ⟨rfl, rfl⟩))))))
  have hb : qB c = if c.toNat < 32 then [92, 117, 48, 48] ++ [dgS (c.toNat / 16), dgS (c.toNat % 16)] else [c] := by unfold qB; simp [h1, h2, h3, h4, h5, h6, h7]
  by_cases h8 : c.toNat < 32
  · rw [if_pos h8] at hb
    exact Or.inr (Or.inr (Or.inr (Or.inr (Or.inr (Or.inr (Or.inr (Or.inl ⟨⟨h1, h2, h3, h4, h5, h6, h7⟩, h8, hb⟩)))))))
  · rw [if_neg h8] at hb
    exact Or.inr (Or.inr (Or.inr (Or.inr (Or.inr (Or.inr (Or.inr (Or.inr ⟨⟨h1, h2, h3, h4, h5, h6, h7⟩, h8, hb⟩)))))))

theorem qB_len (c : UInt8) : (qB c).length ≤ 6 := by
  rcases qB_cases c with ⟨_, e⟩ | ⟨_, e⟩ | ⟨_, e⟩ | ⟨_, e⟩ | ⟨_, e⟩ | ⟨_, e⟩ | ⟨_, e⟩ | ⟨_, _, e⟩ | ⟨_, _, e⟩
  all_goals
    rw [e]
    simp
theorem qL_len : ∀ l : List UInt8, (qL l).length ≤ 6 * l.length
  | [] => by simp [qL]
  | c :: r => by
    have h1 := qB_len c
    have h2 := qL_len r
    unfold qL at h2 ⊢
    rw [List.flatMap_cons, List.length_append, List.length_cons]
    omega
set_option maxHeartbeats 8000000 in
set_option maxRecDepth 100000 in
theorem quote_any (B : Nat) (l : List UInt8) (v : Value) (s : ByteArray) (w : World) (h : OwnB B v l w) (hlen : l.length + 6 * s.size ≤ 140737488350000) :
    Calls Tryd.prog 41 #[v, .string s] w fun e' w' => ∃ v', e' = .returned v' ∧ OwnB B v' (l ++ quoteL s.data.toList) w' ∧ Gb w w' v v' := by
  have HLEN := Lib.hid hlen
  have hsz : (s.size : Int) ≤ 140737488350000 := by omega
  have HB := Lib.hid (fun k => Nat.le_trans (qL_len (s.data.toList.take k)) (show 6 * (s.data.toList.take k).length ≤ 6 * s.size by rw [List.length_take, ← Lib.size_eq]; omega))
  clear hlen
  go_enter Tryd.func41, Tryd.ntmps41
  go_wp2_with (at_builtin; refine app_lit rfl _ _ rfl B w _ l h _ [34] 1 1 rfl (by decide) rfl rfl rfl ?c1 ?_)
  case c1 => have := HLEN.out; omega
  intro v1 w1 h1 g1
  go_wp2_with fail
  go_loopg [0, 5, 6] s.size (fun m va vi _ wr => ∃ k : Nat, m = s.size - k ∧ vi = .int .i64 k ∧ k ≤ s.size ∧ OwnB B va (l ++ [34] ++ qL (s.data.toList.take k)) wr ∧ Gb w wr v va)
  case atStart => exact ⟨0, rfl, rfl, Nat.zero_le _, by rw [show qL (s.data.toList.take 0) = [] from rfl, List.append_nil]; exact h1, g1⟩
  case round =>
    clear h1 g1
    obtain ⟨k, rfl, rfl, hk, ho, hg⟩ := hrel
    have hb9 := HB.out k
    have hl9 := HLEN.out
    obtain ⟨L, hL⟩ : ∃ L, l ++ [34] ++ qL (s.data.toList.take k) = L := ⟨_, rfl⟩
    have hLl : L.length ≤ 140737488350001 := by rw [← hL, List.length_append, List.length_append, List.length_singleton]; omega
    rw [hL] at ho
    have HL := Lib.hid hL
    have HLl := Lib.hid hLl
    clear hL hLl hb9 hl9
    by_cases hlt : k < s.size
    · have gk : (k : Int) < s.size := by omega
      have HN := Lib.hid (qL_next s k hlt)
      have hc8 := s[k].toNat_lt
      obtain ⟨c, hc⟩ : ∃ c, s[k] = c := ⟨_, rfl⟩
      have hcn : (s[k].toNat : Int) = (c.toNat : Int) := by rw [hc]
      have HN2 : Hid (∀ ns, qB c = ns → L ++ ns = l ++ [34] ++ qL (s.data.toList.take (k + 1))) := by
        show ∀ ns, qB c = ns → _
        rintro ns rfl
        rw [← HN.out, hc, ← HL.out, List.append_assoc]
      rw [hc] at hc8
      clear HN hc
      rcases qB_cases c with ⟨rfl, e⟩ | ⟨rfl, e⟩ | ⟨rfl, e⟩ | ⟨rfl, e⟩ | ⟨rfl, e⟩ | ⟨rfl, e⟩ | ⟨rfl, e⟩ | ⟨⟨n1, n2, n3, n4, n5, n6, n7⟩, n8, e⟩ | ⟨⟨n1, n2, n3, n4, n5, n6, n7⟩, n8, e⟩
      · go_wp2_with (at_builtin; refine app_lit rfl _ _ rfl B wr _ L ho _ [92, 34] 2 2 rfl (by decide) rfl rfl rfl ?c1 ?_)
        case c1 => have := HLl.out; omega
        intro v2 w2 h2 g2
        rw [HN2.out _ e] at h2
        go_wp2_with fail
        go_roundg (s.size - (k + 1))
        case measure => omega
        case rel => exact ⟨k + 1, rfl, by go_num, by omega, h2, hg.trans g2⟩
      · go_wp2_with (at_builtin; refine app_lit rfl _ _ rfl B wr _ L ho _ [92, 92] 2 2 rfl (by decide) rfl rfl rfl ?c1 ?_)
        case c1 => have := HLl.out; omega
        intro v2 w2 h2 g2
        rw [HN2.out _ e] at h2
        go_wp2_with fail
        go_roundg (s.size - (k + 1))
        case measure => omega
        case rel => exact ⟨k + 1, rfl, by go_num, by omega, h2, hg.trans g2⟩
      · go_wp2_with (at_builtin; refine app_str rfl _ _ rfl B wr _ L ho ⟨#[92, 98]⟩ rfl rfl ?c1 ?_)
        case c1 => have := HLl.out; show _ + 2 ≤ _; omega
        intro v2 w2 h2 g2
        rw [HN2.out _ e] at h2
        go_wp2_with fail
        go_roundg (s.size - (k + 1))
        case measure => omega
        case rel => exact ⟨k + 1, rfl, by go_num, by omega, h2, hg.trans g2⟩
      · go_wp2_with (at_builtin; refine app_str rfl _ _ rfl B wr _ L ho ⟨#[92, 116]⟩ rfl rfl ?c1 ?_)
        case c1 => have := HLl.out; show _ + 2 ≤ _; omega
        intro v2 w2 h2 g2
        rw [HN2.out _ e] at h2
        go_wp2_with fail
        go_roundg (s.size - (k + 1))
        case measure => omega
        case rel => exact ⟨k + 1, rfl, by go_num, by omega, h2, hg.trans g2⟩
      · go_wp2_with (at_builtin; refine app_str rfl _ _ rfl B wr _ L ho ⟨#[92, 110]⟩ rfl rfl ?c1 ?_)
        case c1 => have := HLl.out; show _ + 2 ≤ _; omega
        intro v2 w2 h2 g2
        rw [HN2.out _ e] at h2
        go_wp2_with fail
        go_roundg (s.size - (k + 1))
        case measure => omega
        case rel => exact ⟨k + 1, rfl, by go_num, by omega, h2, hg.trans g2⟩
      · go_wp2_with (at_builtin; refine app_str rfl _ _ rfl B wr _ L ho ⟨#[92, 102]⟩ rfl rfl ?c1 ?_)
        case c1 => have := HLl.out; show _ + 2 ≤ _; omega
        intro v2 w2 h2 g2
        rw [HN2.out _ e] at h2
        go_wp2_with fail
        go_roundg (s.size - (k + 1))
        case measure => omega
        case rel => exact ⟨k + 1, rfl, by go_num, by omega, h2, hg.trans g2⟩
      · go_wp2_with (at_builtin; refine app_str rfl _ _ rfl B wr _ L ho ⟨#[92, 114]⟩ rfl rfl ?c1 ?_)
        case c1 => have := HLl.out; show _ + 2 ≤ _; omega
        intro v2 w2 h2 g2
        rw [HN2.out _ e] at h2
        go_wp2_with fail
        go_roundg (s.size - (k + 1))
        case measure => omega
        case rel => exact ⟨k + 1, rfl, by go_num, by omega, h2, hg.trans g2⟩
      · have g8 : (c.toNat : Int) < 32 := by omega
        have q1 : ((c.toNat : Int) == 34) = false := by rw [beq_eq_false_iff_ne]; exact fun e => n1 (byte_eq e)
        have q2 : ((c.toNat : Int) == 92) = false := by rw [beq_eq_false_iff_ne]; exact fun e => n2 (byte_eq e)
        have q3 : ((c.toNat : Int) == 8) = false := by rw [beq_eq_false_iff_ne]; exact fun e => n3 (byte_eq e)
        have q4 : ((c.toNat : Int) == 9) = false := by rw [beq_eq_false_iff_ne]; exact fun e => n4 (byte_eq e)
        have q5 : ((c.toNat : Int) == 10) = false := by rw [beq_eq_false_iff_ne]; exact fun e => n5 (byte_eq e)
        have q6 : ((c.toNat : Int) == 12) = false := by rw [beq_eq_false_iff_ne]; exact fun e => n6 (byte_eq e)
        have q7 : ((c.toNat : Int) == 13) = false := by rw [beq_eq_false_iff_ne]; exact fun e => n7 (byte_eq e)
        have b1 : 0 ≤ (c.toNat : Int) / 16 := by omega
        have d1 : (c.toNat : Int) / 16 < 16 := by omega
        have b2 : 0 ≤ (c.toNat : Int) % 16 := by omega
        have d2 : (c.toNat : Int) % 16 < 16 := by omega
        have eq : IntKind.u8.wrap ((c.toNat : Int) / 16) = (c.toNat : Int) / 16 := IntWalk.u8_in _ (by omega)
        have er : (c.toNat : Int).tmod 16 = (c.toNat : Int) % 16 := Int.tmod_eq_emod_of_nonneg (by omega)
        have er' : IntKind.u8.wrap ((c.toNat : Int) % 16) = (c.toNat : Int) % 16 := IntWalk.u8_in _ (by omega)
        have HCS : Hid ((#[Value.int IntKind.u8 ((((ByteArray.mk #[48, 49, 50, 51, 52, 53, 54, 55, 56, 57, 97, 98, 99, 100, 101, 102])[((c.toNat : Int) / 16).toNat]'(lowlt _ b1 d1)).toNat : Nat) : Int), Value.int IntKind.u8 ((((ByteArray.mk #[48, 49, 50, 51, 52, 53, 54, 55, 56, 57, 97, 98, 99, 100, 101, 102])[((c.toNat : Int) % 16).toNat]'(lowlt _ b2 d2)).toNat : Nat) : Int)] : Array Value).toList = Lib.byteCells [dgS (c.toNat / 16), dgS (c.toNat % 16)]) := by
          show _ = _
          have e1 := (lowget _ b1 d1).trans (congrArg dgS (show ((c.toNat : Int) / 16).toNat = c.toNat / 16 by omega))
          have e2 := (lowget _ b2 d2).trans (congrArg dgS (show ((c.toNat : Int) % 16).toNat = c.toNat % 16 by omega))
          show [_, _] = [_, _]
          rw [← e1, ← e2]
          rfl
        clear n1 n2 n3 n4 n5 n6 n7 n8
        go_wp2_with (at_builtin; refine app_str rfl _ _ rfl B wr _ L ho ⟨#[92, 117, 48, 48]⟩ rfl rfl ?c1 ?_)
        case c1 => have := HLl.out; have e4 : (ByteArray.mk #[92, 117, 48, 48]).size = 4 := rfl; omega
        intro v2 w2 h2 g2
        go_wp2_with fail
        refine wp_region_any (by kernel_rfl) ?_
        try (change wpAny _ _ _ _ _ _ _ (World.drew _))
        refine wpAny_take (i := 0) (v := ?_) rfl (by kernel_rfl) (by kernel_rfl) (by kernel_rfl) (fun _ _ _ h => h) (Or.inl ⟨by rfl, ?_⟩) ?_
        rotate_left 1
        · (intro w; go_simp) <;> with_reducible rfl
        refine wpAny_take (i := 1) (v := ?_) rfl (by kernel_rfl) (by kernel_rfl) (by kernel_rfl) (fun _ _ _ h => h) (Or.inl ⟨by rfl, ?_⟩) ?_
        rotate_left 1
        · (intro w; go_simp) <;> with_reducible rfl
        refine wpAny_take (i := 2) (v := ?_) rfl (by kernel_rfl) (by kernel_rfl) (by kernel_rfl) (fun _ _ _ h => h) (Or.inl ⟨by rfl, ?_⟩) ?_
        rotate_left 1
        · (intro w; go_simp) <;> with_reducible rfl
        refine wpAny_take (i := 3) (v := ?_) rfl (by kernel_rfl) (by kernel_rfl) (by kernel_rfl) (fun _ _ _ h => h) (Or.inl ⟨by rfl, ?_⟩) ?_
        rotate_left 1
        · (intro w; go_simp) <;> with_reducible rfl
        refine wpAny_take (i := 4) (v := ?_) rfl (by kernel_rfl) (by kernel_rfl) (by kernel_rfl) (fun _ _ _ h => h) (Or.inl ⟨by rfl, ?_⟩) ?_
        rotate_left 1
        · (intro w; go_simp) <;> with_reducible rfl
        refine wpAny_take (i := 5) (v := ?_) rfl (by kernel_rfl) (by kernel_rfl) (by kernel_rfl) (fun _ _ _ h => h) (Or.inl ⟨by rfl, ?_⟩) ?_
        rotate_left 1
        · (intro w; go_simp) <;> with_reducible rfl
        refine wpAny_take (i := 6) (v := ?_) rfl (by kernel_rfl) (by kernel_rfl) (by kernel_rfl) (fun _ _ _ h => h) (Or.inl ⟨by rfl, ?_⟩) ?_
        rotate_left 1
        · (intro w; go_simp) <;> with_reducible rfl
        refine wpAny_ready (rs := [7]) (by kernel_rfl) (by simp) ?_
        refine AllReady.cons rfl (fun K hK => ?_) AllReady.nil
        go_simp
        refine hK _ _ ?_
        clear hK K
        refine wpAny_ready (rs := [8]) (by kernel_rfl) (by simp) ?_
        refine AllReady.cons rfl (fun K hK => ?_) AllReady.nil
        refine step_lit rfl (.tmp 64) (.tmp 71) rfl B w2 _ v2 (L ++ [92, 117, 48, 48]) (h2.below ?b1) ?b2 _ [dgS (c.toNat / 16), dgS (c.toNat % 16)] 2 2 w2.heap.size rfl (by decide) HCS.out (Kit.fresh_block w2 _ _) (by first | rfl | simp [Act.eval, Act.put]) (by first | rfl | simp [Act.eval, Act.put]) ?ln ?_
        case b1 => exact ((Below.refl _ w2).alloc (Nat.le_refl _) _).drew
        case b2 => exact ((Below.refl _ w2).alloc (Nat.le_refl _) _).drew
        case ln => have := HLl.out; rw [List.length_append]; show _ + 4 + 2 ≤ _; omega
        intro g3 c3 w3 h3 g3'
        rw [List.append_assoc, HN2.out _ e] at h3
        have hle : (L ++ [92, 117, 48, 48]).length = L.length + 4 := by simp
        rw [hle] at h3 g3'
        clear hle
        refine hK _ _ ?_
        clear hK K
        refine wpAny_take (i := 9) (v := ?_) rfl (by kernel_rfl) (by kernel_rfl) (by kernel_rfl) (fun _ _ _ h => h) (Or.inl ⟨by rfl, ?_⟩) ?_
        rotate_left 1
        · (intro w; go_simp) <;> with_reducible rfl
        refine wpAny_done (by kernel_rfl) ?_ _
        go_wp2_with fail
        go_roundg (s.size - (k + 1))
        case measure => omega
        case rel => exact ⟨k + 1, rfl, by go_num, by omega, h3, hg.trans (g2.trans g3')⟩
      · have g8 : decide ((c.toNat : Int) < 32) = false := by rw [decide_eq_false_iff_not]; omega
        have q1 : ((c.toNat : Int) == 34) = false := by rw [beq_eq_false_iff_ne]; exact fun e => n1 (byte_eq e)
        have q2 : ((c.toNat : Int) == 92) = false := by rw [beq_eq_false_iff_ne]; exact fun e => n2 (byte_eq e)
        have q3 : ((c.toNat : Int) == 8) = false := by rw [beq_eq_false_iff_ne]; exact fun e => n3 (byte_eq e)
        have q4 : ((c.toNat : Int) == 9) = false := by rw [beq_eq_false_iff_ne]; exact fun e => n4 (byte_eq e)
        have q5 : ((c.toNat : Int) == 10) = false := by rw [beq_eq_false_iff_ne]; exact fun e => n5 (byte_eq e)
        have q6 : ((c.toNat : Int) == 12) = false := by rw [beq_eq_false_iff_ne]; exact fun e => n6 (byte_eq e)
        have q7 : ((c.toNat : Int) == 13) = false := by rw [beq_eq_false_iff_ne]; exact fun e => n7 (byte_eq e)
        clear n1 n2 n3 n4 n5 n6 n7 n8
        go_wp2_with (at_builtin; refine app_lit rfl _ _ rfl B wr _ L ho _ [c] 1 1 rfl (by decide) rfl rfl rfl ?c1 ?_)
        case c1 => have := HLl.out; omega
        intro v2 w2 h2 g2
        rw [HN2.out _ e] at h2
        go_wp2_with fail
        go_roundg (s.size - (k + 1))
        case measure => omega
        case rel => exact ⟨k + 1, rfl, by go_num, by omega, h2, hg.trans g2⟩
    · have e : k = s.size := by omega
      subst e
      go_wp2_with (at_builtin; refine app_lit rfl _ _ rfl B wr _ L ho _ [34] 1 1 rfl (by decide) rfl rfl rfl ?c1 ?_)
      case c1 => have := HLl.out; omega
      intro v2 w2 h2 g2
      go_wp2_with fail
      go_ret
      refine ⟨_, rfl, ?_, hg.trans g2⟩
      have h9 : L ++ [34] = l ++ quoteL s.data.toList := by
        rw [← HL.out, List.take_of_length_le (by rw [← Lib.size_eq]; exact Nat.le_refl _)]
        unfold quoteL
        simp
      rw [h9] at h2
      exact h2
end Go.Proofs.YtbjngdlkamdmdaaDoor.J7
