/-
  Plain facts on ways into values: keys as parts of a path, a way told as a path is read as the parts it was told of. No program in this text. Conditions: none.
-/
import Derived.Test.YtoofcclcimkipaaDoorJ9Ref
import Derived.Test.YtoofcclcimkipaaDoorDigs
namespace Go.Proofs.YtoofcclcimkipaaDoor.J9
open Go Go.RowKit Go.Joins Kit J7 Nds J8

/-- A byte of a key in a path. -/
def escB (c : UInt8) : List UInt8 := if c = 126 then [126, 48] else if c = 47 then [126, 49] else [c]
/-- A key in a path. -/
def escL (l : List UInt8) : List UInt8 := (l.map escB).flatten
theorem escL_nil : escL [] = [] := rfl
theorem escL_cons (c : UInt8) (r : List UInt8) : escL (c :: r) = escB c ++ escL r := rfl
theorem escB_len (c : UInt8) : (escB c).length ≤ 2 := by
  unfold escB
  split
  · decide
  · split
    · decide
    · exact Nat.le_succ 1
theorem escL_len : ∀ l, (escL l).length ≤ 2 * l.length
  | [] => Nat.le_refl _
  | c :: r => by
    rw [escL_cons, List.length_append, List.length_cons]
    have h1 := escB_len c
    have h2 := escL_len r
    omega
theorem escL_snoc (l : List UInt8) (c : UInt8) : escL (l ++ [c]) = escL l ++ escB c := by
  unfold escL
  rw [List.map_append, List.flatten_append, List.map_singleton, List.flatten_singleton]
theorem parts_escB (l : List ByteArray) (p r : List UInt8) (c : UInt8) : partsF false l p (escB c ++ r) = partsF false l (p ++ [c]) r := by
  unfold escB
  by_cases h : c = 126
  · rw [if_pos h, h]
    show partsF false l p (126 :: 48 :: r) = _
    rw [pF_tilde, if_pos rfl]
  · rw [if_neg h]
    by_cases h7 : c = 47
    · rw [if_pos h7, h7]
      show partsF false l p (126 :: 49 :: r) = _
      rw [pF_tilde, if_neg (by decide), if_pos rfl]
    · rw [if_neg h7]
      exact pF_other false l p r h7 h
theorem parts_esc : ∀ (s : List UInt8) (l : List ByteArray) (p r : List UInt8), partsF false l p (escL s ++ r) = partsF false l (p ++ s) r
  | [], l, p, r => by rw [escL_nil, List.nil_append, List.append_nil]
  | c :: s, l, p, r => by
    rw [escL_cons, List.append_assoc, parts_escB, parts_esc s, List.append_assoc]
    rfl
/-- The path of some parts. -/
def pathL (ls : List ByteArray) : List UInt8 := (ls.map (fun s => 47 :: escL s.data.toList)).flatten
theorem pathL_cons (s : ByteArray) (ls : List ByteArray) : pathL (s :: ls) = 47 :: (escL s.data.toList ++ pathL ls) := rfl
theorem pathL_snoc (ls : List ByteArray) (s : ByteArray) : pathL (ls ++ [s]) = pathL ls ++ (47 :: escL s.data.toList) := by
  unfold pathL
  rw [List.map_append, List.flatten_append, List.map_singleton, List.flatten_singleton]
theorem parts_path : ∀ (ls l : List ByteArray) (p : List UInt8), partsF false l p (pathL ls) = some (l ++ ⟨p.toArray⟩ :: ls)
  | [], l, p => rfl
  | s :: ls, l, p => by
    rw [pathL_cons, pF_slash, if_neg (by decide), parts_esc, List.nil_append, parts_path ls, List.append_assoc]
    rfl
theorem partsP_path {x : ByteArray} {ls : List ByteArray} (hx : x.data.toList = pathL ls) (hz : x.size ≤ 1000) : partsP x = some ls := by
  unfold partsP
  rw [if_neg (by omega), hx]
  cases ls with
  | nil => rfl
  | cons s ls =>
    rw [pathL_cons]
    simp only
    rw [if_pos trivial, pF_slash, if_pos rfl, parts_esc, List.nil_append, parts_path]
    rfl
/-- The digits of a number are no sign of an escape. -/
theorem esc_plain : ∀ l : List UInt8, (∀ c ∈ l, c ≠ 126 ∧ c ≠ 47) → escL l = l
  | [], _ => rfl
  | c :: r, h => by
    have h1 := h c List.mem_cons_self
    rw [escL_cons, esc_plain r (fun x hx => h x (List.mem_cons_of_mem c hx))]
    unfold escB
    rw [if_neg h1.1, if_neg h1.2]
    rfl
/-! ### Where a way leads -/
/-- The way so far: what its parts lead to, whatever comes behind. -/
structure Way (n : J) (ls : List ByteArray) (x : J) : Prop where
  on : ∀ r, followP num9 (ls ++ r) n = followP num9 r x
  right : ∃ dd, RightIn dd x
  tame : Tame x
  few : cnt x ≤ 2000
theorem Way.new {n : J} (hr : RightIn 0 n) (ht : Tame n) (hc : cnt n ≤ 2000) : Way n [] n := ⟨fun _ => rfl, ⟨0, hr⟩, ht, hc⟩
theorem Way.end {n x : J} {ls : List ByteArray} (h : Way n ls x) : followP num9 ls n = some x := by
  have h1 := h.on []
  rw [List.append_nil, followP] at h1
  exact h1
theorem Way.next {n x : J} {ls : List ByteArray} (h : Way n ls x) {k : Nat} (hk : k < x.kids.length) (p : ByteArray) (hp : ∀ r, followP num9 (p :: r) x = followP num9 r x.kids[k]) : Way n (ls ++ [p]) x.kids[k] := by
  refine ⟨fun r => ?_, ?_, tame_kid h.tame k hk, ?_⟩
  · rw [List.append_assoc, h.on]
    exact hp r
  · obtain ⟨dd, hd⟩ := h.right
    exact ⟨dd + 1, (right_inv hd).2.1 k hk⟩
  · have h2 := cnt_get x.kids k hk
    have h3 := cnt_kids x
    have h4 := h.few
    omega
theorem Way.key {n x : J} {ls : List ByteArray} (h : Way n ls x) (h7 : x.kind = 7) {k : Nat} (hk : k < x.kids.length) : ∃ hq : k < x.keys.length, Way n (ls ++ [x.keys[k]]) x.kids[k] := by
  obtain ⟨dd, hd⟩ := h.right
  obtain ⟨hh, _, hf⟩ := right_inv hd
  have hl := hh.a10 h7
  have hq : k < x.keys.length := by omega
  refine ⟨hq, h.next hk _ (fun r => ?_)⟩
  have hfd : J8.Found x x.keys[k] k := ⟨h7, hq, hk, rfl, fun j hj => (hf k hq).2 j hj⟩
  rw [followP, if_pos h7, findP_some hfd]
theorem Way.kinds {n x : J} {ls : List ByteArray} (h : Way n ls x) {k : Nat} (hk : k < x.kids.length) : x.kind = 7 ∨ x.kind = 6 := by
  obtain ⟨dd, hd⟩ := h.right
  obtain ⟨hh, _, _⟩ := right_inv hd
  have h1 := hh.a2
  have h2 := hh.a8
  omega
theorem digs_bytes (k : Nat) : (Dg.digs (k : Int)).data.toList = Lib.decDigits k := by
  unfold Dg.digs
  rw [show (k : Int).toNat = k by omega]
theorem digits_dig : ∀ (f k : Nat), k < f → ∀ c ∈ Lib.decDigits k, 48 ≤ c.toNat ∧ c.toNat ≤ 57
  | 0, k, h => absurd h (Nat.not_lt_zero k)
  | f + 1, k, h => by
    intro c hc
    by_cases h10 : k < 10
    · rw [Lib.decDigits_one h10, List.mem_singleton] at hc
      subst hc
      rw [UInt8.toNat_ofNat']
      omega
    · rw [Lib.decDigits, dif_neg h10, List.mem_append] at hc
      rcases hc with hc | hc
      · exact digits_dig f (k / 10) (by omega) c hc
      · rw [List.mem_singleton] at hc
        subst hc
        rw [UInt8.toNat_ofNat']
        omega
theorem digs_esc (k : Nat) : escL (Dg.digs (k : Int)).data.toList = (Dg.digs (k : Int)).data.toList := by
  rw [digs_bytes]
  refine esc_plain _ (fun c hc => ?_)
  have h := digits_dig (k + 1) k (Nat.lt_succ_self k) c hc
  refine ⟨fun e => ?_, fun e => ?_⟩
  · rw [e] at h
    exact absurd h.2 (by decide)
  · rw [e] at h
    exact absurd h.1 (by decide)
theorem digs_star (k : Nat) : Dg.digs (k : Int) ≠ starB := by
  intro e
  have e2 : Lib.decDigits k = [42] := by rw [← digs_bytes, e]; rfl
  have h := digits_dig (k + 1) k (Nat.lt_succ_self k) 42 (by rw [e2]; exact List.mem_singleton.2 rfl)
  exact absurd h.1 (by decide)
theorem Way.num {n x : J} {ls : List ByteArray} (h : Way n ls x) (h6 : x.kind = 6) {k : Nat} (hk : k < x.kids.length) : Way n (ls ++ [Dg.digs (k : Int)]) x.kids[k] := by
  refine h.next hk _ (fun r => ?_)
  have hn : num9 (Dg.digs (k : Int)) = some k := by
    unfold num9
    rw [digs_bytes]
    refine Tx.num_digits ?_
    have h2 := h.tame
    have h3 : x.kids.length ≤ 65536 := by cases h2; assumption
    omega
  exact follow_n1 h6 (digs_star k) hn hk
end Go.Proofs.YtoofcclcimkipaaDoor.J9
