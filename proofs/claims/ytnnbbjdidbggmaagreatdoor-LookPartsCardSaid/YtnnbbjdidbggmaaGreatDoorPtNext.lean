/-
  The program's nextParam: a parameter at the beginning of a text, and what is behind it. Conditions: the text has at most 2^30 bytes; the bound of the library's search is some number.
-/
import Derived.Test.YtnnbbjdidbggmaaGreatDoorPtUnq
import Derived.IntWalk
namespace Go.Proofs.YtnnbbjdidbggmaaGreatDoor.Pt
open Go Go.RowKit Go.Joins Kit F0

/-! ### A parameter -/
theorem any_cases : ∀ l : List UInt8, (Lib.indexAny l [61, 59] = -1 ∧ ∀ c ∈ l, isEq c = false) ∨ ∃ a c r, l = a ++ c :: r ∧ isEq c = true ∧ (∀ x ∈ a, isEq x = false) ∧ Lib.indexAny l [61, 59] = (a.length : Int)
  | [] => Or.inl ⟨rfl, by simp⟩
  | b :: l => by
    have hcon : [61, 59].contains b = isEq b := by
      unfold isEq
      simp only [List.contains_cons, List.contains_nil, Bool.or_false]
    cases hb : isEq b
    · rw [hb] at hcon
      rcases any_cases l with ⟨h1, h2⟩ | ⟨a, c, r, h1, h2, h3, h4⟩
      · refine Or.inl ⟨by rw [Lib.indexAny, hcon, h1]; rfl, fun c hc => ?_⟩
        rcases List.mem_cons.1 hc with rfl | hc
        · exact hb
        · exact h2 c hc
      · refine Or.inr ⟨b :: a, c, r, by rw [h1]; rfl, h2, fun x hx => ?_, ?_⟩
        · rcases List.mem_cons.1 hx with rfl | hx
          · exact hb
          · exact h3 x hx
        · rw [Lib.indexAny, hcon, h4, if_neg (by decide), if_neg (by simp <;> omega)]
          simp
    · exact Or.inr ⟨[], b, l, rfl, hb, by simp, by rw [Lib.indexAny, hcon, hb]; rfl⟩
theorem result3 {fn : Func} {p u v : Tmp} (h : fn.results = #[.cell p 74, .tmp u, .tmp v]) (tmps : Array Value) {w : World} {G : Nat} {c0 c1 : Value}
    (hp : tmps.getD p undef = .pointer (some ⟨G, 0, none⟩)) (hb : w.heap[G]? = some (.cells #[c0, c1] 74 (0, 0))) : (results fn tmps).run Tryz.prog w = .ok (.tuple #[.agg #[c0, c1], tmps.getD u undef, tmps.getD v undef]) w := by
  have hl := run_loadVar_row (P := Tryz.prog) w G 74 _ _ _ _ hb Tryz.underlying74 rfl (by kernel_rfl)
  simp only [results, h]
  have hp' : tmps[p]?.getD undef = .pointer (some ⟨G, 0, none⟩) := by simpa using hp
  simp [Result.andThen, hp', asAddr, hl]
/-- What nextParam tells. -/
def nextV (n : Fl × Option (List UInt8)) : Value := .tuple #[.agg #[sV n.1.1, sV n.1.2], sV (n.2.getD []), .bool n.2.isSome]
theorem noEq_59 {l : List UInt8} (h : ∀ c ∈ l, isEq c = false) : ∀ c ∈ l, c ≠ 59 := fun c hc e => by
  have := h c hc
  rw [e] at this
  cases this
theorem set1 {w : World} {G : Nat} {a b : Value} (d : Value) (h : w.heap[G]? = some (.cells #[a, b] 74 (0, 0))) : (w.setCell ⟨G, 1, none⟩ d).heap[G]? = some (.cells #[a, d] 74 (0, 0)) := by
  simp [World.setCell, Array.getElem?_modify, h]
theorem set0 {w : World} {G : Nat} {a b : Value} (d : Value) (h : w.heap[G]? = some (.cells #[a, b] 74 (0, 0))) : (w.setCell ⟨G, 0, none⟩ d).heap[G]? = some (.cells #[d, b] 74 (0, 0)) := by
  simp [World.setCell, Array.getElem?_modify, h]
theorem trimB_size (l : List UInt8) (n : Nat) (h : l.length ≤ n) : (ByteArray.mk (trimL l).toArray).size ≤ n := by
  rw [Lib.size_mk]
  exact Nat.le_trans (trimL_le l) h

set_option maxHeartbeats 2000000 in
set_option maxRecDepth 100000 in
/-- A name alone, at the end. -/
theorem next_alone (s : ByteArray) (w : World) (hs : s.size ≤ 1073741824) (hE : Srch.Env w) (h : ∀ c ∈ s.data.toList, isEq c = false) :
    Calls Tryz.prog 128 #[.string s] w fun e w' => e = .returned (nextV (nextL s.data.toList)) ∧ Below w.heap.size w w' := by
  have HE := Lib.hid hE
  clear hE
  have HI : Hid (Lib.indexAny s.data.toList [61, 59] = -1) := Lib.hid (by
    rcases any_cases s.data.toList with ⟨h1, _⟩ | ⟨a, c, r, h1, h2, h3, h4⟩
    · exact h1
    · have := h c (by rw [h1]; simp)
      rw [h2] at this
      cases this)
  have HN := Lib.hid (next_none h)
  have H59 := Lib.hid (noEq_59 h)
  clear h
  have HB0 := Lib.hid (And.intro (Kit.fresh_block w #[.string ⟨#[]⟩, .string ⟨#[]⟩] 74) (show Below w.heap.size w (w.alloc (.cells #[.string ⟨#[]⟩, .string ⟨#[]⟩] 74)) from (Below.refl _ w).alloc (Nat.le_refl _) _))
  go_enter Tryz.func128, Tryz.ntmps128
  go_wp2_with fail
  refine (any_any s _ (by omega)).mono ?_
  rintro e w1 ⟨rfl, hb1⟩
  rw [HI.out]
  have hblk1 := (hb1.block w.heap.size (by simp)).trans HB0.out.1
  have HB1 := Lib.hid (And.intro hblk1 (HB0.out.2.trans (hb1.mono (by simp))))
  clear hblk1 hb1
  go_wp2_with fail
  refine (Srch.cut_any 59 s w1 (by omega) (HE.out.next HB1.out.2)).mono ?_
  rintro e w2 ⟨hcut, hb2, hh2⟩
  rcases hcut with ⟨rfl, _⟩ | ⟨a, r, hl, _, _⟩
  · clear H59
    have hblk2 : w2.heap[w.heap.size]? = some (.cells #[.string ⟨#[]⟩, .string ⟨#[]⟩] 74 (0, 0)) := by rw [← hh2]; exact HB1.out.1
    have hbb2 : Below w.heap.size w w2 := HB1.out.2.trans (hb2.mono HB1.out.2.size)
    have HB2 := Lib.hid (And.intro hblk2 hbb2)
    clear hblk2 hbb2 hb2 hh2
    go_wp2_with fail
    refine (small_any s w2 (by omega)).mono ?_
    rintro e w3 ⟨rfl, hb3⟩
    unfold sV
    have hblk3 := (hb3.block w.heap.size ((Array.getElem?_eq_some_iff.1 HB2.out.1).1)).trans HB2.out.1
    have c0 : w3.cell? ⟨w.heap.size, 0, none⟩ = some (.string ⟨#[]⟩) := by rw [Lib.cell_of_heap hblk3]; rfl
    have c1 : w3.cell? ⟨w.heap.size, 1, none⟩ = some (.string ⟨#[]⟩) := by rw [Lib.cell_of_heap hblk3]; rfl
    have f0 := Lib.frozen_of_heap hblk3 0
    have f1 := Lib.frozen_of_heap hblk3 1
    have HBLK := Lib.hid (And.intro hblk3 (HB2.out.2.trans (hb3.mono HB2.out.2.size)))
    clear hblk3 hb3
    go_wp2_with fail
    refine bodyPost_ret (result3 rfl _ rfl (set1 _ (set0 _ HBLK.out.1))) rfl ?_
    refine ⟨?_, (HBLK.out.2.setCell (p := ⟨w.heap.size, 0, none⟩) (Nat.le_refl _) _).setCell (p := ⟨w.heap.size, 1, none⟩) (Nat.le_refl _) _⟩
    rw [HN.out]
    rfl
  · exact absurd rfl (H59.out 59 (by rw [hl]; simp))
set_option maxHeartbeats 2000000 in
set_option maxRecDepth 100000 in
/-- A name alone, a semicolon behind it. -/
theorem next_named (s : ByteArray) (w : World) (hs : s.size ≤ 1073741824) (hE : Srch.Env w) (a r : List UInt8) (he : s.data.toList = a ++ 59 :: r) (h : ∀ c ∈ a, isEq c = false) :
    Calls Tryz.prog 128 #[.string s] w fun e w' => e = .returned (nextV (nextL s.data.toList)) ∧ Below w.heap.size w w' := by
  have HE := Lib.hid hE
  clear hE
  have hn : a.length < s.size := by rw [Lib.size_eq, he]; simp
  have h59 : s[a.length] = 59 := by
    rw [← byte_get s a.length hn]
    simp only [he]
    simp
  have HI : Hid (Lib.indexAny s.data.toList [61, 59] = (a.length : Int)) := Lib.hid (Lib.indexAny_hit (x := 59) (fun j b hj hb => by
    rw [he, List.getElem?_append_left hj] at hb
    have := h b (List.mem_of_getElem? hb)
    unfold isEq at this
    simpa [List.contains_cons] using this) (by rw [he]; simp) (by decide))
  have HN : Hid (nextL s.data.toList = ((smallL a, []), some r)) := Lib.hid (by rw [he]; exact next_semi r h)
  have H59 := Lib.hid (noEq_59 h)
  have HL := Lib.hid he
  have hal : a.length ≤ 1073741824 := by omega
  clear h he
  have HB0 := Lib.hid (And.intro (Kit.fresh_block w #[.string ⟨#[]⟩, .string ⟨#[]⟩] 74) (show Below w.heap.size w (w.alloc (.cells #[.string ⟨#[]⟩, .string ⟨#[]⟩] 74)) from (Below.refl _ w).alloc (Nat.le_refl _) _))
  go_enter Tryz.func128, Tryz.ntmps128
  go_wp2_with fail
  refine (any_any s _ (by omega)).mono ?_
  rintro e w1 ⟨rfl, hb1⟩
  rw [HI.out]
  have hblk1 := (hb1.block w.heap.size (by simp)).trans HB0.out.1
  have HB1 := Lib.hid (And.intro hblk1 (HB0.out.2.trans (hb1.mono (by simp))))
  clear hblk1 hb1
  go_wp2_with fail
  refine (Srch.cut_any 59 s w1 (by omega) (HE.out.next HB1.out.2)).mono ?_
  rintro e w2 ⟨hcut, hb2, hh2⟩
  rcases hcut with ⟨rfl, hno⟩ | ⟨A, R, hl, hA, rfl⟩
  · exact absurd rfl (hno 59 (by rw [HL.out]; simp))
  · have hAR : A.data.toList = a ∧ R.data.toList = r := by
      have e1 := cutL_some R.data.toList hA
      have e2 := cutL_some r H59.out
      rw [← hl, HL.out, e2] at e1
      injection e1 with e1
      injection e1 with e1 e2
      exact ⟨e1.symm, e2.symm⟩
    have hAz : A.size ≤ 1073741824 := by rw [Lib.size_eq, hAR.1]; exact hal
    rw [← hAR.1, ← hAR.2] at HN
    clear hAR hl hA H59 HL
    have hblk2 : w2.heap[w.heap.size]? = some (.cells #[.string ⟨#[]⟩, .string ⟨#[]⟩] 74 (0, 0)) := by rw [← hh2]; exact HB1.out.1
    have hbb2 : Below w.heap.size w w2 := HB1.out.2.trans (hb2.mono HB1.out.2.size)
    have HB2 := Lib.hid (And.intro hblk2 hbb2)
    clear hblk2 hbb2 hb2 hh2
    go_wp2_with fail
    refine (small_any A w2 (by omega)).mono ?_
    rintro e w3 ⟨rfl, hb3⟩
    unfold sV
    have hblk3 := (hb3.block w.heap.size ((Array.getElem?_eq_some_iff.1 HB2.out.1).1)).trans HB2.out.1
    have c0 : w3.cell? ⟨w.heap.size, 0, none⟩ = some (.string ⟨#[]⟩) := by rw [Lib.cell_of_heap hblk3]; rfl
    have c1 : w3.cell? ⟨w.heap.size, 1, none⟩ = some (.string ⟨#[]⟩) := by rw [Lib.cell_of_heap hblk3]; rfl
    have f0 := Lib.frozen_of_heap hblk3 0
    have f1 := Lib.frozen_of_heap hblk3 1
    have HBLK := Lib.hid (And.intro hblk3 (HB2.out.2.trans (hb3.mono HB2.out.2.size)))
    clear hblk3 hb3
    go_wp2_with fail
    refine bodyPost_ret (result3 rfl _ rfl (set1 _ (set0 _ HBLK.out.1))) rfl ?_
    refine ⟨?_, (HBLK.out.2.setCell (p := ⟨w.heap.size, 0, none⟩) (Nat.le_refl _) _).setCell (p := ⟨w.heap.size, 1, none⟩) (Nat.le_refl _) _⟩
    rw [HN.out]
    rfl

end Go.Proofs.YtnnbbjdidbggmaaGreatDoor.Pt
