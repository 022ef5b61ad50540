/-
  The program's reader of addresses: what is gathered is told. No law in this text. Conditions: what is gathered has at most 10^12 bytes; the bound of the library's search is some number.
-/
import Derived.Test.YtigamkdomdglhaaDoorAdAng
import Derived.Test.YtigamkdomdglhaaDoorAdWord
import Derived.Test.YtigamkdomdglhaaDoorWdDec
import Derived.BigQuiet
import Derived.Shelf.Strings.LastIndex
import Derived.Shelf.Strings.OnBuilder
namespace Go.Proofs.YtigamkdomdglhaaDoor.Ad
open Go Go.RowKit Go.Joins Kit J7
variable {w0 w : World} {b : Nat}

/-! ### A place parted -/
theorem lastAt_none : ∀ {l : List UInt8} (_ : ∀ c ∈ l, c ≠ 64), lastAt l = none
  | [], _ => rfl
  | c :: r, h => by rw [lastAt, lastAt_none (fun x hx => h x (by simp [hx]))]; simp [h c (by simp)]
theorem lastAt_some : ∀ (a : List UInt8) {r : List UInt8} (_ : ∀ c ∈ r, c ≠ 64), lastAt (a ++ 64 :: r) = some a.length
  | [], r, h => by rw [List.nil_append, lastAt, lastAt_none h]; rfl
  | x :: a, r, h => by rw [List.cons_append, lastAt, lastAt_some a h]; rfl
theorem cutA_none {l : List UInt8} (h : ∀ c ∈ l, c ≠ 64) : cutA l = (l, []) := by unfold cutA; rw [lastAt_none h]
theorem cutA_some (a : List UInt8) {r : List UInt8} (h : ∀ c ∈ r, c ≠ 64) : cutA (a ++ 64 :: r) = (a, r) := by
  unfold cutA
  rw [lastAt_some a h]
  simp
theorem bang (s : ByteArray) (j : Nat) (h : j < s.size) : s.data[j]! = s.data.toList[j]'(by rw [← Lib.size_eq]; exact h) := by
  rw [getElem!_pos s.data j (by simpa using h)]
  simp
theorem cut_cases (s : ByteArray) : (Lib.lastIndexByte s 64 = -1 ∧ cutA s.data.toList = (s.data.toList, [])) ∨
    ∃ i : Nat, i < s.size ∧ Lib.lastIndexByte s 64 = i ∧ cutA s.data.toList = ((s.extract 0 i).data.toList, (s.extract (i + 1) s.size).data.toList) := by
  have hl : s.data.toList.length = s.size := (Lib.size_eq s).symm
  rcases Lib.lastIndexByte_spec s 64 with ⟨h1, h2⟩ | ⟨i, hi, h1, h2, h3⟩
  · refine Or.inl ⟨h1, cutA_none fun c hc => ?_⟩
    obtain ⟨j, hj, rfl⟩ := List.mem_iff_getElem.1 hc
    intro e
    refine h2 j (by omega) ?_
    rw [bang s j (by omega), e]
    rfl
  · refine Or.inr ⟨i, hi, h1, ?_⟩
    have h64 : s.data.toList[i]'(by omega) = 64 := by
      rw [bang s i hi] at h2
      exact UInt8.toNat_inj.1 (by have : ((s.data.toList[i]'(by omega)).toNat : Int) = ((64 : Nat) : Int) := h2; exact Int.ofNat.inj this)
    have hsp : s.data.toList = s.data.toList.take i ++ 64 :: s.data.toList.drop (i + 1) := by
      conv => lhs; rw [← List.take_append_drop i s.data.toList, List.drop_eq_getElem_cons (by omega), h64]
    have hno : ∀ c ∈ s.data.toList.drop (i + 1), c ≠ 64 := by
      intro c hc e
      obtain ⟨j, hj, rfl⟩ := List.mem_iff_getElem.1 hc
      rw [List.length_drop] at hj
      rw [List.getElem_drop] at e
      refine h3 (i + 1 + j) (by omega) (by omega) ?_
      rw [bang s (i + 1 + j) (by omega), e]
      rfl
    have := cutA_some (s.data.toList.take i) hno
    rw [← hsp] at this
    rw [this, Lib.extract_data, Lib.extract_data, List.drop_zero, Nat.sub_zero]
    refine Prod.ext rfl ?_
    show List.drop (i + 1) s.data.toList = _
    exact (List.take_of_length_le (by rw [List.length_drop]; omega)).symm

set_option maxHeartbeats 1000000 in
set_option maxRecDepth 100000 in
theorem cut_any (s : ByteArray) (w : World) (hs : s.size ≤ 1099511627776) :
    Calls Tryd.prog 25 #[.string s] w fun e w' => ∃ B H : ByteArray, e = .returned (.tuple #[.string B, .string H]) ∧ B.data.toList = (cutA s.data.toList).1 ∧ H.data.toList = (cutA s.data.toList).2 ∧ Below w.heap.size w w' := by
  rcases cut_cases s with ⟨h1, h2⟩ | ⟨i, hi, h1, h2⟩
  · have HC := Lib.hid h2
    clear h2
    have hI := Tryd.strings_LastIndexByte s 64 (by omega) w
    rw [h1] at hI
    clear h1
    go_enter Tryd.func25, Tryd.ntmps25
    go_wp2_with fail
    refine hI.mono ?_
    rintro e w1 ⟨rfl, rfl⟩
    go_wp2_with fail
    go_ret2
    exact ⟨s, ⟨#[]⟩, rfl, by rw [HC.out], by rw [HC.out], Below.refl _ _⟩
  · have HC := Lib.hid h2
    clear h2
    have hI := Tryd.strings_LastIndexByte s 64 (by omega) w
    rw [h1] at hI
    have gi : (i : Int) < (s.size : Int) := by omega
    have gs : (s.size : Int) ≤ 1099511627776 := by omega
    clear h1 hs
    go_enter Tryd.func25, Tryd.ntmps25
    go_wp2_with fail
    refine hI.mono ?_
    rintro e w1 ⟨rfl, rfl⟩
    go_upto_region 4 with fail
    go_quiet (fail)
    go_wp2_with fail
    go_ret2
    exact ⟨s.extract 0 i, s.extract (i + 1) s.size, rfl, by rw [HC.out], by rw [HC.out], below_drewN (Below.refl _ _) _⟩

/-! ### The words joined -/
theorem words_data (ws : List (List UInt8)) : (ws.map (fun x => (⟨x.toArray⟩ : ByteArray))).map (·.data.toList) = ws := by
  rw [List.map_map]
  conv => rhs; rw [← List.map_id ws]
  rfl
theorem joinW_any {B n : Nat} {wv : Value} {ws : List (List UInt8)} (hn : ws.length = n) (sep : ByteArray) (hs : sep.size ≤ 1) (h : w.ownsRow B 9 1 wv n (ws.map sV)) (hl : lenW ws ≤ 1099511627776) :
    Calls Tryd.prog 24 #[wv, .string sep] w fun e w' => e = .returned (.string ⟨(Lib.join ws sep.data.toList).toArray⟩) ∧ Below w.heap.size w w' := by
  have hj := join_len ws sep.data.toList (by rw [← Lib.size_eq]; exact hs)
  have hle := lens_le ws
  rcases h.2 with ⟨rfl, h0⟩ | ⟨g, cap, cur, rfl, _, hg, hnc, _⟩
  · have : ws = [] := List.eq_nil_of_length_eq_zero (by omega)
    subst this
    refine (Tryd.strings_Join_none none 0 sep w).mono ?_
    rintro e w' ⟨rfl, rfl⟩
    exact ⟨rfl, Below.refl _ _⟩
  · have := Tryd.strings_Join g 0 cap (ws.map (fun x => (⟨x.toArray⟩ : ByteArray))) sep w (fun j x hx => by
      rw [List.getElem?_map] at hx
      obtain ⟨y, hy, rfl⟩ := Option.map_eq_some_iff.1 hx
      have hj : j < ws.length := (List.getElem?_eq_some_iff.1 hy).1
      rw [Nat.zero_add, h.cellAt j (by omega), List.getElem?_map, hy]
      rfl) (Array.getElem?_eq_some_iff.1 hg).1 (by rw [List.length_map]; omega) (by rw [List.length_map]; omega) (by rw [words_data]; omega)
    rw [words_data, List.length_map, hn] at this
    exact this

/-! ### Addresses appended -/
theorem infoA : (Tryd.prog.info? 27).map (fun i => (i.zero, i.size, i.bytes)) = some (some (.agg #[.string ⟨#[]⟩, .string ⟨#[]⟩, .string ⟨#[]⟩]), 3, 48) := by kernel_rfl
theorem addrs_app {tv : Value} {T : List Ad3} {ops : Array Oper} {rest : List Oper} {o : Oper} {a : Act} {Q : Exit → Act → World → Prop} (hgd : o.guard = none) (sl x : Operand)
    (ho : o.op = .call { callee := .builtin .append, args := #[sl, x], argTypes := #[24, 24] })
    (B : Nat) (W : World) (h : W.ownsRow B 27 3 tv T.length (aC T)) (hB : B ≤ W.heap.size) (f : Ad3) (g cap : Nat) (hblk : W.heap[g]? = some (.cells #[sV f.1, sV f.2.1, sV f.2.2] 27 (0, 0))) (hs : a.eval sl = tv) (hx : a.eval x = .slice (some ⟨g, 0, none⟩) 1 cap)
    (hlen : T.length ≤ 1099511627776)
    (k : ∀ g' c w', w'.ownsRow B 27 3 (.slice (some ⟨g', 0, none⟩) (T.length + 1) c) (T ++ [f]).length (aC (T ++ [f])) → W.grownBy w' tv.ownBlock → wpList Tryd.prog ops Q rest (a.put o.dst (.slice (some ⟨g', 0, none⟩) (T.length + 1) c)) w') : wpList Tryd.prog ops Q (o :: rest) a W := by
  obtain ⟨i0, hi, hz0, hz1, hz2⟩ := info_parts infoA
  refine wpList_append_lies W hgd sl x 24 ho B 27 i0 _ 3 48 Tryd.underlying24 hi hz0 hz1 hz2 rfl (by decide) tv T.length _ hs h ⟨g, 0, none⟩ 1 cap [sV f.1, sV f.2.1, sV f.2.2] hx rfl ?_ ?_ Nat.zero_lt_one ?_ ?_ hB W.heap.size rfl ?_
  · intro j u hj
    exact World.news_of_block hblk j u hj
  · intro u hu
    simp only [List.mem_cons, List.not_mem_nil, or_false] at hu
    rcases hu with rfl | rfl | rfl <;> rfl
  · unfold maxLen; omega
  · omega
  · intro g' c w' ho' hg hat _
    refine k g' c w' ?_ hg
    rw [List.length_append, aC_append]
    exact ho'
end Go.Proofs.YtigamkdomdglhaaDoor.Ad
