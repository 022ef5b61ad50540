/-
  tree.nextStart is where what stands behind a star may begin next; tree.Match tells whether a pattern stands for all of a path. Conditions: pattern and path have at most 2^20 bytes.
-/
import Derived.Test.YtnnbbjdidbggmaaDoorTrMem
import Derived.BigQuiet
namespace Go.Proofs.YtnnbbjdidbggmaaDoor.Tr
open Go Go.RowKit Go.Joins Kit

theorem ext_drop (s : ByteArray) (k : Nat) : (s.extract k s.size).data.toList = s.data.toList.drop k := by
  rw [← Lib.toList_data, Lib.extract_toList, List.take_of_length_le (by rw [List.length_drop, ← Lib.size_eq]; exact Nat.le_refl _)]

set_option maxHeartbeats 1000000 in
set_option maxRecDepth 100000 in
theorem next_one (s : ByteArray) (a b c d : Value) (e : Nat) (w : World) (he : e ≤ 1099511627776) :
    Calls Tryd.prog 15 #[.string s, .agg #[a, b, .int .i64 (e : Int)], .agg #[.bool false, c, d]] w fun x w' => x = .returned (.int .i64 (e + 1 : Int)) ∧ Below w.heap.size w w' := by
  have h1 := W3.made w a b (.int .i64 (e : Int))
  have h1' : W3 w.heap.size a b (.int .i64 (e : Int)) ((w.alloc (.cells #[a, b, .int .i64 (e : Int)] 37)).alloc (.cells #[.bool false, c, d] 37)) := h1.below ((Below.refl _ _).alloc (Nat.le_refl _) _)
  have h2 : W3 (w.heap.size + 1) (.bool false) c d ((w.alloc (.cells #[a, b, .int .i64 (e : Int)] 37)).alloc (.cells #[.bool false, c, d] 37)) := W3.madeAt (by simp) _ _ _
  have x2 := h1'.p2
  have y0 := h2.p0
  have hb : Hid (Below w.heap.size w ((w.alloc (.cells #[a, b, .int .i64 (e : Int)] 37)).alloc (.cells #[.bool false, c, d] 37))) := Lib.hid (((Below.refl _ w).alloc (Nat.le_refl _) _).alloc (by simp) _)
  clear h1 h1' h2
  go_enter Tryd.func15, Tryd.ntmps15
  go_wp2_with fail
  go_ret
  exact ⟨by go_num, hb.out⟩

theorem len_uniq : ∀ (a x q r : List UInt8) (_ : ∀ c ∈ a, c ≠ 47) (_ : ∀ c ∈ x, c ≠ 47) (_ : a ++ 47 :: q = x ++ 47 :: r), a.length = x.length
  | [], [], _, _, _, _, _ => rfl
  | [], b :: x, _, _, _, hx, h => absurd (List.cons.inj h).1.symm (hx b (by simp))
  | b :: a, [], _, _, ha, _, h => absurd (List.cons.inj h).1 (ha b (by simp))
  | b :: a, b' :: x, q, r, ha, hx, h => by
    rw [List.length_cons, List.length_cons, len_uniq a x q r (fun c hc => ha c (by simp [hc])) (fun c hc => hx c (by simp [hc])) (List.cons.inj h).2]
theorem idx_at (X : ByteArray) (x r : List UInt8) (hx : X.data.toList = x ++ 47 :: r) (hn : ∀ c ∈ x, c ≠ 47) (w : World) :
    Calls Tryd.prog 24 #[.string X, .int .u8 47] w fun e w' => e = .returned (.int .i64 (x.length : Int)) ∧ w' = w := by
  refine (Tryd.strings_IndexByte X 47 w).mono ?_
  rintro e w' ⟨rfl, rfl⟩
  refine ⟨?_, rfl⟩
  have h : Lib.indexByte X.data.toList ((47 : Int).toNat.toUInt8) = (x.length : Int) := by
    show Lib.indexByte X.data.toList 47 = _
    rcases idx_cases 47 X.data.toList with ⟨_, h2⟩ | ⟨a, q, h1, h2, h3⟩
    · exact absurd rfl (h2 47 (by rw [hx]; simp))
    · rw [h3, len_uniq a x q r h2 hn (h1.symm.trans hx)]
  rw [h]
set_option maxHeartbeats 1000000 in
set_option maxRecDepth 100000 in
theorem next_slash (s : ByteArray) (a b c d : Value) (e : Nat) (w : World) (hs : s.size ≤ 1048576) (he : e ≤ s.size) (x r : List UInt8) (hx : s.data.toList.drop e = x ++ 47 :: r) (hn : ∀ c ∈ x, c ≠ 47) :
    Calls Tryd.prog 15 #[.string s, .agg #[a, b, .int .i64 (e : Int)], .agg #[.bool true, c, d]] w fun z w' => z = .returned (.int .i64 (e + x.length + 1 : Int)) ∧ Below w.heap.size w w' := by
  have h1 := W3.made w a b (.int .i64 (e : Int))
  have h1' : W3 w.heap.size a b (.int .i64 (e : Int)) ((w.alloc (.cells #[a, b, .int .i64 (e : Int)] 37)).alloc (.cells #[.bool true, c, d] 37)) := h1.below ((Below.refl _ _).alloc (Nat.le_refl _) _)
  have h2 : W3 (w.heap.size + 1) (.bool true) c d ((w.alloc (.cells #[a, b, .int .i64 (e : Int)] 37)).alloc (.cells #[.bool true, c, d] 37)) := W3.madeAt (by simp) _ _ _
  have x2 := h1'.p2
  have y0 := h2.p0
  have hb : Hid (Below w.heap.size w ((w.alloc (.cells #[a, b, .int .i64 (e : Int)] 37)).alloc (.cells #[.bool true, c, d] 37))) := Lib.hid (((Below.refl _ w).alloc (Nat.le_refl _) _).alloc (by simp) _)
  have x2d : ∀ n, (((w.alloc (.cells #[a, b, .int .i64 (e : Int)] 37)).alloc (.cells #[.bool true, c, d] 37)).drewN n).cell? ⟨w.heap.size, 2, none⟩ = some (.int .i64 (e : Int)) := fun n => x2
  have hxl : x.length ≤ s.size := by
    have := congrArg List.length hx
    simp only [List.length_drop, List.length_append, List.length_cons, ← Lib.size_eq] at this
    omega
  have HIX : Hid (∀ W, Calls Tryd.prog 24 #[.string (s.extract e s.size), .int .u8 47] W fun e w' => e = .returned (.int .i64 (x.length : Int)) ∧ w' = W) := Lib.hid (fun W => idx_at _ x r (by rw [ext_drop]; exact hx) hn W)
  clear h1 h1' h2 hx hn
  go_enter Tryd.func15, Tryd.ntmps15
  go_wp2_with fail
  go_quiet ((go_at_call 24; refine Calls.quiet_of_same (HIX.out _)))
  go_wp2_with fail
  go_ret
  exact ⟨by go_num, below_drewN hb.out _⟩

/-! ### The search -/
theorem Inv.bnd {P S : List UInt8} {a0 sb se pb pe p a : Nat} {st pt : Bool} (h : Inv P S a0 sb se pb pe p a st pt) (hz : pt = false → pb = 0 ∧ pe = 0) : sb ≤ p ∧ se ≤ a ∧ pb ≤ p ∧ pe ≤ a := by
  obtain ⟨A, -, -, -, h1, h2⟩ := h.lits
  have hb := h.hb
  have he := h.he
  cases hpt : pt
  · obtain ⟨rfl, rfl⟩ := hz hpt
    rw [hpt] at h1 h2 hb he
    simp at h1 h2 hb he
    omega
  · rw [hpt] at h1 h2 hb he
    simp at h1 h2 hb he
    omega
theorem drop_at (s : ByteArray) (k : Nat) (h : k < s.size) : s.data.toList.drop k = s[k] :: s.data.toList.drop (k + 1) := by
  rw [List.drop_eq_getElem_cons (by rw [← Lib.size_eq]; exact h)]
  rfl
theorem off_nil {P S : List UInt8} {p a : Nat} (hp : P.drop p = []) {d : UInt8} {r : List UInt8} (hs : S.drop a = d :: r) : Off P S p a := by
  unfold Off
  rw [hp, hs]
  rfl
theorem off_byte {P S : List UInt8} {p a : Nat} {c d : UInt8} {q r : List UInt8} (hl : lit c) (hp : P.drop p = c :: q) (hs : S.drop a = d :: r) (hn : c ≠ d) : Off P S p a := by
  unfold Off
  rw [hp, hs, ahead_cons, if_neg (fun h => h.elim hl.1 hl.2)]
  show (c == d && ahead q r) = false
  rw [beq_eq_false_iff_ne.2 hn, Bool.false_and]
theorem find_slash : ∀ (l : List UInt8) (_ : (47 : UInt8) ∈ l), ∃ x r, l = x ++ 47 :: r ∧ ∀ c ∈ x, c ≠ 47
  | [], h => by cases h
  | b :: l, h => by
    by_cases hb : b = 47
    · subst hb
      exact ⟨[], l, rfl, fun c hc => by cases hc⟩
    · obtain ⟨x, r, rfl, hx⟩ := find_slash l ((List.mem_cons.1 h).resolve_left (fun e => hb e.symm))
      refine ⟨b :: x, r, rfl, fun c hc => ?_⟩
      rcases List.mem_cons.1 hc with rfl | hc
      · exact hb
      · exact hx c hc
def wild3 (a b c : Value) : Obj := .cells #[a, b, c] 37
set_option maxHeartbeats 4000000 in
set_option maxRecDepth 100000 in
theorem match_any (P S : ByteArray) (w : World) (hP : P.size ≤ 1048576) (hS : S.size ≤ 1048576) :
    Calls Tryd.prog 8 #[.string P, .string S] w fun e w' => e = .returned (.bool (mat P.data.toList S.data.toList)) ∧ Below w.heap.size w w' := by
  have h1 : W3 w.heap.size (.bool false) (.int .i64 0) (.int .i64 0) ((w.alloc (.cells #[.bool false, .int .i64 0, .int .i64 0] 37)).alloc (.cells #[.bool false, .int .i64 0, .int .i64 0] 37)) := (W3.made w _ _ _).below ((Below.refl _ _).alloc (Nat.le_refl _) _)
  have h2 : W3 (w.heap.size + 1) (.bool false) (.int .i64 0) (.int .i64 0) ((w.alloc (.cells #[.bool false, .int .i64 0, .int .i64 0] 37)).alloc (.cells #[.bool false, .int .i64 0, .int .i64 0] 37)) := W3.madeAt (by simp) _ _ _
  have hb0 : Below w.heap.size w ((w.alloc (.cells #[.bool false, .int .i64 0, .int .i64 0] 37)).alloc (.cells #[.bool false, .int .i64 0, .int .i64 0] 37)) := ((Below.refl _ w).alloc (Nat.le_refl _) _).alloc (by simp) _
  have H0 := Lib.hid (And.intro h1 (And.intro h2 hb0))
  clear h1 h2 hb0
  go_enter Tryd.func8, Tryd.ntmps8
  go_wp2_with fail
  go_loopw [7, 8] (fun p a wr => ∃ (a0 sb se pb pe pn an : Nat) (st pt : Bool), p = .int .i64 (pn : Int) ∧ a = .int .i64 (an : Int) ∧ Hid (Inv P.data.toList S.data.toList a0 sb se pb pe pn an st pt) ∧ Hid (pt = false → pb = 0 ∧ pe = 0) ∧
    W3 w.heap.size (.bool st) (.int .i64 (sb : Int)) (.int .i64 (se : Int)) wr ∧ W3 (w.heap.size + 1) (.bool pt) (.int .i64 (pb : Int)) (.int .i64 (pe : Int)) wr ∧ Hid (Below w.heap.size w wr)) (fun p _ wr => wayLeft (P.size + S.size + 1) w.heap.size p wr)
  case atStart => exact ⟨0, 0, 0, 0, 0, 0, 0, false, false, rfl, rfl, Lib.hid (inv_start _ _), Lib.hid (fun _ => ⟨rfl, rfl⟩), H0.out.1, H0.out.2.1, Lib.hid H0.out.2.2⟩
  case round =>
    obtain ⟨a0, sb, se, pb, pe, pn, an, st, pt, rfl, rfl, hI, hz, h1, h2, hb⟩ := hrel
    have hpn : pn ≤ P.size := by rw [Lib.size_eq]; exact hI.out.hp
    have han : an ≤ S.size := by rw [Lib.size_eq]; exact hI.out.ha
    obtain ⟨q1, q2, q3, q4⟩ := hI.out.bnd hz.out
    have hm0 := wayLeft_of (M := P.size + S.size + 1) (p := pn) h1 h2
    have H1 := Lib.hid h1
    have H2 := Lib.hid h2
    have HM := Lib.hid hm0
    have hgt : w.heap.size ≤ wr.heap.size := hb.out.size
    have x0 := h1.p0
    have x1 := h1.p1
    have x2 := h1.p2
    have y0 := h2.p0
    have y1 := h2.p1
    have y2 := h2.p2
    have xf0 := h1.free 0
    have xf1 := h1.free 1
    have xf2 := h1.free 2
    have yf0 := h2.free 0
    have yf1 := h2.free 1
    have yf2 := h2.free 2
    have HBS : w.heap.size ≠ w.heap.size + 1 := by omega
    have HBS2 : w.heap.size + 1 ≠ w.heap.size := by omega
    clear h1 h2 hm0 H0
    by_cases hlt : an < S.size
    · have g1 : (an : Int) < (S.size : Int) := by omega
      have hSd := drop_at S an hlt
      obtain ⟨d, hd⟩ : ∃ d, S[an] = d := ⟨_, rfl⟩
      rw [hd] at hSd
      have HSD := Lib.hid hSd
      obtain ⟨X, hX⟩ : ∃ X, P.extract pn P.size = X := ⟨_, rfl⟩
      have hXl : X.data.toList = P.data.toList.drop pn := by rw [← hX]; exact ext_drop P pn
      have hXs : X.size = P.size - pn := by rw [Lib.size_eq, hXl, List.length_drop, ← Lib.size_eq]
      clear hSd
      cases hc : P.data.toList.drop pn with
      | nil =>
        have hXz : X.size = 0 := by rw [Lib.size_eq, hXl, hc]; rfl
        have hte := toList_nil hXz
        have HO := Lib.hid (off_nil hc HSD.out)
        have HP1 := Lib.hid (prefix_to (X := X) (c := 42) (b := false) (by rw [hXl, hc]; rfl))
        have HP2 := Lib.hid (prefix_to (X := X) (c := 37) (b := false) (by rw [hXl, hc]; rfl))
        clear hc hXl
        cases pt with
        | true =>
          have hpe : pe < S.size := by omega
          have hse2 : S[pe] = S[pe] := rfl
          clear hse2
          obtain ⟨x, hxx⟩ : ∃ x, S[pe] = x := ⟨_, rfl⟩
          have HSP : Hid (S.data.toList.drop pe = x :: S.data.toList.drop (pe + 1)) := Lib.hid (by rw [← hxx]; exact drop_at S pe hpe)
          by_cases hx47 : x = 47
          · subst hx47
            cases st with
            | true =>
              obtain ⟨v, q, hvq, hv⟩ := find_slash (S.data.toList.drop se) (by
                have h5 : (47 : UInt8) ∈ S.data.toList.drop pe := by rw [HSP.out]; simp
                have h6 : se ≤ pe := hI.out.he
                obtain ⟨k, rfl⟩ : ∃ k, pe = se + k := ⟨pe - se, by omega⟩
                rw [← List.drop_drop] at h5
                exact List.mem_of_mem_drop h5)
              have hvl : se + v.length + 1 ≤ S.size := by
                have := congrArg List.length hvq
                simp only [List.length_drop, List.length_append, List.length_cons, ← Lib.size_eq] at this
                omega
              have HN := Lib.hid (hI.out.slash HO.out ⟨_, HSP.out⟩ v q hvq hv)
              have HNS : Hid (∀ W, Calls Tryd.prog 15 #[.string S, .agg #[.bool true, .int .i64 (sb : Int), .int .i64 (se : Int)], .agg #[.bool true, .int .i64 (pb : Int), .int .i64 (pe : Int)]] W fun z w' => z = .returned (.int .i64 (se + v.length + 1 : Int)) ∧ Below W.heap.size W w') := Lib.hid (fun W => next_slash S _ _ _ _ se W hS (by omega) v q hvq hv)
              clear hvq hv
              go_wp2_with fail
              refine (HP1.out wr).mono ?_
              rintro e w1 ⟨rfl, rfl⟩
              go_wp2_with fail
              refine (HP2.out wr).mono ?_
              rintro e w1 ⟨rfl, rfl⟩
              go_wp2_with fail
              go_region
              go_wp2_with fail
              refine (HNS.out wr.drew).mono ?_
              rintro e w2 ⟨rfl, hb2⟩
              have K1 := H1.out.drew.below hb2
              have K2 := H2.out.drew.below hb2
              have HB2 := Lib.hid (hb.out.drew.trans (hb2.mono hb.out.size))
              have z1 := K1.p1
              have z2 := K1.p2
              have zf2 := K1.free 2
              have zg0 := K2.free 0
              have zg1 := K2.free 1
              have zg2 := K2.free 2
              have zc0 := K2.p0
              have zc1 := K2.p1
              have zc2 := K2.p2
              have HK1 := Lib.hid K1
              have HK2 := Lib.hid K2
              have hsz2 : w.heap.size + 1 < w2.heap.size := K2.lt
              clear K1 K2 hb2 x0 x1 x2 y0 y1 y2 xf0 xf1 xf2 yf0 yf1 yf2
              have v1 : (w2.setCell ⟨w.heap.size, 2, none⟩ (.int .i64 (se + v.length + 1 : Int))).cell? ⟨w.heap.size, 1, none⟩ = some (.int .i64 (sb : Int)) := (HK1.out.set2 _).p1
              have v2 : (w2.setCell ⟨w.heap.size, 2, none⟩ (.int .i64 (se + v.length + 1 : Int))).cell? ⟨w.heap.size, 2, none⟩ = some (.int .i64 (se + v.length + 1 : Int)) := (HK1.out.set2 _).p2
              go_wp2_with fail
              go_region
              go_wp2_with fail
              have H1' := ((HK1.out.set2 (.int .i64 (se + v.length + 1 : Int))).otherAll HBS2 (.bool false) (.int .i64 0) (.int .i64 0)).drew
              have H2' := ((HK2.out.other HBS (o := 2) (.int .i64 (se + v.length + 1 : Int))).setAll (.bool false) (.int .i64 0) (.int .i64 0)).drew
              go_roundw
              case rel => exact ⟨a0, sb, se + v.length + 1, 0, 0, sb, se + v.length + 1, true, false, rfl, by go_num, HN, Lib.hid (fun _ => ⟨rfl, rfl⟩), by simpa using H1', by simpa using H2', Lib.hid ((below_all (HB2.out.setCell (p := ⟨w.heap.size, 2, none⟩) (Nat.le_refl _) _) (Nat.le_succ _) _ _ _).drew)⟩
              case measure =>
                have hm := wayLeft_of (M := P.size + S.size + 1) (p := sb) (se := se + v.length + 1) (pb := 0) (pe := 0) (by simpa using H1') (by simpa using H2')
                rw [HM.out]
                refine Nat.lt_of_le_of_lt (Nat.le_of_eq hm) (left5_b (show se < se + v.length + 1 by omega) (show se + v.length + 1 ≤ P.size + S.size + 1 by omega))
            | false =>
              have HN := Lib.hid (hI.out.none HO.out (fun _ => ⟨_, HSP.out⟩))
              go_wp2_with fail
              refine (HP1.out wr).mono ?_
              rintro e w1 ⟨rfl, rfl⟩
              go_wp2_with fail
              refine (HP2.out wr).mono ?_
              rintro e w1 ⟨rfl, rfl⟩
              go_wp2_with fail
              go_region
              go_wp2_with fail
              go_ret
              rw [HN.out]
              exact ⟨rfl, hb.out.drew⟩
          · have HN := Lib.hid (hI.out.part HO.out HSP.out hx47)
            have hx4 : ((x.toNat : Int) != 47) = true := by
              rw [bne_iff_ne]
              intro e
              exact hx47 (UInt8.toNat_inj.1 (by show x.toNat = 47; omega))
            clear hx47
            have v1 : (wr.setCell ⟨w.heap.size + 1, 2, none⟩ (.int .i64 (pe + 1 : Int))).cell? ⟨w.heap.size + 1, 1, none⟩ = some (.int .i64 (pb : Int)) := (H2.out.set2 _).p1
            have v2 : (wr.setCell ⟨w.heap.size + 1, 2, none⟩ (.int .i64 (pe + 1 : Int))).cell? ⟨w.heap.size + 1, 2, none⟩ = some (.int .i64 (pe + 1 : Int)) := (H2.out.set2 _).p2
            go_wp2_with fail
            refine (HP1.out wr).mono ?_
            rintro e w1 ⟨rfl, rfl⟩
            go_wp2_with fail
            refine (HP2.out wr).mono ?_
            rintro e w1 ⟨rfl, rfl⟩
            go_wp2_with fail
            go_region
            go_wp2_with fail
            go_region
            go_wp2_with fail
            have H1' := (H1.out.other HBS2 (o := 2) (.int .i64 ((pe + 1 : Nat) : Int))).drew.drew
            have H2' := (H2.out.set2 (.int .i64 ((pe + 1 : Nat) : Int))).drew.drew
            go_roundw
            case rel => exact ⟨a0, sb, se, pb, pe + 1, pb, pe + 1, st, true, rfl, by go_num, HN, Lib.hid (fun h => by cases h), H1', H2', Lib.hid ((hb.out.setCell (p := ⟨w.heap.size + 1, 2, none⟩) (Nat.le_succ _) _).drew.drew)⟩
            case measure =>
              have hm := wayLeft_of (M := P.size + S.size + 1) (p := pb) H1' H2'
              rw [HM.out]
              refine Nat.lt_of_le_of_lt (Nat.le_of_eq hm) (left5_d (show pe < pe + 1 by omega) (show pe + 1 ≤ P.size + S.size + 1 by omega))
        | false =>
          cases st with
          | true =>
            have hse1 : se < S.size := by omega
            have HN := Lib.hid (hI.out.next HO.out (by rw [← Lib.size_eq]; exact hse1))
            have HNS : Hid (∀ W, Calls Tryd.prog 15 #[.string S, .agg #[.bool true, .int .i64 (sb : Int), .int .i64 (se : Int)], .agg #[.bool false, .int .i64 (pb : Int), .int .i64 (pe : Int)]] W fun z w' => z = .returned (.int .i64 (se + 1 : Int)) ∧ Below W.heap.size W w') := Lib.hid (fun W => next_one S _ _ _ _ se W (by omega))
            go_wp2_with fail
            refine (HP1.out wr).mono ?_
            rintro e w1 ⟨rfl, rfl⟩
            go_wp2_with fail
            refine (HP2.out wr).mono ?_
            rintro e w1 ⟨rfl, rfl⟩
            go_wp2_with fail
            go_region
            go_wp2_with fail
            refine (HNS.out wr.drew).mono ?_
            rintro e w2 ⟨rfl, hb2⟩
            have K1 := H1.out.drew.below hb2
            have K2 := H2.out.drew.below hb2
            have HB2 := Lib.hid (hb.out.drew.trans (hb2.mono hb.out.size))
            have z1 := K1.p1
            have z2 := K1.p2
            have zf2 := K1.free 2
            have zg0 := K2.free 0
            have zg1 := K2.free 1
            have zg2 := K2.free 2
            have zc0 := K2.p0
            have zc1 := K2.p1
            have zc2 := K2.p2
            have HK1 := Lib.hid K1
            have HK2 := Lib.hid K2
            have hsz2 : w.heap.size + 1 < w2.heap.size := K2.lt
            clear K1 K2 hb2 x0 x1 x2 y0 y1 y2 xf0 xf1 xf2 yf0 yf1 yf2
            have v1 : (w2.setCell ⟨w.heap.size, 2, none⟩ (.int .i64 (se + 1 : Int))).cell? ⟨w.heap.size, 1, none⟩ = some (.int .i64 (sb : Int)) := (HK1.out.set2 _).p1
            have v2 : (w2.setCell ⟨w.heap.size, 2, none⟩ (.int .i64 (se + 1 : Int))).cell? ⟨w.heap.size, 2, none⟩ = some (.int .i64 (se + 1 : Int)) := (HK1.out.set2 _).p2
            go_wp2_with fail
            go_region
            go_wp2_with fail
            have H1' := ((HK1.out.set2 (.int .i64 (se + 1 : Int))).otherAll HBS2 (.bool false) (.int .i64 0) (.int .i64 0)).drew
            have H2' := ((HK2.out.other HBS (o := 2) (.int .i64 (se + 1 : Int))).setAll (.bool false) (.int .i64 0) (.int .i64 0)).drew
            go_roundw
            case rel => exact ⟨a0, sb, se + 1, 0, 0, sb, se + 1, true, false, rfl, by go_num, HN, Lib.hid (fun _ => ⟨rfl, rfl⟩), by simpa using H1', by simpa using H2', Lib.hid ((below_all (HB2.out.setCell (p := ⟨w.heap.size, 2, none⟩) (Nat.le_refl _) _) (Nat.le_succ _) _ _ _).drew)⟩
            case measure =>
              have hm := wayLeft_of (M := P.size + S.size + 1) (p := sb) (se := se + 1) (pb := 0) (pe := 0) (by simpa using H1') (by simpa using H2')
              rw [HM.out]
              refine Nat.lt_of_le_of_lt (Nat.le_of_eq hm) (left5_b (show se < se + 1 by omega) (show se + 1 ≤ P.size + S.size + 1 by omega))
          | false =>
            have HN := Lib.hid (hI.out.none HO.out (fun h => by cases h))
            go_wp2_with fail
            refine (HP1.out wr).mono ?_
            rintro e w1 ⟨rfl, rfl⟩
            go_wp2_with fail
            refine (HP2.out wr).mono ?_
            rintro e w1 ⟨rfl, rfl⟩
            go_wp2_with fail
            go_region
            go_wp2_with fail
            go_ret
            rw [HN.out]
            exact ⟨rfl, hb.out.drew⟩
      | cons c r =>
        have hp1 : pn < P.size := by
          have := congrArg List.length hc
          rw [List.length_drop, ← Lib.size_eq, List.length_cons] at this
          omega
        have hpd := drop_at P pn hp1
        have hpc : P[pn] = c := by
          rw [hc] at hpd
          exact (List.cons.inj hpd).1.symm
        rw [hpc] at hpd
        have HPD := Lib.hid hpd
        have hXz : 0 < X.size := by omega
        have hX0 : X[0] = c := by
          have h := byte_get X 0 hXz
          rw [← h]
          simp [hXl, hpd]
        have hte := toList_isEmpty (s := X) (by omega)
        have HP1 := Lib.hid (prefix_to (X := X) (c := 42) (b := (42 : UInt8) == c) (by rw [hXl, hpd, pre_cons]))
        have HP2 := Lib.hid (prefix_to (X := X) (c := 37) (b := (37 : UInt8) == c) (by rw [hXl, hpd, pre_cons]))
        clear hc hXl hpd hpc
        rcases byte_cases c with rfl | rfl | hl
        · have HN := Lib.hid (hI.out.star HPD.out)
          rw [show ((42 : UInt8) == 42) = true from rfl] at HP1
          clear hX0
          go_wp2_with fail
          refine (HP1.out wr).mono ?_
          rintro e w1 ⟨rfl, rfl⟩
          go_wp2_with fail
          have H1' := (H1.out.setAll (.bool true) (.int .i64 ((pn + 1 : Nat) : Int)) (.int .i64 (an : Int))).otherAll HBS2 (.bool false) (.int .i64 0) (.int .i64 0)
          have H2' := (H2.out.otherAll HBS (.bool true) (.int .i64 ((pn + 1 : Nat) : Int)) (.int .i64 (an : Int))).setAll (.bool false) (.int .i64 0) (.int .i64 0)
          go_roundw
          case rel => exact ⟨an, pn + 1, an, 0, 0, pn + 1, an, true, false, by go_num, rfl, HN, Lib.hid (fun _ => ⟨rfl, rfl⟩), H1', H2', Lib.hid (below_all (below_all hb.out (Nat.le_refl _) _ _ _) (Nat.le_succ _) _ _ _)⟩
          case measure =>
            have hm := wayLeft_of (M := P.size + S.size + 1) (p := pn + 1) H1' H2'
            rw [HM.out]
            refine Nat.lt_of_le_of_lt (Nat.le_of_eq hm) (left5_a (show sb < pn + 1 by omega) (show pn + 1 ≤ P.size + S.size + 1 by omega))
        · have HN := Lib.hid (hI.out.pct HPD.out)
          rw [show ((42 : UInt8) == 37) = false from rfl] at HP1
          rw [show ((37 : UInt8) == 37) = true from rfl] at HP2
          clear hX0
          go_wp2_with fail
          refine (HP1.out wr).mono ?_
          rintro e w1 ⟨rfl, rfl⟩
          go_wp2_with fail
          refine (HP2.out wr).mono ?_
          rintro e w1 ⟨rfl, rfl⟩
          go_wp2_with fail
          have H1' := H1.out.otherAll HBS2 (.bool true) (.int .i64 ((pn + 1 : Nat) : Int)) (.int .i64 (an : Int))
          have H2' := H2.out.setAll (.bool true) (.int .i64 ((pn + 1 : Nat) : Int)) (.int .i64 (an : Int))
          go_roundw
          case rel => exact ⟨a0, sb, se, pn + 1, an, pn + 1, an, st, true, by go_num, rfl, HN, Lib.hid (fun h => by cases h), H1', H2', Lib.hid (below_all hb.out (Nat.le_succ _) _ _ _)⟩
          case measure =>
            have hm := wayLeft_of (M := P.size + S.size + 1) (p := pn + 1) H1' H2'
            rw [HM.out]
            refine Nat.lt_of_le_of_lt (Nat.le_of_eq hm) (left5_c (show pb < pn + 1 by omega) (show pn + 1 ≤ P.size + S.size + 1 by omega))
        · have e42 : ((42 : UInt8) == c) = false := beq_eq_false_iff_ne.2 (fun e => hl.1 e.symm)
          have e37 : ((37 : UInt8) == c) = false := beq_eq_false_iff_ne.2 (fun e => hl.2 e.symm)
          rw [e42] at HP1
          rw [e37] at HP2
          clear e42 e37
          by_cases hcd : c = d
          · subst hcd
            have HN := Lib.hid (hI.out.same hl HPD.out HSD.out)
            clear hl
            go_wp2_with fail
            refine (HP1.out wr).mono ?_
            rintro e w1 ⟨rfl, rfl⟩
            go_wp2_with fail
            refine (HP2.out wr).mono ?_
            rintro e w1 ⟨rfl, rfl⟩
            go_wp2_with fail
            go_region
            go_wp2_with fail
            go_roundw
            case rel => exact ⟨a0, sb, se, pb, pe, pn + 1, an + 1, st, pt, by go_num, by go_num, HN, hz, H1.out.drew, H2.out.drew, Lib.hid hb.out.drew⟩
            case measure =>
              have hm := wayLeft_of (M := P.size + S.size + 1) (p := pn + 1) H1.out.drew H2.out.drew
              rw [HM.out]
              refine Nat.lt_of_le_of_lt (Nat.le_of_eq hm) (left5_e (show pn < pn + 1 by omega) (show pn + 1 ≤ P.size + S.size + 1 by omega))
          · have HO := Lib.hid (off_byte hl HPD.out HSD.out hcd)
            have hne : ((c.toNat : Int) == (d.toNat : Int)) = false := by
              rw [beq_eq_false_iff_ne]
              intro e
              exact hcd (UInt8.toNat_inj.1 (by omega))
            clear hcd hl
            cases pt with
            | true =>
              have hpe : pe < S.size := by omega
              have hse2 : S[pe] = S[pe] := rfl
              clear hse2
              obtain ⟨x, hxx⟩ : ∃ x, S[pe] = x := ⟨_, rfl⟩
              have HSP : Hid (S.data.toList.drop pe = x :: S.data.toList.drop (pe + 1)) := Lib.hid (by rw [← hxx]; exact drop_at S pe hpe)
              by_cases hx47 : x = 47
              · subst hx47
                cases st with
                | true =>
                  obtain ⟨v, q, hvq, hv⟩ := find_slash (S.data.toList.drop se) (by
                    have h5 : (47 : UInt8) ∈ S.data.toList.drop pe := by rw [HSP.out]; simp
                    have h6 : se ≤ pe := hI.out.he
                    obtain ⟨k, rfl⟩ : ∃ k, pe = se + k := ⟨pe - se, by omega⟩
                    rw [← List.drop_drop] at h5
                    exact List.mem_of_mem_drop h5)
                  have hvl : se + v.length + 1 ≤ S.size := by
                    have := congrArg List.length hvq
                    simp only [List.length_drop, List.length_append, List.length_cons, ← Lib.size_eq] at this
                    omega
                  have HN := Lib.hid (hI.out.slash HO.out ⟨_, HSP.out⟩ v q hvq hv)
                  have HNS : Hid (∀ W, Calls Tryd.prog 15 #[.string S, .agg #[.bool true, .int .i64 (sb : Int), .int .i64 (se : Int)], .agg #[.bool true, .int .i64 (pb : Int), .int .i64 (pe : Int)]] W fun z w' => z = .returned (.int .i64 (se + v.length + 1 : Int)) ∧ Below W.heap.size W w') := Lib.hid (fun W => next_slash S _ _ _ _ se W hS (by omega) v q hvq hv)
                  clear hvq hv
                  go_wp2_with fail
                  refine (HP1.out wr).mono ?_
                  rintro e w1 ⟨rfl, rfl⟩
                  go_wp2_with fail
                  refine (HP2.out wr).mono ?_
                  rintro e w1 ⟨rfl, rfl⟩
                  go_wp2_with fail
                  go_region
                  go_wp2_with fail
                  refine (HNS.out wr.drew).mono ?_
                  rintro e w2 ⟨rfl, hb2⟩
                  have K1 := H1.out.drew.below hb2
                  have K2 := H2.out.drew.below hb2
                  have HB2 := Lib.hid (hb.out.drew.trans (hb2.mono hb.out.size))
                  have z1 := K1.p1
                  have z2 := K1.p2
                  have zf2 := K1.free 2
                  have zg0 := K2.free 0
                  have zg1 := K2.free 1
                  have zg2 := K2.free 2
                  have zc0 := K2.p0
                  have zc1 := K2.p1
                  have zc2 := K2.p2
                  have HK1 := Lib.hid K1
                  have HK2 := Lib.hid K2
                  have hsz2 : w.heap.size + 1 < w2.heap.size := K2.lt
                  clear K1 K2 hb2 x0 x1 x2 y0 y1 y2 xf0 xf1 xf2 yf0 yf1 yf2
                  have v1 : (w2.setCell ⟨w.heap.size, 2, none⟩ (.int .i64 (se + v.length + 1 : Int))).cell? ⟨w.heap.size, 1, none⟩ = some (.int .i64 (sb : Int)) := (HK1.out.set2 _).p1
                  have v2 : (w2.setCell ⟨w.heap.size, 2, none⟩ (.int .i64 (se + v.length + 1 : Int))).cell? ⟨w.heap.size, 2, none⟩ = some (.int .i64 (se + v.length + 1 : Int)) := (HK1.out.set2 _).p2
                  go_wp2_with fail
                  go_region
                  go_wp2_with fail
                  have H1' := ((HK1.out.set2 (.int .i64 (se + v.length + 1 : Int))).otherAll HBS2 (.bool false) (.int .i64 0) (.int .i64 0)).drew
                  have H2' := ((HK2.out.other HBS (o := 2) (.int .i64 (se + v.length + 1 : Int))).setAll (.bool false) (.int .i64 0) (.int .i64 0)).drew
                  go_roundw
                  case rel => exact ⟨a0, sb, se + v.length + 1, 0, 0, sb, se + v.length + 1, true, false, rfl, by go_num, HN, Lib.hid (fun _ => ⟨rfl, rfl⟩), by simpa using H1', by simpa using H2', Lib.hid ((below_all (HB2.out.setCell (p := ⟨w.heap.size, 2, none⟩) (Nat.le_refl _) _) (Nat.le_succ _) _ _ _).drew)⟩
                  case measure =>
                    have hm := wayLeft_of (M := P.size + S.size + 1) (p := sb) (se := se + v.length + 1) (pb := 0) (pe := 0) (by simpa using H1') (by simpa using H2')
                    rw [HM.out]
                    refine Nat.lt_of_le_of_lt (Nat.le_of_eq hm) (left5_b (show se < se + v.length + 1 by omega) (show se + v.length + 1 ≤ P.size + S.size + 1 by omega))
                | false =>
                  have HN := Lib.hid (hI.out.none HO.out (fun _ => ⟨_, HSP.out⟩))
                  go_wp2_with fail
                  refine (HP1.out wr).mono ?_
                  rintro e w1 ⟨rfl, rfl⟩
                  go_wp2_with fail
                  refine (HP2.out wr).mono ?_
                  rintro e w1 ⟨rfl, rfl⟩
                  go_wp2_with fail
                  go_region
                  go_wp2_with fail
                  go_ret
                  rw [HN.out]
                  exact ⟨rfl, hb.out.drew⟩
              · have HN := Lib.hid (hI.out.part HO.out HSP.out hx47)
                have hx4 : ((x.toNat : Int) != 47) = true := by
                  rw [bne_iff_ne]
                  intro e
                  exact hx47 (UInt8.toNat_inj.1 (by show x.toNat = 47; omega))
                clear hx47
                have v1 : (wr.setCell ⟨w.heap.size + 1, 2, none⟩ (.int .i64 (pe + 1 : Int))).cell? ⟨w.heap.size + 1, 1, none⟩ = some (.int .i64 (pb : Int)) := (H2.out.set2 _).p1
                have v2 : (wr.setCell ⟨w.heap.size + 1, 2, none⟩ (.int .i64 (pe + 1 : Int))).cell? ⟨w.heap.size + 1, 2, none⟩ = some (.int .i64 (pe + 1 : Int)) := (H2.out.set2 _).p2
                go_wp2_with fail
                refine (HP1.out wr).mono ?_
                rintro e w1 ⟨rfl, rfl⟩
                go_wp2_with fail
                refine (HP2.out wr).mono ?_
                rintro e w1 ⟨rfl, rfl⟩
                go_wp2_with fail
                go_region
                go_wp2_with fail
                go_region
                go_wp2_with fail
                have H1' := (H1.out.other HBS2 (o := 2) (.int .i64 ((pe + 1 : Nat) : Int))).drew.drew
                have H2' := (H2.out.set2 (.int .i64 ((pe + 1 : Nat) : Int))).drew.drew
                go_roundw
                case rel => exact ⟨a0, sb, se, pb, pe + 1, pb, pe + 1, st, true, rfl, by go_num, HN, Lib.hid (fun h => by cases h), H1', H2', Lib.hid ((hb.out.setCell (p := ⟨w.heap.size + 1, 2, none⟩) (Nat.le_succ _) _).drew.drew)⟩
                case measure =>
                  have hm := wayLeft_of (M := P.size + S.size + 1) (p := pb) H1' H2'
                  rw [HM.out]
                  refine Nat.lt_of_le_of_lt (Nat.le_of_eq hm) (left5_d (show pe < pe + 1 by omega) (show pe + 1 ≤ P.size + S.size + 1 by omega))
            | false =>
              cases st with
              | true =>
                have hse1 : se < S.size := by omega
                have HN := Lib.hid (hI.out.next HO.out (by rw [← Lib.size_eq]; exact hse1))
                have HNS : Hid (∀ W, Calls Tryd.prog 15 #[.string S, .agg #[.bool true, .int .i64 (sb : Int), .int .i64 (se : Int)], .agg #[.bool false, .int .i64 (pb : Int), .int .i64 (pe : Int)]] W fun z w' => z = .returned (.int .i64 (se + 1 : Int)) ∧ Below W.heap.size W w') := Lib.hid (fun W => next_one S _ _ _ _ se W (by omega))
                go_wp2_with fail
                refine (HP1.out wr).mono ?_
                rintro e w1 ⟨rfl, rfl⟩
                go_wp2_with fail
                refine (HP2.out wr).mono ?_
                rintro e w1 ⟨rfl, rfl⟩
                go_wp2_with fail
                go_region
                go_wp2_with fail
                refine (HNS.out wr.drew).mono ?_
                rintro e w2 ⟨rfl, hb2⟩
                have K1 := H1.out.drew.below hb2
                have K2 := H2.out.drew.below hb2
                have HB2 := Lib.hid (hb.out.drew.trans (hb2.mono hb.out.size))
                have z1 := K1.p1
                have z2 := K1.p2
                have zf2 := K1.free 2
                have zg0 := K2.free 0
                have zg1 := K2.free 1
                have zg2 := K2.free 2
                have zc0 := K2.p0
                have zc1 := K2.p1
                have zc2 := K2.p2
                have HK1 := Lib.hid K1
                have HK2 := Lib.hid K2
                have hsz2 : w.heap.size + 1 < w2.heap.size := K2.lt
                clear K1 K2 hb2 x0 x1 x2 y0 y1 y2 xf0 xf1 xf2 yf0 yf1 yf2
                have v1 : (w2.setCell ⟨w.heap.size, 2, none⟩ (.int .i64 (se + 1 : Int))).cell? ⟨w.heap.size, 1, none⟩ = some (.int .i64 (sb : Int)) := (HK1.out.set2 _).p1
                have v2 : (w2.setCell ⟨w.heap.size, 2, none⟩ (.int .i64 (se + 1 : Int))).cell? ⟨w.heap.size, 2, none⟩ = some (.int .i64 (se + 1 : Int)) := (HK1.out.set2 _).p2
                go_wp2_with fail
                go_region
                go_wp2_with fail
                have H1' := ((HK1.out.set2 (.int .i64 (se + 1 : Int))).otherAll HBS2 (.bool false) (.int .i64 0) (.int .i64 0)).drew
                have H2' := ((HK2.out.other HBS (o := 2) (.int .i64 (se + 1 : Int))).setAll (.bool false) (.int .i64 0) (.int .i64 0)).drew
                go_roundw
                case rel => exact ⟨a0, sb, se + 1, 0, 0, sb, se + 1, true, false, rfl, by go_num, HN, Lib.hid (fun _ => ⟨rfl, rfl⟩), by simpa using H1', by simpa using H2', Lib.hid ((below_all (HB2.out.setCell (p := ⟨w.heap.size, 2, none⟩) (Nat.le_refl _) _) (Nat.le_succ _) _ _ _).drew)⟩
                case measure =>
                  have hm := wayLeft_of (M := P.size + S.size + 1) (p := sb) (se := se + 1) (pb := 0) (pe := 0) (by simpa using H1') (by simpa using H2')
                  rw [HM.out]
                  refine Nat.lt_of_le_of_lt (Nat.le_of_eq hm) (left5_b (show se < se + 1 by omega) (show se + 1 ≤ P.size + S.size + 1 by omega))
              | false =>
                have HN := Lib.hid (hI.out.none HO.out (fun h => by cases h))
                go_wp2_with fail
                refine (HP1.out wr).mono ?_
                rintro e w1 ⟨rfl, rfl⟩
                go_wp2_with fail
                refine (HP2.out wr).mono ?_
                rintro e w1 ⟨rfl, rfl⟩
                go_wp2_with fail
                go_region
                go_wp2_with fail
                go_ret
                rw [HN.out]
                exact ⟨rfl, hb.out.drew⟩
    · obtain rfl : an = S.size := by omega
      have g1 : ¬ (S.size : Int) < (S.size : Int) := by omega
      have HT : Hid (∀ W, Calls Tryd.prog 16 #[.string (P.extract pn P.size), .string ⟨#[42, 37]⟩] W fun e w' => (∃ Y : ByteArray, e = .returned (.string Y) ∧ (Y.toList == []) = mat P.data.toList S.data.toList) ∧ Below W.heap.size W w') := Lib.hid (fun W => trim_signs (by rw [ByteArray.size_extract]; omega) (ext_drop P pn) (hI.out.done (Lib.size_eq S)) W)
      go_wp2_with fail
      refine (HT.out wr).mono ?_
      rintro e w1 ⟨⟨Y, rfl, hY⟩, hb1⟩
      have HB2 := Lib.hid (hb.out.trans (hb1.mono hb.out.size))
      clear hb1
      go_wp2_with fail
      go_ret
      exact ⟨by rw [← hY]; rfl, HB2.out⟩
end Go.Proofs.YtnnbbjdidbggmaaDoor.Tr
