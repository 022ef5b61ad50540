/-
  The document's Split tells the fields of the lines of some bytes of a text, in a slice of its own, and the place behind the empty line. Conditions: the text has at most 32768 bytes, the places lie in it.
-/
import Derived.Test.YtkmopneeafbeaaaDoorF0RLines
import Derived.Test.YtkmopneeafbeaaaDoorF0RMade
import Derived.Test.YtkmopneeafbeaaaDoorF0RSpP
import Derived.Deep.CutBlock
namespace Go.Proofs.YtkmopneeafbeaaaDoor.F0
open Go Go.RowKit Go.Joins Kit

def tx3 (x : Tl) : List UInt8 := x.2.1
/-- Between two lines. -/
structure S1 (B : Nat) (w0 : World) (ls : List Tl) (lv tv : Value) (i : Nat) (W : World) : Prop where
  ln : RowL B lv ls W
  tx : RowT B tv (texL ((ls.take i).map tx3)) W
  ne : ∀ x ∈ ls.take i, tx3 x ≠ []
  below : Below B w0 W
theorem span_len (s : ByteArray) (k t : Nat) (h : k ≤ t) (ht : t ≤ s.size) : ((s.data.toList.take t).drop k).length = t - k := by
  rw [List.length_drop, List.length_take, ← Lib.size_eq]
  omega
theorem text_block (wr : World) (T : ByteArray) : (wr.alloc (.cells #[.string T] 9)).heap[wr.heap.size]? = some (.cells #[sV T.data.toList] 9 (0, 0)) := Kit.fresh_block wr _ _
theorem typeLT : 71 ≠ 9 := by decide
/-- Two rows of two types lie in two blocks. -/
theorem rows_ne {B B' size size' n n' : Nat} {e e' : TypeId} {v v' : Value} {xs xs' : List Value} {w : World} (h : w.ownsRow B e size v n xs) (h' : w.ownsRow B' e' size' v' n' xs') (he : e ≠ e') {g : Nat} (hg : v.ownBlock = some g) : v'.ownBlock ≠ some g := by
  obtain ⟨_, cur, hh⟩ := Rw.block h hg
  exact Rw.ne h' hh (fun cs e' => by injection e' with _ e'; exact he e')

set_option maxHeartbeats 1000000 in
set_option maxRecDepth 100000 in
theorem rsplit_none (s : ByteArray) (a t : Int) (w : World) (h : a < 0 ∨ t < a ∨ (s.size : Int) < t) :
    Calls Tryd.prog 45 #[.string s, .int .i64 a, .int .i64 t] w fun e w' => e = .returned (.tuple #[.slice none 0 0, .int .i64 a]) ∧ Below w.heap.size w w' := by
  by_cases h0 : a < 0
  · clear h
    go_enter Tryd.func45, Tryd.ntmps45
    go_wp2_with fail
    go_ret2
    exact ⟨rfl, Below.refl _ _⟩
  · by_cases h1 : (s.size : Int) < t
    · clear h
      go_enter Tryd.func45, Tryd.ntmps45
      go_wp2_with fail
      go_ret2
      exact ⟨rfl, Below.refl _ _⟩
    · have h2 : t < a := by omega
      clear h
      go_enter Tryd.func45, Tryd.ntmps45
      go_wp2_with fail
      go_ret2
      exact ⟨rfl, Below.refl _ _⟩

set_option maxHeartbeats 4000000 in
set_option maxRecDepth 100000 in
theorem rsplit_some (s : ByteArray) (a0 t0 : Nat) (w : World) (hs : s.size ≤ 32768) (hat : a0 ≤ t0) (hto : t0 ≤ s.size) :
    Calls Tryd.prog 45 #[.string s, .int .i64 (a0 : Int), .int .i64 (t0 : Int)] w fun e w' => ∃ v, e = .returned (.tuple #[v, .int .i64 ((splitL a0 t0 ((s.data.toList.take t0).drop a0)).2 : Int)]) ∧
      RowF w.heap.size v (splitL a0 t0 ((s.data.toList.take t0).drop a0)).1 w' ∧ Below w.heap.size w w' := by
  have g0 : ¬ (a0 : Int) < 0 := by omega
  have g1 : ¬ (t0 : Int) < (a0 : Int) := by omega
  have g2 : ¬ (s.size : Int) < (t0 : Int) := by omega
  go_enter Tryd.func45, Tryd.ntmps45
  go_wp2_with fail
  refine (rlines_any s a0 t0 w (by omega) hat hto).mono ?_
  rintro e w1 ⟨lv, ls, rfl, hrow, hls, hb1⟩
  have HLS := Lib.hid hls
  have HLEN : Hid (ls.length ≤ 32769) := Lib.hid (by
    have h1 := congrArg List.length hls
    rw [List.length_map] at h1
    have h2 := linesG_count ((s.data.toList.take t0).drop a0) [] a0
    rw [span_len s a0 t0 hat hto] at h2
    unfold linesL at h1
    omega)
  have HTXT : Hid (∀ x ∈ ls, (tx3 x).length ≤ 32768) := Lib.hid (fun x hx => by
    have h1 : x.2 ∈ linesL a0 ((s.data.toList.take t0).drop a0) := by rw [← hls]; exact List.mem_map_of_mem hx
    have h2 := (linesG_le _ _ _ _ h1).2
    rw [span_len s a0 t0 hat hto] at h2
    unfold tx3
    simp at h2
    omega)
  obtain ⟨la, lc, rfl⟩ := Rw.form hrow
  have hS0 : S1 w.heap.size w ls (.slice la ls.length lc) (.slice none 0 0) 0 w1 := ⟨hrow, RowT.new _ _, by simp, hb1⟩
  clear hrow hls hb1
  go_upto_block 0 with fail
  have HS0 := Lib.hid hS0
  clear hS0
  go_cut [8, 9, 11, 12] from 36 to 82 (fun tv bd _ _ wx => ∃ (W : World) (ts : List (List UInt8)) (b : Nat), RowT w.heap.size tv ts W ∧ bd = .int .i64 (b : Int) ∧ Hid ((ts.flatMap oneL, b) = splitL a0 t0 ((s.data.toList.take t0).drop a0)) ∧ Hid (ts.length ≤ 32769 ∧ ∀ x ∈ ts, x.length ≤ 1073774592) ∧ Below w.heap.size w W ∧ W = wx)
  case first =>
    go_wp2_with fail
    go_loopw [8, 9, 11] (fun v bd i wr => ∃ (q : Nat) (tv : Value), tv = v ∧ bd = .int .i64 (t0 : Int) ∧ q ≤ ls.length ∧ i = .int .i64 (q : Int) ∧ S1 w.heap.size w ls (.slice la ls.length lc) tv q wr) (fun _ _ i _ => ls.length - (intOf i).toNat)
    case atStart => exact ⟨0, _, rfl, rfl, Nat.zero_le _, rfl, HS0.out⟩
    case round =>
      obtain ⟨q, tv, rfl, rfl, hq, rfl, hS⟩ := hrel
      have HS := Lib.hid hS
      clear hS
      have HSM : Hid ((texL ((ls.take q).map tx3)).length ≤ 32769 ∧ ∀ x ∈ texL ((ls.take q).map tx3), x.length ≤ 1073774592) := Lib.hid (by
        have h1 := tex_count ((ls.take q).map tx3) []
        have h2 := HLEN.out
        have h3 := tex_le (M := 32768) (ls := (ls.take q).map tx3) (fun t ht => by
          obtain ⟨y, hy, rfl⟩ := List.mem_map.1 ht
          exact HTXT.out y (List.mem_of_mem_take hy))
        rw [List.length_map, List.length_take, List.length_nil] at h1
        rw [List.length_map, List.length_take] at h3
        refine ⟨by unfold texL; omega, fun x hx => Nat.le_trans (h3 x hx) ?_⟩
        refine Nat.le_trans (Nat.mul_le_mul_right 32768 (show min q ls.length ≤ 32769 by omega)) (by decide))
      have gls : (ls.length : Int) ≤ 32769 := by have := HLEN.out; omega
      by_cases hlt : q < ls.length
      · have g3 : (q : Int) < (ls.length : Int) := by omega
        obtain ⟨g, cap, hv, c1, c2⟩ := HS.out.ln.at q hlt
        injection hv with e1 _ e3
        subst e1 e3
        have HTK : Hid ((ls.take (q + 1)).map tx3 = (ls.take q).map tx3 ++ [tx3 ls[q]]) := Lib.hid (by rw [List.take_succ_eq_append_getElem hlt, List.map_append]; rfl)
        obtain ⟨Tb, hTb⟩ : ∃ Tb : ByteArray, (⟨(ls[q].2.1).toArray⟩ : ByteArray) = Tb := ⟨_, rfl⟩
        have HTB : Hid (tx3 ls[q] = Tb.data.toList) := Lib.hid (by rw [← hTb]; rfl)
        unfold sV at c1
        rw [hTb] at c1
        obtain ⟨nx, hnx⟩ : ∃ nx, ls[q].2.2 = nx := ⟨_, rfl⟩
        rw [hnx] at c2
        have HNX := Lib.hid hnx
        have gTb : (Tb.size : Int) ≤ 32768 := by
          have h1 := HTXT.out ls[q] (List.getElem_mem hlt)
          rw [HTB.out, ← Lib.size_eq] at h1
          omega
        clear hTb hnx
        by_cases h0 : Tb.size = 0
        · have hte := toList_nil h0
          have HEND : Hid (((texL ((ls.take q).map tx3)).flatMap oneL, nx) = splitL a0 t0 ((s.data.toList.take t0).drop a0)) := Lib.hid (by
            have h1 : ls.map (·.2) = (ls.take q).map (·.2) ++ ([], nx) :: (ls.drop (q + 1)).map (·.2) := by
              conv => lhs; rw [← List.take_append_drop q ls, List.map_append, List.drop_eq_getElem_cons hlt, List.map_cons]
              congr 2
              exact Prod.ext (by have := HTB.out; unfold tx3 at this; rw [this]; exact List.length_eq_zero_iff.1 (by rw [← Lib.size_eq]; exact h0)) HNX.out
            unfold splitL
            rw [← HLS.out, h1, fields_stop (fun x hx => by obtain ⟨y, hy, rfl⟩ := List.mem_map.1 hx; exact HS.out.ne y hy), tex_end, List.map_map]
            rfl)
          clear h0
          go_wp2_with fail
          go_meet
          exact ⟨_, _, nx, HS.out.tx, rfl, HEND, HSM, HS.out.below, rfl⟩
        · have hte := toList_isEmpty h0
          have HNE2 : Hid (∀ x ∈ ls.take (q + 1), tx3 x ≠ []) := Lib.hid (fun x hx => by
            rw [List.take_succ_eq_append_getElem hlt] at hx
            rcases List.mem_append.1 hx with h | h
            · exact HS.out.ne x h
            · simp only [List.mem_singleton] at h
              rw [h, HTB.out]
              exact data_ne h0)
          have hpos : 0 < Tb.size := Nat.pos_of_ne_zero h0
          obtain ⟨c, r, hcr, hc', _⟩ := drop_one Tb hpos
          have HGO : Hid (goesL (tx3 ls[q]) = blk c) := Lib.hid (by rw [HTB.out, hcr, goes_cons, blk_eq])
          clear hcr h0
          by_cases hq0 : q = 0
          · have g4 : ¬ (0 : Int) < (q : Int) := by omega
            have HPUT : Hid (goesL (tx3 ls[q]) = false ∨ texL ((ls.take q).map tx3) = []) := Lib.hid (Or.inr (by rw [hq0]; rfl))
            clear hq0
            have hnew : Hid (texL ((ls.take (q + 1)).map tx3) = texL ((ls.take q).map tx3) ++ [Tb.data.toList]) := Lib.hid (by
              rw [HTK.out, texL_snoc, putT_new HPUT.out, HTB.out])
            have hrow3 : RowT w.heap.size tv (texL ((ls.take q).map tx3)) (wr.alloc (.cells #[.string Tb] 9)) := Rw.below HS.out.tx ((Below.refl _ wr).alloc (Nat.le_refl _) _)
            have hln3 : RowL w.heap.size (.slice (some ⟨g, 0, none⟩) ls.length lc) ls (wr.alloc (.cells #[.string Tb] 9)) := Rw.below HS.out.ln ((Below.refl _ wr).alloc (Nat.le_refl _) _)
            have hB3 : w.heap.size ≤ (wr.alloc (.cells #[.string Tb] 9)).heap.size := Nat.le_trans HS.out.below.size (by simp)
            obtain ⟨TS, hTS⟩ : ∃ TS, texL ((ls.take q).map tx3) = TS := ⟨_, rfl⟩
            rw [hTS] at hrow3 hnew
            have hTSl : TS.length ≤ 1099511627776 := by
              rw [← hTS]
              have h1 := tex_count ((ls.take q).map tx3) []
              rw [List.length_map, List.length_take, List.length_nil] at h1
              have h2 := HLEN.out
              unfold texL
              omega
            have HROW3 := Lib.hid (And.intro hrow3 (And.intro hB3 hTSl))
            have HLN3 := Lib.hid hln3
            have hblk := Lib.hid (text_block wr Tb)
            clear hTS hrow3 hB3 hTSl hln3
            go_wp2_with (at_builtin; refine RowT.app rfl _ _ rfl w.heap.size _ tv TS HROW3.out.1 Tb.data.toList wr.heap.size 1 hblk.out rfl rfl HROW3.out.2.2 HROW3.out.2.1 ?_)
            intro g5 c5 w5 hrow5 hg5 hat5
            have HR5 := Lib.hid hrow5
            have hb5 : Below w.heap.size w w5 := (HS.out.below.alloc HS.out.below.size _).grown hg5 HROW3.out.2.1 (fun j hj => (Rw.block HROW3.out.1 hj).1)
            have hln5 : RowL w.heap.size (.slice (some ⟨g, 0, none⟩) ls.length lc) ls w5 := Rw.keep HLN3.out (fun j hj hl => hg5.block j hl (fun e => rows_ne HLN3.out HROW3.out.1 typeLT hj e.symm))
            have HS5 : Hid (S1 w.heap.size w ls (.slice (some ⟨g, 0, none⟩) ls.length lc) (.slice (some ⟨g5, 0, none⟩) (TS.length + 1) c5) (q + 1) w5) := Lib.hid ⟨hln5, by rw [hnew.out]; exact HR5.out, HNE2.out, hb5⟩
            clear hrow5 hg5 hat5 hb5 hln5
            go_wp2_with fail
            go_roundw
            case rel => exact ⟨q + 1, _, rfl, rfl, by omega, by go_num, HS5.out⟩
            case measure => simp [intOf]; omega
          · have g4 : (0 : Int) < (q : Int) := by omega
            cases hb : blk c
            · have HPUT : Hid (goesL (tx3 ls[q]) = false ∨ texL ((ls.take q).map tx3) = []) := Lib.hid (Or.inl (by rw [HGO.out, hb]))
              rw [blk_eq] at hb
              have hb1 : c ≠ 32 := fun e => by rw [e] at hb; cases hb
              have hb2 : c ≠ 9 := fun e => by rw [e] at hb; cases hb
              have hn1 : c.toNat ≠ 32 := fun e => hb1 (UInt8.toNat_inj.1 e)
              have hn2 : c.toNat ≠ 9 := fun e => hb2 (UInt8.toNat_inj.1 e)
              have q1 : ((c.toNat : Int) == 32) = false := by rw [beq_eq_false_iff_ne]; omega
              have q2 : ((c.toNat : Int) == 9) = false := by rw [beq_eq_false_iff_ne]; omega
              have q3 : ¬ (c.toNat : Int) = 32 := by omega
              clear hb hb1 hb2 hn1 hn2
              have hnew : Hid (texL ((ls.take (q + 1)).map tx3) = texL ((ls.take q).map tx3) ++ [Tb.data.toList]) := Lib.hid (by
                rw [HTK.out, texL_snoc, putT_new HPUT.out, HTB.out])
              have hrow3 : RowT w.heap.size tv (texL ((ls.take q).map tx3)) (wr.alloc (.cells #[.string Tb] 9)) := Rw.below HS.out.tx ((Below.refl _ wr).alloc (Nat.le_refl _) _)
              have hln3 : RowL w.heap.size (.slice (some ⟨g, 0, none⟩) ls.length lc) ls (wr.alloc (.cells #[.string Tb] 9)) := Rw.below HS.out.ln ((Below.refl _ wr).alloc (Nat.le_refl _) _)
              have hB3 : w.heap.size ≤ (wr.alloc (.cells #[.string Tb] 9)).heap.size := Nat.le_trans HS.out.below.size (by simp)
              obtain ⟨TS, hTS⟩ : ∃ TS, texL ((ls.take q).map tx3) = TS := ⟨_, rfl⟩
              rw [hTS] at hrow3 hnew
              have hTSl : TS.length ≤ 1099511627776 := by
                rw [← hTS]
                have h1 := tex_count ((ls.take q).map tx3) []
                rw [List.length_map, List.length_take, List.length_nil] at h1
                have h2 := HLEN.out
                unfold texL
                omega
              have HROW3 := Lib.hid (And.intro hrow3 (And.intro hB3 hTSl))
              have HLN3 := Lib.hid hln3
              have hblk := Lib.hid (text_block wr Tb)
              clear hTS hrow3 hB3 hTSl hln3
              go_wp2_with (at_builtin; refine RowT.app rfl _ _ rfl w.heap.size _ tv TS HROW3.out.1 Tb.data.toList wr.heap.size 1 hblk.out rfl rfl HROW3.out.2.2 HROW3.out.2.1 ?_)
              intro g5 c5 w5 hrow5 hg5 hat5
              have HR5 := Lib.hid hrow5
              have hb5 : Below w.heap.size w w5 := (HS.out.below.alloc HS.out.below.size _).grown hg5 HROW3.out.2.1 (fun j hj => (Rw.block HROW3.out.1 hj).1)
              have hln5 : RowL w.heap.size (.slice (some ⟨g, 0, none⟩) ls.length lc) ls w5 := Rw.keep HLN3.out (fun j hj hl => hg5.block j hl (fun e => rows_ne HLN3.out HROW3.out.1 typeLT hj e.symm))
              have HS5 : Hid (S1 w.heap.size w ls (.slice (some ⟨g, 0, none⟩) ls.length lc) (.slice (some ⟨g5, 0, none⟩) (TS.length + 1) c5) (q + 1) w5) := Lib.hid ⟨hln5, by rw [hnew.out]; exact HR5.out, HNE2.out, hb5⟩
              clear hrow5 hg5 hat5 hb5 hln5
              go_wp2_with fail
              go_roundw
              case rel => exact ⟨q + 1, _, rfl, rfl, by omega, by go_num, HS5.out⟩
              case measure => simp [intOf]; omega
            · have hne : texL ((ls.take q).map tx3) ≠ [] := texL_ne (fun e => by
                have := congrArg List.length e
                rw [List.length_map, List.length_take, List.length_nil] at this
                omega)
              obtain ⟨ps, j, hpj⟩ := snocT _ hne
              have hrow := HS.out.tx
              have hjs : j.length ≤ 1073774592 := HSM.out.2 j (by rw [hpj]; simp)
              have hpl : ps.length + 1 ≤ 32769 := by have := HSM.out.1; rw [hpj] at this; simpa using this
              rw [hpj] at hrow
              obtain ⟨gt, tcap, hv, ct, ft⟩ := hrow.at ps.length (by simp)
              subst hv
              have hnew : Hid (texL ((ls.take (q + 1)).map tx3) = ps ++ [j ++ Tb.data.toList]) := Lib.hid (by
                rw [HTK.out, texL_snoc, hpj, HTB.out, putT_on _ _ _ (by rw [← HTB.out, HGO.out, hb])])
              have HROW := Lib.hid hrow
              have hgt : w.heap.size ≤ gt := (Rw.block hrow rfl).1
              have HLN6 : Hid (∀ u, RowL w.heap.size (.slice (some ⟨g, 0, none⟩) ls.length lc) ls (wr.setCell ⟨gt, ps.length, none⟩ u)) := Lib.hid (fun u => Rw.keep HS.out.ln (fun j hj hl => Below.heap_setCell _ _ _ _ (fun e => rows_ne HS.out.ln HROW.out typeLT hj (by rw [e]; rfl))))
              have HJT : Hid (sV (j ++ Tb.data.toList) = .string ((⟨j.toArray⟩ : ByteArray) ++ Tb)) := Lib.hid (by
                unfold sV
                exact congrArg Value.string (Kit.bytes_ext (by rw [Joins.data_append])))
              have HS6 : Hid (S1 w.heap.size w ls (.slice (some ⟨g, 0, none⟩) ls.length lc) (.slice (some ⟨gt, 0, none⟩) (ps.length + 1) tcap) (q + 1) (wr.setCell ⟨gt, ps.length, none⟩ (.string ((⟨j.toArray⟩ : ByteArray) ++ Tb)))) := Lib.hid ⟨HLN6.out _, by
                  rw [hnew.out, ← HJT.out]
                  have h1 := HROW.out.setLast (j ++ Tb.data.toList)
                  rw [List.length_append, List.length_singleton] at h1
                  exact h1, HNE2.out, HS.out.below.setCell (p := ⟨gt, ps.length, none⟩) hgt _⟩
              have gps : (ps.length : Int) ≤ 32769 := by omega
              have gjs : (j.length : Int) ≤ 1073774592 := by omega
              have hcl : (ps ++ [j]).length = ps.length + 1 := by simp
              have hget : (ps ++ [j])[ps.length]'(by simp) = j := by simp
              rw [hget] at ct
              unfold sV at ct
              rw [blk_eq] at hb
              clear hrow hpj hne hjs hpl hget
              by_cases h32 : c = 32
              · subst h32
                go_wp2_with fail
                go_roundw
                case rel => exact ⟨q + 1, _, rfl, rfl, by omega, by go_num, HS6.out⟩
                case measure => simp [intOf]; omega
              · have hb2 : c = 9 := by
                  rw [Bool.or_eq_true, beq_iff_eq, beq_iff_eq] at hb
                  rcases hb with e | e
                  · exact absurd e h32
                  · exact e
                subst hb2
                clear h32
                go_wp2_with fail
                go_roundw
                case rel => exact ⟨q + 1, _, rfl, rfl, by omega, by go_num, HS6.out⟩
                case measure => simp [intOf]; omega
      · have g3 : ¬ (q : Int) < (ls.length : Int) := by omega
        have HEND : Hid (((texL ((ls.take q).map tx3)).flatMap oneL, t0) = splitL a0 t0 ((s.data.toList.take t0).drop a0)) := Lib.hid (by
          have h1 : ls.take q = ls := List.take_of_length_le (by omega)
          unfold splitL
          rw [← HLS.out, fields_all (fun x hx => by obtain ⟨y, hy, rfl⟩ := List.mem_map.1 hx; exact HS.out.ne y (by rw [h1]; exact hy)), tex_end, h1, List.map_map]
          rfl)
        go_wp2_with fail
        go_meet
        exact ⟨_, _, t0, HS.out.tx, rfl, HEND, HSM, HS.out.below, rfl⟩
  case rest =>
    obtain ⟨W, ts, b, hrow, rfl, HEQ, HSM, hb, rfl⟩ := hcut
    obtain ⟨ta, tcap, rfl⟩ := Rw.form hrow
    have gtl : (ts.length : Int) ≤ 32769 := by have := HSM.out.1; omega
    have HR0 := Lib.hid (And.intro hrow hb)
    clear hrow hb
    go_wp2_with fail
    go_loopw [13, 14] (fun ov i wr => ∃ (q : Nat) (fv : Value), fv = ov ∧ q ≤ ts.length ∧ i = .int .i64 (q : Int) ∧ RowF w.heap.size fv ((ts.take q).flatMap oneL) wr ∧ RowT w.heap.size (.slice ta ts.length tcap) ts wr ∧ Below w.heap.size w wr) (fun _ i _ => ts.length - (intOf i).toNat)
    case atStart => exact ⟨0, _, rfl, Nat.zero_le _, rfl, RowF.new _ _, HR0.out.1, HR0.out.2⟩
    case round =>
      obtain ⟨q, fv, rfl, hq, rfl, hF, hT, hb⟩ := hrel
      have HF := Lib.hid hF
      have HT := Lib.hid hT
      have HB := Lib.hid hb
      clear hF hb
      by_cases hlt : q < ts.length
      · have g3 : (q : Int) < (ts.length : Int) := by omega
        obtain ⟨g, cap, hv, c1, _⟩ := hT.at q hlt
        injection hv with e1 _ e3
        subst e1 e3
        clear hT
        obtain ⟨U, hU⟩ : ∃ U : ByteArray, (⟨(ts[q]).toArray⟩ : ByteArray) = U := ⟨_, rfl⟩
        have hUl : ts[q] = U.data.toList := by rw [← hU]
        unfold sV at c1
        rw [hU] at c1
        have hUs : U.size ≤ 1073774592 := by rw [Lib.size_eq, ← hUl]; exact HSM.out.2 _ (List.getElem_mem hlt)
        have HUS := Lib.hid hUs
        have HTK : Hid ((ts.take (q + 1)).flatMap oneL = (ts.take q).flatMap oneL ++ oneL U.data.toList) := Lib.hid (by rw [List.take_succ_eq_append_getElem hlt, List.flatMap_append, hUl]; simp)
        have HFL : Hid (((ts.take q).flatMap oneL).length ≤ 1099511627776) := Lib.hid (by
          have h1 : ∀ l : List (List UInt8), (l.flatMap oneL).length ≤ l.length := by
            intro l
            induction l with
            | nil => simp
            | cons a r ih => rw [List.flatMap_cons, List.length_append, List.length_cons]; have := oneL_le a; omega
          have h2 := h1 (ts.take q)
          have h3 := HSM.out.1
          rw [List.length_take] at h2
          omega)
        clear hU hUl hUs
        go_wp2_with fail
        refine (made_any U wr (Nat.le_trans HUS.out (by decide))).mono ?_
        rintro e w2 ⟨rfl, hb2⟩
        have HF2 := Lib.hid (HF.out.below hb2)
        have HT2 : Hid (RowT w.heap.size (.slice (some ⟨g, 0, none⟩) ts.length tcap) ts w2) := Lib.hid (Rw.below HT.out hb2)
        have HB2 := Lib.hid (HB.out.trans (hb2.mono HB.out.size))
        have c2 := (hb2.cell (p := ⟨g, q, none⟩) (cell_lt c1)).trans c1
        clear hb2 c1
        cases hf : fieldL U.data.toList with
        | none =>
          have HON : Hid ((ts.take (q + 1)).flatMap oneL = (ts.take q).flatMap oneL) := Lib.hid (by rw [HTK.out]; unfold oneL; rw [hf]; simp)
          clear hf
          unfold fV
          go_wp2_with fail
          go_roundw
          case rel => exact ⟨q + 1, _, rfl, by omega, by go_num, by rw [HON.out]; exact HF2.out.below ((Below.refl _ _).alloc (Nat.le_refl _) _), Rw.below HT2.out ((Below.refl _ _).alloc (Nat.le_refl _) _), HB2.out.alloc HB2.out.size _⟩
          case measure => simp [intOf]; omega
        | some f =>
          obtain ⟨fn, fw⟩ := f
          have HON : Hid ((ts.take (q + 1)).flatMap oneL = (ts.take q).flatMap oneL ++ [(fn, fw)]) := Lib.hid (by rw [HTK.out]; unfold oneL; rw [hf]; rfl)
          obtain ⟨c, r, hcr, hc1, hc2⟩ := field_head hf
          have hpos : 0 < U.size := by rw [Lib.size_eq, hcr]; simp
          obtain ⟨c', r', hcr', hc', _⟩ := drop_one U hpos
          obtain rfl : c' = c := by rw [hcr] at hcr'; exact (List.cons.inj hcr').1.symm
          have q1 : ((c'.toNat : Int) != 32) = true := by simp; omega
          have q2 : ((c'.toNat : Int) != 9) = true := by simp; omega
          have q3 : ¬ (c'.toNat : Int) = 32 := by omega
          have q4 : ¬ (c'.toNat : Int) = 9 := by omega
          clear hf hcr hcr' hc1 hc2
          unfold fV sV
          have hF3 : RowF w.heap.size fv ((ts.take q).flatMap oneL) ((w2.alloc (.cells #[.string ⟨fn.toArray⟩, .string ⟨fw.toArray⟩] 44)).alloc (.cells #[.string ⟨fn.toArray⟩, .string ⟨fw.toArray⟩] 44)) := HF2.out.below (((Below.refl _ _).alloc (Nat.le_refl _) _).alloc (by simp) _)
          have hT3 : RowT w.heap.size (.slice (some ⟨g, 0, none⟩) ts.length tcap) ts ((w2.alloc (.cells #[.string ⟨fn.toArray⟩, .string ⟨fw.toArray⟩] 44)).alloc (.cells #[.string ⟨fn.toArray⟩, .string ⟨fw.toArray⟩] 44)) := Rw.below HT2.out (((Below.refl _ _).alloc (Nat.le_refl _) _).alloc (by simp) _)
          have hB3 : w.heap.size ≤ ((w2.alloc (.cells #[.string ⟨fn.toArray⟩, .string ⟨fw.toArray⟩] 44)).alloc (.cells #[.string ⟨fn.toArray⟩, .string ⟨fw.toArray⟩] 44)).heap.size := Nat.le_trans HB2.out.size (by simp; omega)
          have hb3 : Below w.heap.size w ((w2.alloc (.cells #[.string ⟨fn.toArray⟩, .string ⟨fw.toArray⟩] 44)).alloc (.cells #[.string ⟨fn.toArray⟩, .string ⟨fw.toArray⟩] 44)) := (HB2.out.alloc HB2.out.size _).alloc (Nat.le_trans HB2.out.size (by simp)) _
          have hblk2 : ((w2.alloc (.cells #[.string ⟨fn.toArray⟩, .string ⟨fw.toArray⟩] 44)).alloc (.cells #[.string ⟨fn.toArray⟩, .string ⟨fw.toArray⟩] 44)).heap[w2.heap.size + 1]? = some (.cells #[sV (fn, fw).1, sV (fn, fw).2] 44 (0, 0)) := Bld.at_size (by simp)
          have c3 : (w2.alloc (.cells #[.string ⟨fn.toArray⟩, .string ⟨fw.toArray⟩] 44)).cell? ⟨g, q, none⟩ = some (.string U) := (((Below.refl _ w2).alloc (Nat.le_refl _) _).cell (p := ⟨g, q, none⟩) (cell_lt c2)).trans c2
          have HX := Lib.hid (And.intro hF3 (And.intro hT3 (And.intro hB3 (And.intro hb3 hblk2))))
          clear hF3 hT3 hB3 hb3 hblk2
          obtain ⟨FS, hFS⟩ : ∃ FS, (ts.take q).flatMap oneL = FS := ⟨_, rfl⟩
          rw [hFS] at HX HFL HON
          go_wp2_with (at_builtin; refine RowF.app rfl _ _ rfl w.heap.size _ fv FS HX.out.1 (fn, fw) _ 1 HX.out.2.2.2.2 rfl rfl HFL.out HX.out.2.2.1 ?_)
          intro g5 c5 w5 hrow5 hg5 hat5
          have HR5 := Lib.hid hrow5
          have hT5 : RowT w.heap.size (.slice (some ⟨g, 0, none⟩) ts.length tcap) ts w5 := Rw.keep HX.out.2.1 (fun j hj hl => hg5.block j hl (fun e => rows_ne HX.out.2.1 HX.out.1 (by decide) hj e.symm))
          have hb5 : Below w.heap.size w w5 := HX.out.2.2.2.1.grown hg5 HX.out.2.2.1 (fun j hj => (Rw.block HX.out.1 hj).1)
          have HZ := Lib.hid (And.intro hT5 hb5)
          clear hrow5 hg5 hat5 hT5 hb5 hFS
          go_wp2_with fail
          go_roundw
          case rel => exact ⟨q + 1, _, rfl, by omega, by go_num, by rw [HON.out]; exact HR5.out, HZ.out.1, HZ.out.2⟩
          case measure => simp [intOf]; omega
      · have g3 : ¬ (q : Int) < (ts.length : Int) := by omega
        have HALL : Hid (RowF w.heap.size fv (splitL a0 t0 ((s.data.toList.take t0).drop a0)).1 wr) := Lib.hid (by
          rw [← HEQ.out]
          have h1 := HF.out
          rwa [List.take_of_length_le (by omega)] at h1)
        have HBQ : Hid ((splitL a0 t0 ((s.data.toList.take t0).drop a0)).2 = b) := Lib.hid (by rw [← HEQ.out])
        clear hT
        go_wp2_with fail
        go_ret2
        rw [HBQ.out]
        exact ⟨_, rfl, HALL.out, HB.out⟩
end Go.Proofs.YtkmopneeafbeaaaDoor.F0
