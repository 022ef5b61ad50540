/-
  The document's Lines tells the lines of some bytes of a text: where each begins, its text, where the next begins. Condition: the text has at most 2^39 bytes, the places lie in it.
-/
import Derived.Test.YtkmopneeafbeaaaDoorF0RMem
import Derived.Test.YtkmopneeafbeaaaDoorF0RTrim
import Derived.IntWalk
import Derived.Deep.CutRange
namespace Go.Proofs.YtkmopneeafbeaaaDoor.F0
open Go Go.RowKit Go.Joins Kit

theorem span_succ (l : List UInt8) (k q : Nat) (hk : k ≤ q) (hq : q < l.length) : (l.take (q + 1)).drop k = (l.take q).drop k ++ [l[q]] := by
  rw [List.take_succ_eq_append_getElem hq, List.drop_append_of_le_length (by rw [List.length_take]; omega)]
theorem span_split (l : List UInt8) (k q t : Nat) (hk : k ≤ q) (hq : q < t) (ht : t ≤ l.length) : (l.take t).drop k = (l.take q).drop k ++ l[q] :: (l.take t).drop (q + 1) := by
  have h1 : (l.take t).drop k = ((l.take t).take q).drop k ++ (l.take t).drop q := by
    rw [← List.drop_append_of_le_length (by rw [List.length_take, List.length_take]; omega), List.take_append_drop]
  have h2 := List.drop_eq_getElem_cons (l := l.take t) (i := q) (by rw [List.length_take]; omega)
  rw [h1, List.take_take, Nat.min_eq_left (by omega), h2]
  simp
theorem extr (s : ByteArray) (k t : Nat) : (s.extract k t).data.toList = (s.data.toList.take t).drop k := by
  rw [← Lib.toList_data, Lib.extract_toList, List.drop_take]

theorem line_block (wr : World) (k nx : Nat) (T : ByteArray) (nxI : Int) (h : nxI = (nx : Int)) :
    (wr.alloc (.cells #[.int .i64 (k : Int), .string T, .int .i64 nxI] 71)).heap[wr.heap.size]? = some (.cells #[.int .i64 ((k, (T.data.toList, nx)) : Tl).1, sV ((k, (T.data.toList, nx)) : Tl).2.1, .int .i64 (((k, (T.data.toList, nx)) : Tl).2.2 : Int)] 71 (0, 0)) := by
  subst h
  exact Kit.fresh_block wr _ _

/-- Lines, each of which begins where the one ahead of it ends. -/
def Chain : Nat → List Tl → Nat → Prop
  | p, [], k => p = k
  | p, x :: r, k => x.1 = p ∧ Chain x.2.2 r k
theorem Chain.snoc : ∀ {p k : Nat} {ls : List Tl} (_ : Chain p ls k) (t : List UInt8) (n : Nat), Chain p (ls ++ [(k, (t, n))]) n
  | _, _, [], h, _, _ => ⟨h.symm, rfl⟩
  | _, _, _ :: _, h, t, n => ⟨h.1, Chain.snoc h.2 t n⟩

set_option maxHeartbeats 4000000 in
set_option maxRecDepth 100000 in
theorem rlines_chain (s : ByteArray) (a0 t0 : Nat) (w : World) (hs : s.size ≤ 549755813888) (hat : a0 ≤ t0) (hto : t0 ≤ s.size) :
    Calls Tryd.prog 48 #[.string s, .int .i64 (a0 : Int), .int .i64 (t0 : Int)] w fun e w' => ∃ v ls, e = .returned v ∧ RowL w.heap.size v ls w' ∧ ls.map (·.2) = linesL a0 ((s.data.toList.take t0).drop a0) ∧ Below w.heap.size w w' ∧ ∃ k, Chain a0 ls k := by
  go_enter Tryd.func48, Tryd.ntmps48
  go_wp2_with fail
  go_loopw [1, 7] (fun i v wr => ∃ (k : Nat) (ls : List Tl) (bv : Value), bv = v ∧ i = .int .i64 (k : Int) ∧ a0 ≤ k ∧ k ≤ t0 ∧ ls.length + a0 ≤ k ∧ Hid (ls.map (·.2) ++ linesL k ((s.data.toList.take t0).drop k) = linesL a0 ((s.data.toList.take t0).drop a0)) ∧ RowL w.heap.size bv ls wr ∧ Below w.heap.size w wr ∧ Hid (Chain a0 ls k)) (fun i _ _ => t0 - (intOf i).toNat)
  case atStart => exact ⟨a0, [], _, rfl, rfl, Nat.le_refl _, hat, by simp, Lib.hid rfl, RowL.new _ _, Below.refl _ _, Lib.hid rfl⟩
  case round =>
    obtain ⟨k, ls, v, rfl, rfl, hk0, hk1, hlen, hpre, hrow, hb, hch⟩ := hrel
    by_cases hlt : k < t0
    · have g1 : (k : Int) < (t0 : Int) := by omega
      have hrow := Lib.hid (And.intro hrow (show ls.length ≤ 1099511627776 by omega))
      have hb := Lib.hid hb
      go_wp2_with fail
      go_loop [8] (fun j => ∃ q : Nat, k ≤ q ∧ q ≤ t0 ∧ j = .int .i64 (q : Int) ∧ Hid (∀ c ∈ (s.data.toList.take q).drop k, c ≠ 10)) (fun j => t0 - (intOf j).toNat)
      case atStart => exact ⟨k, Nat.le_refl _, hk1, rfl, Lib.hid (by rw [List.drop_of_length_le (by rw [List.length_take]; omega)]; simp)⟩
      case round =>
        obtain ⟨q, hq0, hq1, rfl, hno⟩ := hrel
        by_cases hqt : q < t0
        · have g2 : (q : Int) < (t0 : Int) := by omega
          have hqs : q < s.size := by omega
          have hql : q < s.data.toList.length := by rw [← Lib.size_eq]; exact hqs
          have hbg := Lib.hid (byte_get s q hqs)
          have HSP := Lib.hid (span_split s.data.toList k q t0 hq0 hqt (by rw [← Lib.size_eq]; exact hto))
          obtain ⟨c, hc⟩ : ∃ c, s[q] = c := ⟨_, rfl⟩
          rw [hc] at hbg
          rw [hbg.out] at HSP
          have HSS := Lib.hid (span_succ s.data.toList k q hq0 hql)
          rw [hbg.out] at HSS
          by_cases hc10 : c = 10
          · have q1 : ((c.toNat : Int) != 10) = false := by rw [hc10]; rfl
            have HC10 := Lib.hid hc10
            clear hc10
            have HEX := Lib.hid (extr s k q)
            have hexs : (s.extract k q).size = q - k := by rw [ByteArray.size_extract]; omega
            have HLN : Hid (linesL k ((s.data.toList.take t0).drop k) = (chopL (s.extract k q).data.toList, q + 1) :: linesL (q + 1) ((s.data.toList.take t0).drop (q + 1))) := Lib.hid (by
              rw [HSP.out, HC10.out, linesL_cut _ _ _ hno.out, ← HEX.out, ← Lib.size_eq, hexs, show k + (q - k) + 1 = q + 1 by omega])
            go_upto_region 7 with fail
            generalize s.extract k q = X at HEX hexs HLN ⊢
            by_cases hE : X.size = 0
            · have hte := toList_nil hE
              have HCH : Hid (chopL X.data.toList = X.data.toList) := Lib.hid (by rw [List.length_eq_zero_iff.1 (show X.data.toList.length = 0 by rw [← Lib.size_eq]; exact hE)]; rfl)
              clear hexs hE
              have HN : Hid ((ls ++ [(k, (X.data.toList, q + 1))]).map (·.2) ++ linesL (q + 1) ((s.data.toList.take t0).drop (q + 1)) = linesL a0 ((s.data.toList.take t0).drop a0)) := Lib.hid (by
                rw [← hpre.out, List.map_append, List.append_assoc, HLN.out, HCH.out]
                rfl)
              have hblk := line_block wr k (q + 1) X ((q : Int) + 1) rfl
              have hrow3 : RowL w.heap.size v ls (wr.alloc (.cells #[.int .i64 (k : Int), .string X, .int .i64 ((q : Int) + 1)] 71)) := Rw.below hrow.out.1 ((Below.refl _ wr).alloc (Nat.le_refl _) _)
              have hB3 : w.heap.size ≤ (wr.alloc (.cells #[.int .i64 (k : Int), .string X, .int .i64 ((q : Int) + 1)] 71)).heap.size := Nat.le_trans hb.out.size (by simp)
              go_wp2_with (at_builtin; refine RowL.app rfl _ _ rfl w.heap.size _ v ls hrow3 (k, (X.data.toList, q + 1)) wr.heap.size 1 hblk rfl rfl hrow.out.2 hB3 ?_)
              intro g c5 w5 hrow5 hg5 hat5
              have HR5 := Lib.hid hrow5
              clear hrow5
              have hb5 : Below w.heap.size w w5 := (hb.out.alloc hb.out.size _).grown hg5 hB3 (fun j hj => (Rw.block hrow3 hj).1)
              clear hblk hrow3 hB3 hg5 hat5
              go_wp2_with fail
              go_roundw
              case rel => exact ⟨q + 1, ls ++ [(k, (X.data.toList, q + 1))], _, rfl, by go_num, by omega, by omega, by rw [List.length_append, List.length_singleton]; omega, HN, HR5.out, hb5, Lib.hid (hch.out.snoc _ _)⟩
              case measure => simp [intOf]; omega
            · have hte := toList_isEmpty hE
              have gX : (X.size : Int) ≤ 549755813888 := by omega
              obtain ⟨d, r, hdr, hd, hdx⟩ := drop_last X (by omega)
              have hlt2 : X.size - 1 < X.size := by omega
              have hd' := hd hlt2
              have hk1' : ((X.size : Int) - 1).toNat = X.size - 1 := by omega
              have hpos : (1 : Int) ≤ (X.size : Int) := by omega
              have HDX := Lib.hid hdx
              clear hdx hexs hE hd
              by_cases hd13 : d = 13
              · have HCH : Hid (chopL X.data.toList = (X.extract 0 (X.size - 1)).data.toList) := Lib.hid (by rw [HDX.out, hdr, hd13, chopL_cr])
                have HDL : Hid ((X.extract 0 (X.size - 1)).data.toList = X.data.toList.dropLast) := Lib.hid (by rw [HDX.out, hdr]; simp)
                subst hd13
                clear hdr
                have HN : Hid ((ls ++ [(k, ((X.extract 0 (X.size - 1)).data.toList, q + 1))]).map (·.2) ++ linesL (q + 1) ((s.data.toList.take t0).drop (q + 1)) = linesL a0 ((s.data.toList.take t0).drop a0)) := Lib.hid (by
                  rw [← hpre.out, List.map_append, List.append_assoc, HLN.out, HCH.out]
                  rfl)
                have hblk := line_block wr k (q + 1) (X.extract 0 (X.size - 1)) ((q : Int) + 1) rfl
                have hrow3 : RowL w.heap.size v ls (wr.alloc (.cells #[.int .i64 (k : Int), .string (X.extract 0 (X.size - 1)), .int .i64 ((q : Int) + 1)] 71)) := Rw.below hrow.out.1 ((Below.refl _ wr).alloc (Nat.le_refl _) _)
                have hB3 : w.heap.size ≤ (wr.alloc (.cells #[.int .i64 (k : Int), .string (X.extract 0 (X.size - 1)), .int .i64 ((q : Int) + 1)] 71)).heap.size := Nat.le_trans hb.out.size (by simp)
                go_wp2_with (at_builtin; refine RowL.app rfl _ _ rfl w.heap.size _ v ls hrow3 (k, ((X.extract 0 (X.size - 1)).data.toList, q + 1)) wr.heap.size 1 hblk rfl rfl hrow.out.2 hB3 ?_)
                intro g c5 w5 hrow5 hg5 hat5
                have HR5 := Lib.hid hrow5
                clear hrow5
                have hb5 : Below w.heap.size w w5 := (hb.out.alloc hb.out.size _).grown hg5 hB3 (fun j hj => (Rw.block hrow3 hj).1)
                clear hblk hrow3 hB3 hg5 hat5
                go_wp2_with fail
                go_roundw
                case rel => exact ⟨q + 1, ls ++ [(k, ((X.extract 0 (X.size - 1)).data.toList, q + 1))], _, rfl, by go_num, by omega, by omega, by rw [List.length_append, List.length_singleton]; omega, HN, by rw [HDL.out]; exact HR5.out, hb5, Lib.hid (hch.out.snoc _ _)⟩
                case measure => simp [intOf]; omega
              · have HCH : Hid (chopL X.data.toList = X.data.toList) := Lib.hid (by
                  rw [hdr]
                  exact chopL_other (by simpa using hd13))
                have q2 : ((d.toNat : Int) == 13) = false := by
                  have : d.toNat ≠ 13 := fun e => hd13 (UInt8.toNat_inj.1 e)
                  rw [beq_eq_false_iff_ne]
                  omega
                clear hdr hd13
                have HN : Hid ((ls ++ [(k, (X.data.toList, q + 1))]).map (·.2) ++ linesL (q + 1) ((s.data.toList.take t0).drop (q + 1)) = linesL a0 ((s.data.toList.take t0).drop a0)) := Lib.hid (by
                  rw [← hpre.out, List.map_append, List.append_assoc, HLN.out, HCH.out]
                  rfl)
                have hblk := line_block wr k (q + 1) X ((q : Int) + 1) rfl
                have hrow3 : RowL w.heap.size v ls (wr.alloc (.cells #[.int .i64 (k : Int), .string X, .int .i64 ((q : Int) + 1)] 71)) := Rw.below hrow.out.1 ((Below.refl _ wr).alloc (Nat.le_refl _) _)
                have hB3 : w.heap.size ≤ (wr.alloc (.cells #[.int .i64 (k : Int), .string X, .int .i64 ((q : Int) + 1)] 71)).heap.size := Nat.le_trans hb.out.size (by simp)
                go_wp2_with (at_builtin; refine RowL.app rfl _ _ rfl w.heap.size _ v ls hrow3 (k, (X.data.toList, q + 1)) wr.heap.size 1 hblk rfl rfl hrow.out.2 hB3 ?_)
                intro g c5 w5 hrow5 hg5 hat5
                have HR5 := Lib.hid hrow5
                clear hrow5
                have hb5 : Below w.heap.size w w5 := (hb.out.alloc hb.out.size _).grown hg5 hB3 (fun j hj => (Rw.block hrow3 hj).1)
                clear hblk hrow3 hB3 hg5 hat5
                go_wp2_with fail
                go_roundw
                case rel => exact ⟨q + 1, ls ++ [(k, (X.data.toList, q + 1))], _, rfl, by go_num, by omega, by omega, by rw [List.length_append, List.length_singleton]; omega, HN, HR5.out, hb5, Lib.hid (hch.out.snoc _ _)⟩
                case measure => simp [intOf]; omega
          · have q1 : ((c.toNat : Int) != 10) = true := by
              have : c.toNat ≠ 10 := fun e => hc10 (UInt8.toNat_inj.1 e)
              simp
              omega
            have HN10 : Hid (∀ c ∈ (s.data.toList.take (q + 1)).drop k, c ≠ 10) := Lib.hid (by
              rw [HSS.out]
              intro x hx
              rcases List.mem_append.1 hx with h | h
              · exact hno.out x h
              · simp only [List.mem_singleton] at h
                rw [h]
                exact hc10)
            clear hc10
            go_wp2_with fail
            go_round
            case rel => exact ⟨q + 1, by omega, by omega, by go_num, HN10⟩
            case measure => simp [intOf]; omega
        · have g2 : ¬ (q : Int) < (t0 : Int) := by omega
          have g3 : (q : Int) ≤ (s.size : Int) := by omega
          have HLN : Hid (linesL k ((s.data.toList.take t0).drop k) = ((s.extract k q).data.toList, q) :: linesL q ((s.data.toList.take t0).drop q)) := Lib.hid (by
            have hq : q = t0 := by omega
            have h1 := hno.out
            subst hq
            have h2 : ((s.data.toList.take q).drop k).length = q - k := by rw [List.length_drop, List.length_take, ← Lib.size_eq]; omega
            have h3 : (s.data.toList.take q).drop q = [] := List.drop_of_length_le (by rw [List.length_take]; omega)
            rw [linesL_last _ _ h1 (fun e => by rw [e] at h2; simp at h2; omega), h2, show k + (q - k) = q by omega, extr, h3, linesL_nil])
          go_upto_region 7 with fail
          generalize s.extract k q = X at HLN ⊢
          have HN : Hid ((ls ++ [(k, (X.data.toList, q))]).map (·.2) ++ linesL (q) ((s.data.toList.take t0).drop (q)) = linesL a0 ((s.data.toList.take t0).drop a0)) := Lib.hid (by
            rw [← hpre.out, List.map_append, List.append_assoc, HLN.out]
            rfl)
          have hblk := line_block wr k (q) X ((q : Int)) rfl
          have hrow3 : RowL w.heap.size v ls (wr.alloc (.cells #[.int .i64 (k : Int), .string X, .int .i64 ((q : Int))] 71)) := Rw.below hrow.out.1 ((Below.refl _ wr).alloc (Nat.le_refl _) _)
          have hB3 : w.heap.size ≤ (wr.alloc (.cells #[.int .i64 (k : Int), .string X, .int .i64 ((q : Int))] 71)).heap.size := Nat.le_trans hb.out.size (by simp)
          go_wp2_with (at_builtin; refine RowL.app rfl _ _ rfl w.heap.size _ v ls hrow3 (k, (X.data.toList, q)) wr.heap.size 1 hblk rfl rfl hrow.out.2 hB3 ?_)
          intro g c5 w5 hrow5 hg5 hat5
          have HR5 := Lib.hid hrow5
          clear hrow5
          have hb5 : Below w.heap.size w w5 := (hb.out.alloc hb.out.size _).grown hg5 hB3 (fun j hj => (Rw.block hrow3 hj).1)
          clear hblk hrow3 hB3 hg5 hat5
          go_wp2_with fail
          go_roundw
          case rel => exact ⟨q, ls ++ [(k, (X.data.toList, q))], _, rfl, by go_num, by omega, by omega, by rw [List.length_append, List.length_singleton]; omega, HN, HR5.out, hb5, Lib.hid (hch.out.snoc _ _)⟩
          case measure => simp [intOf]; omega
    · have g1 : ¬ (k : Int) < (t0 : Int) := by omega
      have hk : k = t0 := by omega
      have hend : Hid (ls.map (·.2) = linesL a0 ((s.data.toList.take t0).drop a0)) := Lib.hid (by
        have := hpre.out
        rwa [hk, List.drop_of_length_le (by rw [List.length_take]; omega), linesL_nil, List.append_nil] at this)
      clear hk
      go_wp2_with fail
      go_ret
      exact ⟨_, rfl, ls, hrow, hend.out, hb, k, hch.out⟩
theorem rlines_any (s : ByteArray) (a0 t0 : Nat) (w : World) (hs : s.size ≤ 549755813888) (hat : a0 ≤ t0) (hto : t0 ≤ s.size) :
    Calls Tryd.prog 48 #[.string s, .int .i64 (a0 : Int), .int .i64 (t0 : Int)] w fun e w' => ∃ v ls, e = .returned v ∧ RowL w.heap.size v ls w' ∧ ls.map (·.2) = linesL a0 ((s.data.toList.take t0).drop a0) ∧ Below w.heap.size w w' :=
  (rlines_chain s a0 t0 w hs hat hto).mono (fun _ _ h => by
    obtain ⟨v, ls, h1, h2, h3, h4, _⟩ := h
    exact ⟨v, ls, h1, h2, h3, h4⟩)
end Go.Proofs.YtkmopneeafbeaaaDoor.F0
