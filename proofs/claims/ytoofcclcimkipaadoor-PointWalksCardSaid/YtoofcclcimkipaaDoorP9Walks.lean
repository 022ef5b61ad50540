/-
  The law PointWalks returns true, of any value and any way. Condition: the library's tables and errors read as its text lays them.
-/
import Derived.Test.YtoofcclcimkipaaDoorP9Gets
import Derived.Test.YtoofcclcimkipaaDoorP9Esc
import Derived.Test.YtoofcclcimkipaaDoorRfDig
import Derived.BigQuiet
namespace Go.Proofs.YtoofcclcimkipaaDoor.J9
open Go Go.RowKit Go.Joins Kit J7 Nds J8

theorem point_way {n x : J} {X : ByteArray} {ls : List ByteArray} (hr : rightP 0 n = true) (hX : X.data.toList = pathL ls) (hz : X.size ≤ 1000) (h : Way n ls x) : pointP n X = (x, 0) := point_0 hr (partsP_path hX hz) h.end
theorem point_all {n : J} (hr : rightP 0 n = true) : pointP n ⟨#[]⟩ = (n, 0) := point_0 (l := []) hr rfl (by rw [followP])
/-- A way's next step, told by the way's number. -/
theorem way_step {n x : J} {ls : List ByteArray} {X : ByteArray} (h : X.data.toList = pathL ls ∧ Way n ls x) {k : Nat} (hk : k < x.kids.length) :
    (x.kind = 7 ∧ ∃ (hq : k < x.keys.length) , ((X ++ ⟨#[47]⟩) ++ ⟨(escL x.keys[k].data.toList).toArray⟩).data.toList = pathL (ls ++ [x.keys[k]]) ∧ Way n (ls ++ [x.keys[k]]) x.kids[k]) ∨
    (x.kind = 6 ∧ ((X ++ ⟨#[47]⟩) ++ Dg.digs (k : Int)).data.toList = pathL (ls ++ [Dg.digs (k : Int)]) ∧ Way n (ls ++ [Dg.digs (k : Int)]) x.kids[k]) := by
  rcases h.2.kinds hk with h7 | h6
  · obtain ⟨hq, hw⟩ := h.2.key h7 hk
    refine Or.inl ⟨h7, hq, ?_, hw⟩
    rw [data_append, data_append, h.1, pathL_snoc, List.append_assoc]
    rfl
  · refine Or.inr ⟨h6, ?_, h.2.num h6 hk⟩
    rw [data_append, data_append, h.1, pathL_snoc, List.append_assoc, digs_esc]
    rfl
theorem sz47 : (ByteArray.mk #[47]).size = 1 := rfl
theorem below_drewN9 (w : World) (k : Nat) : Below w.heap.size w (w.drewN k) := below_drewN (Below.refl _ w) k

set_option maxHeartbeats 16000000 in
set_option maxRecDepth 100000 in
theorem pointWalks_walk (n : J) (A : Option Addr) (m cap : Nat) (xs : List Int) (c0 c1 c2 c3 c4 : Value) (w : World) (ha : NodeIn w n (.agg #[c0, c1, c2, c3, c4])) (_hlen : xs.length = m)
    (hR : ∀ k, k < m → ∃ b off, A = some ⟨b, off, none⟩ ∧ b < w.heap.size ∧ w.cell? ⟨b, off + k, none⟩ = some (.int .u8 (xs.getD k 0)))
    (hB : ∀ k, 0 ≤ xs.getD k 0 ∧ xs.getD k 0 ≤ 255) (hE : EnvP w) :
    Calls Tryd.prog 4 #[.agg #[c0, c1, c2, c3, c4], .slice A m cap] w fun e w' => e = .returned (.bool true) ∧ Below w.heap.size w w' := by
  obtain ⟨xk, xn, xt, xa, xl, xc, xb, xm, xd, rfl, rfl, rfl, rfl, rfl⟩ := in_forms ha
  obtain ⟨W, hW, hbW, hsz, hbx⟩ := bx_later w (.int .i64 xk) (.int .i64 xn) (.string xt) (.slice xa xl xc) (.slice xb xm xd)
  have HA : Hid (∀ w', Below W.heap.size W w' → NodeIn w' n (.agg #[.int .i64 xk, .int .i64 xn, .string xt, .slice xa xl xc, .slice xb xm xd])) := Lib.hid (fun w' h => node_below h (node_below hbW ha))
  have HE : Hid (∀ w', Below W.heap.size W w' → EnvP w') := Lib.hid (fun w' h => (hE.next hbW).next h)
  have HW := Lib.hid hW
  have HBW : Hid (∀ w', Below W.heap.size W w' → Below w.heap.size w w') := Lib.hid (fun w' h => hbW.trans (h.mono hbW.size))
  have HR := Lib.hid hR
  have HBD := Lib.hid hB
  obtain ⟨G, hG⟩ : ∃ G, w.heap.size = G := ⟨_, rfl⟩
  rw [hG] at hbx
  have HG := Lib.hid hG
  have HBX := Lib.hid hbx
  have hg1 := great_any (HA.out W (Below.refl _ _))
  have h0 := HBX.out W (Below.refl _ _)
  have p0 := h0.p0
  have p1 := h0.p1
  have p2 := h0.p2
  have p3 := h0.p3
  have p4 := h0.p4
  clear ha hE hW hbW hsz hbx h0 hR hB
  go_enter Tryd.func4, Tryd.ntmps4
  go_upto_region 1 with fail
  rw [HW.out]
  (try rw [hG])
  clear hG
  go_wp2_with fail
  refine hg1.mono ?_
  rintro e w1 ⟨g, rfl, hb1, hs1⟩
  clear hg1 p0 p1 p2 p3 p4
  cases g with
  | true =>
    go_wp2_with fail
    refine (awake9 (HE.out w1 hb1)).mono ?_
    rintro e w2 ⟨rfl, hb2⟩
    go_wp2_with fail
    go_ret
    (try rw [← HG.out])
    exact ⟨rfl, HBW.out w2 (hb1.trans (hb2.mono hb1.size))⟩
  | false =>
    have HS := Lib.hid (hs1 rfl)
    clear hs1
    have h0 := HBX.out w1 hb1
    have p0 := h0.p0
    have p1 := h0.p1
    have p2 := h0.p2
    have p3 := h0.p3
    have p4 := h0.p4
    have hr1 := rRight9 HS.out.1 (HA.out w1 hb1)
    obtain ⟨rb, hrb⟩ : ∃ rb, rightP 0 n = rb := ⟨_, rfl⟩
    rw [hrb] at hr1
    have HRT := Lib.hid hrb
    clear h0 hrb
    go_wp2_with fail
    refine hr1.mono ?_
    rintro e w2 ⟨rfl, hb2⟩
    have hb02 := hb1.trans (hb2.mono hb1.size)
    clear hr1 p0 p1 p2 p3 p4 hb1 hb2
    cases rb with
    | false =>
      go_wp2_with fail
      refine (awake9 (HE.out w2 hb02)).mono ?_
      rintro e w3 ⟨rfl, hb3⟩
      go_wp2_with fail
      go_ret
      (try rw [← HG.out])
      exact ⟨rfl, HBW.out w3 (hb02.trans (hb3.mono hb02.size))⟩
    | true =>
      by_cases hm : m ≤ 20
      rotate_left 1
      · have g0 : (20 : Int) < (m : Int) := by omega
        clear hm
        go_wp2_with fail
        refine (awake9 (HE.out w2 hb02)).mono ?_
        rintro e w3 ⟨rfl, hb3⟩
        go_wp2_with fail
        go_ret
        (try rw [← HG.out])
        exact ⟨rfl, HBW.out w3 (hb02.trans (hb3.mono hb02.size))⟩
      have g0 : (m : Int) ≤ 20 := by omega
      obtain ⟨U, hU, hbU, hsU, hbxU⟩ := bx_later w2 (.int .i64 xk) (.int .i64 xn) (.string xt) (.slice xa xl xc) (.slice xb xm xd)
      obtain ⟨K, hK⟩ : ∃ K, w2.heap.size = K := ⟨_, rfl⟩
      have h0 := HBX.out w2 hb02
      have p0 := h0.p0
      have p1 := h0.p1
      have p2 := h0.p2
      have p3 := h0.p3
      have p4 := h0.p4
      have HU := Lib.hid hU
      have HB2 := Lib.hid hb02
      have hnat : NodeAt (fun g => g < K) U n (.agg #[.int .i64 xk, .int .i64 xn, .string xt, .slice xa xl xc, .slice xb xm xd]) := by
        rw [← hK]
        exact (node_at (HA.out w2 hb02)).keep (fun g hg _ => ⟨hg, hbU.block g hg⟩)
      have hway : Hid ((⟨#[]⟩ : ByteArray).data.toList = pathL [] ∧ Way n [] n) := Lib.hid ⟨rfl, Way.new (right_of HRT.out) HS.out.1 HS.out.2⟩
      have hbK : Below K w2 U := by rw [← hK]; exact hbU
      have hbx0 := hbxU U (Below.refl _ _)
      rw [hK] at hbx0
      have HK := Lib.hid hK
      clear h0 hU hbU hsU hbxU hb02 hK
      go_upto_region 4 with fail
      rw [HU.out]
      (try rw [HK.out])
      clear p0 p1 p2 p3 p4
      go_wp2_with fail
      go_loopg [6, 7] m (fun mm p i wr => ∃ (q : Nat) (ls : List ByteArray) (x : J) (X : ByteArray) (k5 n5 : Int) (t5 : ByteArray) (a5 : Option Addr) (l5 m5 : Nat) (b5 : Option Addr) (o5 q5 : Nat), mm = m - q ∧ q ≤ m ∧ p = .string X ∧ i = .int .i64 q ∧ Hid (X.data.toList = pathL ls ∧ Way n ls x) ∧ (X.size : Int) ≤ 700000 * q ∧ Bx K (.int .i64 k5) (.int .i64 n5) (.string t5) (.slice a5 l5 m5) (.slice b5 o5 q5) wr ∧ NodeAt (fun g => g < K) wr x (.agg #[.int .i64 k5, .int .i64 n5, .string t5, .slice a5 l5 m5, .slice b5 o5 q5]) ∧ Below K w2 wr)
      case atStart => exact ⟨0, [], n, ⟨#[]⟩, _, _, _, _, _, _, _, _, _, rfl, Nat.zero_le _, rfl, rfl, hway, by decide, hbx0, hnat, hbK⟩
      case round =>
        clear hnat hway hbK hbx0
        obtain ⟨q, ls, x, X, k5, n5, t5, a5, l5, m5, b5, o5, q5, rfl, hq, rfl, rfl, HWAY, hX, hbx, hat, hb⟩ := hrel
        obtain ⟨e0, -, -, ⟨a3', m3', e3⟩, ⟨a4', m4', e4⟩⟩ := node_cells hat
        have hk5 : k5 = x.kind := by injection e0
        have hl5 : l5 = x.keys.length := by injection e3
        have ho5 : o5 = x.kids.length := by injection e4
        have hvl : x.kids.length ≤ 65536 := by have := HWAY.out.2.tame; cases this; assumption
        have hbK2 : Below w2.heap.size w2 wr := by rw [HK.out]; exact hb
        have q0 := hbx.p0
        have q1 := hbx.p1
        have q2 := hbx.p2
        have q3 := hbx.p3
        have q4 := hbx.p4
        have HAT := Lib.hid hat
        have HBXR := Lib.hid hbx
        have HBR := Lib.hid hb
        have HB02 : Hid (Below W.heap.size W wr) := Lib.hid (HB2.out.trans (hbK2.mono HB2.out.size))
        by_cases hgo : q < m ∧ 0 < o5
        · obtain ⟨hlt, ho⟩ := hgo
          have g1 : (q : Int) < (m : Int) := by omega
          have g2 : (0 : Int) < (o5 : Int) := by omega
          have g3 : ((o5 : Int) == 0) = false := by rw [beq_eq_false_iff_ne]; omega
          obtain ⟨wb, woff, rfl, hbl, hcell⟩ := HR.out q hlt
          have hcw : wr.cell? ⟨wb, woff + q, none⟩ = some (.int .u8 (xs.getD q 0)) := ((HBW.out wr HB02.out).cell (p := ⟨wb, woff + q, none⟩) hbl).trans hcell
          have hbd := HBD.out q
          obtain ⟨c, hc⟩ : ∃ c, xs.getD q 0 = c := ⟨_, rfl⟩
          rw [hc] at hcw hbd
          obtain ⟨c1, c2⟩ := hbd
          obtain ⟨k, hk⟩ : ∃ k : Nat, c.toNat % o5 = k := ⟨_, rfl⟩
          have hklt : k < o5 := by rw [← hk]; exact Nat.mod_lt _ ho
          have hkm : c % (o5 : Int) = (k : Int) := by
            rw [← hk, Int.natCast_emod, Int.toNat_of_nonneg c1]
          have er : c.tmod (o5 : Int) = (k : Int) := by rw [IntWalk.rem_in _ _ c1]; exact hkm
          have hkx : k < x.kids.length := by omega
          have hko : (k : Int) < (o5 : Int) := by omega
          have ho5b : (o5 : Int) ≤ 65536 := by omega
          obtain ⟨bg, bo, bcap, e5, t1⟩ := kid_cells HAT.out (fun e => by rw [e] at hkx; exact absurd hkx (Nat.not_lt_zero k))
          obtain ⟨d0, d1, d2, d3, d4, s0, s1, s2, s3, s4, hkat⟩ := t1 k hkx
          obtain ⟨k7, n7, t7, a7, l7, m7, b7, o7, q7, rfl, rfl, rfl, rfl, rfl⟩ := node_forms hkat
          injection e5 with e51 e52 e53
          clear e52
          subst e51 e53
          have y0 := s0
          rw [show bo + 5 * k = bo + k * 5 by omega] at y0
          have y1 := s1
          rw [show bo + (5 * k + 1) = bo + k * 5 + 1 by omega] at y1
          have y2 := s2
          rw [show bo + (5 * k + 2) = bo + k * 5 + 2 by omega] at y2
          have y3 := s3
          rw [show bo + (5 * k + 3) = bo + k * 5 + 3 by omega] at y3
          have y4 := s4
          rw [show bo + (5 * k + 4) = bo + k * 5 + 4 by omega] at y4
          have hstep := way_step HWAY.out hkx
          have hparts := node_parts (in_of_at HAT.out)
          obtain ⟨kd, hkd⟩ : ∃ kd, x.kids[k] = kd := ⟨_, rfl⟩
          rw [hkd] at hstep hkat
          have HKAT := Lib.hid hkat
          have HY : Hid (∀ w', Below wr.heap.size wr w' → w'.cell? ⟨bg, bo + k * 5, none⟩ = some (.int .i64 k7) ∧ w'.cell? ⟨bg, bo + k * 5 + 1, none⟩ = some (.int .i64 n7) ∧ w'.cell? ⟨bg, bo + k * 5 + 2, none⟩ = some (.string t7) ∧ w'.cell? ⟨bg, bo + k * 5 + 3, none⟩ = some (.slice a7 l7 m7) ∧ w'.cell? ⟨bg, bo + k * 5 + 4, none⟩ = some (.slice b7 o7 q7) ∧ Bx K (.int .i64 k5) (.int .i64 n5) (.string t5) (.slice a5 l5 m5) (.slice (some ⟨bg, bo, none⟩) o5 q5) w') := Lib.hid (fun w' h => by
            have bw : ∀ {a v}, wr.cell? a = some v → w'.cell? a = some v := fun {a v} h9 => (h.cell (p := a) (World.block_lt_of_cell? wr _ h9)).trans h9
            exact ⟨bw y0, bw y1, bw y2, bw y3, bw y4, HBXR.out.same (h.block _ HBXR.out.lt)⟩)
          have HPUT : Hid (∀ w', Below wr.heap.size wr w' → Bx K (.int .i64 k7) (.int .i64 n7) (.string t7) (.slice a7 l7 m7) (.slice b7 o7 q7) (putN w' K (.int .i64 k7) (.int .i64 n7) (.string t7) (.slice a7 l7 m7) (.slice b7 o7 q7)) ∧ NodeAt (fun g => g < K) (putN w' K (.int .i64 k7) (.int .i64 n7) (.string t7) (.slice a7 l7 m7) (.slice b7 o7 q7)) kd (.agg #[.int .i64 k7, .int .i64 n7, .string t7, .slice a7 l7 m7, .slice b7 o7 q7]) ∧ Below K w2 (putN w' K (.int .i64 k7) (.int .i64 n7) (.string t7) (.slice a7 l7 m7) (.slice b7 o7 q7))) := Lib.hid (fun w' h => by
            have hKl : K < wr.heap.size := HBXR.out.lt
            refine ⟨(HBXR.out.same (h.block _ hKl)).setAll _ _ _ _ _, HKAT.out.keep (P' := fun g => g < K) (fun g hg hl => ⟨hg, (putN_block w' K _ _ _ _ _ g (by have hg : g < K := hg; omega)).trans (h.block g hl)⟩), ?_⟩
            exact set5_below (HBR.out.trans (h.mono (Nat.le_of_lt hKl))) (Nat.le_refl _) _ _ _ _ _)
          have hks : ∀ z (h : z < x.keys.length), x.keys[z].size ≤ 300000 := by have := HWAY.out.2.tame; cases this; assumption
          have HQ := Lib.hid hq
          clear hcell hbl hkm s0 s1 s2 s3 s4 y0 y1 y2 y3 y4 hkat t1 hat hbx hb hbK2 e0 e3 e4 hvl hc hk ho hkd
          rcases hstep with ⟨h7, hqk, hp, hw⟩ | ⟨h6, hp, hw⟩
          · obtain ⟨a3, m3, a4, m4, -, -, -, e3, -, hkeys, -⟩ := hparts
            injection e3 with e31 e32 e33
            clear e32
            subst e31 e33
            obtain ⟨kg, kof, rfl, hkc⟩ := hkeys k hqk
            have hkz := hks k hqk
            obtain ⟨key, hkey⟩ : ∃ key, x.keys[k] = key := ⟨_, rfl⟩
            rw [hkey] at hkc hkz hp hw
            have g7 : (k5 == 7) = true := by rw [beq_iff_eq, hk5]; exact h7
            have gl : (k : Int) < (l5 : Int) := by omega
            have hez : ((⟨(escL key.data.toList).toArray⟩ : ByteArray).size : Int) ≤ 600000 := by
              have h9 := escL_len key.data.toList
              rw [Lib.size_eq] at hkz
              rw [Lib.size_eq]
              show (((escL key.data.toList).length : Nat) : Int) ≤ 600000
              omega
            have HES := escape9 key hkz
            have HESC := Lib.hid HES
            obtain ⟨ES, hES⟩ : ∃ ES : ByteArray, (⟨(escL key.data.toList).toArray⟩ : ByteArray) = ES := ⟨_, rfl⟩
            rw [hES] at hp hez HESC
            have hXz : (X.size : Int) ≤ 14000000 := by omega
            have HPW := Lib.hid (And.intro hp hw)
            have HXZ := Lib.hid hX
            have hlt' := hlt
            clear hp hw hkey hkeys hkz HES hES hks hk5 hl5 ho5 hX hqk h7 hkx hklt HWAY
            go_wp2_with fail
            go_quiet (fail)
            go_wp2_with fail
            refine (HESC.out _).mono ?_
            rintro e w4 ⟨rfl, hb4'⟩
            have hb4 : Below wr.heap.size wr w4 := (below_drewN9 wr _).trans hb4'
            obtain ⟨y0, y1, y2, y3, y4, hbx4⟩ := HY.out w4 hb4
            have r0 := hbx4.p0
            have r1 := hbx4.p1
            have r2 := hbx4.p2
            have r3 := hbx4.p3
            have r4 := hbx4.p4
            have f0 := hbx4.free 0
            have f1 := hbx4.free 1
            have f2 := hbx4.free 2
            have f3 := hbx4.free 3
            have f4 := hbx4.free 4
            have HBP := Lib.hid (HPUT.out w4 hb4)
            clear hb4 hb4' hbx4 q0 q1 q2 q3 q4 hcw hkc
            go_wp2_with fail
            go_roundg (m - (q + 1))
            case measure => omega
            case rel =>
              refine ⟨q + 1, _, kd, _, _, _, _, _, _, _, _, _, _, rfl, hlt', rfl, by go_num, HPW, ?_, HBP.out.1, HBP.out.2.1, HBP.out.2.2⟩
              have := HXZ.out
              simp only [ByteArray.size_append, sz47]
              omega
          · have g7 : (k5 == 7) = false := by rw [beq_eq_false_iff_ne, hk5, h6]; decide
            have hdz : ((Dg.digs (k : Int)).size : Int) ≤ 19 := by have := Dg.digs_short (n := (k : Int)) (by omega); omega
            have HDG : Hid (∀ w', Calls Tryd.prog 16 #[.int .i64 (k : Int)] w' fun e w2 => e = .returned (.string (Dg.digs (k : Int))) ∧ Below w'.heap.size w' w2) := Lib.hid (fun w' => Rf.digits_call (k : Int) (by omega) (by omega) w')
            obtain ⟨ES, hES⟩ : ∃ ES : ByteArray, Dg.digs (k : Int) = ES := ⟨_, rfl⟩
            rw [hES] at hp hw hdz HDG
            have hXz : (X.size : Int) ≤ 14000000 := by omega
            have HPW := Lib.hid (And.intro hp hw)
            have HXZ := Lib.hid hX
            have hlt' := hlt
            clear hp hw hks hES hparts hk5 hl5 ho5 hX h6 hkx hklt HWAY
            go_wp2_with fail
            go_quiet (fail)
            go_wp2_with fail
            refine (HDG.out _).mono ?_
            rintro e w4 ⟨rfl, hb4'⟩
            have hb4 : Below wr.heap.size wr w4 := (below_drewN9 wr _).trans hb4'
            obtain ⟨y0, y1, y2, y3, y4, hbx4⟩ := HY.out w4 hb4
            have r0 := hbx4.p0
            have r1 := hbx4.p1
            have r2 := hbx4.p2
            have r3 := hbx4.p3
            have r4 := hbx4.p4
            have f0 := hbx4.free 0
            have f1 := hbx4.free 1
            have f2 := hbx4.free 2
            have f3 := hbx4.free 3
            have f4 := hbx4.free 4
            have HBP := Lib.hid (HPUT.out w4 hb4)
            clear hb4 hb4' hbx4 q0 q1 q2 q3 q4 hcw
            go_wp2_with fail
            go_roundg (m - (q + 1))
            case measure => omega
            case rel =>
              refine ⟨q + 1, _, kd, _, _, _, _, _, _, _, _, _, _, rfl, hlt', rfl, by go_num, HPW, ?_, HBP.out.1, HBP.out.2.1, HBP.out.2.2⟩
              have := HXZ.out
              simp only [ByteArray.size_append, sz47]
              omega
        · have hexit : ¬ (q : Int) < (m : Int) ∨ ((q : Int) < (m : Int) ∧ (o5 : Int) ≤ 0) := by
            by_cases hlt : q < m
            · refine Or.inr ⟨by omega, ?_⟩
              rcases Nat.eq_zero_or_pos o5 with h | h
              · omega
              · exact absurd ⟨hlt, h⟩ hgo
            · exact Or.inl (by omega)
          have HN := HA.out wr HB02.out
          have HBX2 := HBX.out wr HB02.out
          have HWX : Hid (X.data.toList = pathL ls ∧ Way n ls x) := HWAY
          have HBXX : Hid (∀ w', Below wr.heap.size wr w' → Bx K (.int .i64 k5) (.int .i64 n5) (.string t5) (.slice a5 l5 m5) (.slice b5 o5 q5) w' ∧ NodeIn w' x (.agg #[.int .i64 k5, .int .i64 n5, .string t5, .slice a5 l5 m5, .slice b5 o5 q5]) ∧ NodeIn w' n (.agg #[.int .i64 xk, .int .i64 xn, .string xt, .slice xa xl xc, .slice xb xm xd]) ∧ Bx G (.int .i64 xk) (.int .i64 xn) (.string xt) (.slice xa xl xc) (.slice xb xm xd) w' ∧ EnvP w' ∧ Below w.heap.size w w') := Lib.hid (fun w' h => ⟨HBXR.out.same (h.block _ HBXR.out.lt), in_of_at (HAT.out.keep (kept_below h)), node_below h HN, HBX2.same (h.block _ HBX2.lt), HE.out w' (HB02.out.trans (h.mono HB02.out.size)), HBW.out w' (HB02.out.trans (h.mono HB02.out.size))⟩)
          have HTX := Lib.hid HWAY.out.2.tame
          have hXz : (X.size : Int) ≤ 14000000 := by omega
          clear hbx hat hb hbK2 e0 e3 e4 hvl hk5 hl5 ho5 HN HBX2 hgo hX hq HBXR HAT HBR HB02 HWAY
          by_cases hbig : X.size ≤ 1000
          rotate_left 1
          · have g1000 : (1000 : Int) < (X.size : Int) := by omega
            rcases hexit with gx | ⟨gx, gy⟩
            all_goals
              go_wp2_with fail
              refine (awake9 (HBXX.out wr (Below.refl _ _)).2.2.2.2.1).mono ?_
              rintro e w4 ⟨rfl, hb4⟩
              go_wp2_with fail
              go_ret
              (try rw [← HG.out])
              exact ⟨rfl, (HBXX.out w4 hb4).2.2.2.2.2⟩
          · have g1000 : (X.size : Int) ≤ 1000 := by omega
            have HP0 := Lib.hid (point_way HRT.out HWX.out.1 hbig HWX.out.2)
            have HP1 := Lib.hid (point_all HRT.out)
            have h0 := (HBXX.out wr (Below.refl _ _)).2.2.2.1
            have p0 := h0.p0
            have p1 := h0.p1
            have p2 := h0.p2
            have p3 := h0.p3
            have p4 := h0.p4
            have hg := get9 n HS.out.1 HS.out.2 X wr (HBXX.out wr (Below.refl _ _)).2.2.2.2.1 _ _ _ _ _ (HBXX.out wr (Below.refl _ _)).2.2.1
            unfold PointLeft at hg
            rw [HP0.out] at hg
            clear h0 hbig
            rcases hexit with gx | ⟨gx, gy⟩
            all_goals
              go_wp2_with fail
              refine hg.mono ?_
              rintro e w3 ⟨z0, z1, z2, z3, z4, rfl, hn3, hb3⟩
              obtain ⟨yk, yn, yt, ya, yl, yc, yb, ym, yd, rfl, rfl, rfl, rfl, rfl⟩ := in_forms hn3
              clear hg p0 p1 p2 p3 p4 q0 q1 q2 q3 q4
              obtain ⟨V, hV, hbV, hsV, hbxV⟩ := bx_later w3 (.int .i64 yk) (.int .i64 yn) (.string yt) (.slice ya yl yc) (.slice yb ym yd)
              have hb0V : Below wr.heap.size wr V := hb3.trans (hbV.mono hb3.size)
              have h0 := (HBXX.out V hb0V).2.2.2.1
              have p0 := h0.p0
              have p1 := h0.p1
              have p2 := h0.p2
              have p3 := h0.p3
              have p4 := h0.p4
              have hg := get9 n HS.out.1 HS.out.2 ⟨#[]⟩ V (HBXX.out V hb0V).2.2.2.2.1 _ _ _ _ _ (HBXX.out V hb0V).2.2.1
              unfold PointLeft at hg
              rw [HP1.out] at hg
              obtain ⟨G2, hG2⟩ : ∃ G, w3.heap.size = G := ⟨_, rfl⟩
              rw [hG2] at hbxV
              have HV := Lib.hid hV
              have HG2 := Lib.hid hG2
              have HBV : Hid (∀ w', Below V.heap.size V w' → Below wr.heap.size wr w') := Lib.hid (fun w' h => hb0V.trans (h.mono hb0V.size))
              have HBXV := Lib.hid hbxV
              have HNV : Hid (∀ w', Below V.heap.size V w' → NodeIn w' x (.agg #[.int .i64 yk, .int .i64 yn, .string yt, .slice ya yl yc, .slice yb ym yd])) := Lib.hid (fun w' h => node_below h (node_below hbV hn3))
              clear h0 hn3 hV hbV hsV hbxV hb0V hb3 hG2
              go_upto_region 16 with fail
              rw [HV.out]
              (try rw [HG2.out])
              go_wp2_with fail
              refine hg.mono ?_
              rintro e w4 ⟨z0, z1, z2, z3, z4, rfl, hn4, hb4⟩
              obtain ⟨zk, zn, zt, za, zl, zc, zb, zm, zd, rfl, rfl, rfl, rfl, rfl⟩ := in_forms hn4
              clear hg p0 p1 p2 p3 p4
              obtain ⟨T, hT, hbT, hsT, hbxT⟩ := bx_later w4 (.int .i64 zk) (.int .i64 zn) (.string zt) (.slice za zl zc) (.slice zb zm zd)
              have hbVT : Below V.heap.size V T := hb4.trans (hbT.mono hb4.size)
              have hwT := HBV.out T hbVT
              obtain ⟨h0, h1, h2, h3, -, -⟩ := HBXX.out T hwT
              have p0 := h0.p0
              have p1 := h0.p1
              have p2 := h0.p2
              have p3 := h0.p3
              have p4 := h0.p4
              have r0 := h3.p0
              have r1 := h3.p1
              have r2 := h3.p2
              have r3 := h3.p3
              have r4 := h3.p4
              have h5 := HBXV.out T hbVT
              have s0 := h5.p0
              have s1 := h5.p1
              have s2 := h5.p2
              have s3 := h5.p3
              have s4 := h5.p4
              obtain ⟨G3, hG3⟩ : ∃ G, w4.heap.size = G := ⟨_, rfl⟩
              rw [hG3] at hbxT
              have h6 := hbxT T (Below.refl _ _)
              have t0 := h6.p0
              have t1 := h6.p1
              have t2 := h6.p2
              have t3 := h6.p3
              have t4 := h6.p4
              have hsm := same_in x x HTX.out T _ _ _ _ _ _ _ _ _ _ h1 (HNV.out T hbVT)
              rw [sameP_yes rfl] at hsm
              have HT := Lib.hid hT
              have HG3 := Lib.hid hG3
              have HBT : Hid (∀ w', Below T.heap.size T w' → Below wr.heap.size wr w') := Lib.hid (fun w' h => hwT.trans (h.mono hwT.size))
              have HALL : Hid (∀ w', Below T.heap.size T w' → NodeIn w' n (.agg #[.int .i64 zk, .int .i64 zn, .string zt, .slice za zl zc, .slice zb zm zd]) ∧ Bx G3 (.int .i64 zk) (.int .i64 zn) (.string zt) (.slice za zl zc) (.slice zb zm zd) w') := Lib.hid (fun w' h => ⟨node_below h (node_below hbT hn4), hbxT w' h⟩)
              clear h0 h1 h2 h3 h5 h6 hn4 hT hbT hsT hbxT hbVT hwT hb4 hG3
              go_upto_region 17 with fail
              rw [HT.out]
              (try rw [HG3.out])
              go_wp2_with fail
              refine (L3.num_any 0 _).mono ?_
              rintro e u1 ⟨rfl, rfl⟩
              go_wp2_with fail
              refine hsm.mono ?_
              rintro e w5 ⟨rfl, hb5⟩
              obtain ⟨i1, i2⟩ := HALL.out w5 hb5
              have j0 := i2.p0
              have j1 := i2.p1
              have j2 := i2.p2
              have j3 := i2.p3
              have j4 := i2.p4
              have i3 := (HBXX.out w5 (HBT.out w5 hb5)).2.2.2.1
              have o0 := i3.p0
              have o1 := i3.p1
              have o2 := i3.p2
              have o3 := i3.p3
              have o4 := i3.p4
              have hsm2 := same_in n n HS.out.1 w5 _ _ _ _ _ _ _ _ _ _ i1 (HBXX.out w5 (HBT.out w5 hb5)).2.2.1
              rw [sameP_yes rfl] at hsm2
              have HB5 := Lib.hid (HBT.out w5 hb5)
              clear i1 i2 i3 hb5 hsm p0 p1 p2 p3 p4 r0 r1 r2 r3 r4 s0 s1 s2 s3 s4 t0 t1 t2 t3 t4
              go_wp2_with fail
              refine (L3.num_any 0 _).mono ?_
              rintro e u1 ⟨rfl, rfl⟩
              go_wp2_with fail
              refine hsm2.mono ?_
              rintro e w6 ⟨rfl, hb6⟩
              have HB6 := Lib.hid (HB5.out.trans (hb6.mono HB5.out.size))
              clear hb6 hsm2 j0 j1 j2 j3 j4 o0 o1 o2 o3 o4
              go_wp2_with fail
              refine (awake9 (HBXX.out w6 HB6.out).2.2.2.2.1).mono ?_
              rintro e w7 ⟨rfl, hb7⟩
              go_wp2_with fail
              go_ret
              (try rw [← HG.out])
              exact ⟨rfl, (HBXX.out w7 (HB6.out.trans (hb7.mono HB6.out.size))).2.2.2.2.2⟩
end Go.Proofs.YtoofcclcimkipaaDoor.J9
