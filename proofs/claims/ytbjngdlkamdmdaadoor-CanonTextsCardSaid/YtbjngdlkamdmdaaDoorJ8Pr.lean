/-
  The program's printer: a right value's text, as far as it is not too long already. No law in this text. Conditions: what is written has at most 10^13 bytes; the library's table of powers of ten reads as its text lays it.
-/
import Derived.Test.YtbjngdlkamdmdaaDoorJ8Oct
import Derived.Test.YtbjngdlkamdmdaaDoorJ8CRight
import Derived.Test.YtbjngdlkamdmdaaDoorJ7Print
import Derived.Test.YtbjngdlkamdmdaaDoorTxEnv
namespace Go.Proofs.YtbjngdlkamdmdaaDoor.J8
open Go Go.RowKit Go.Joins Kit J7 Nds Dg

/-- The library's table reads as it did, in every world that keeps S. -/
def EnvS (S : Nat → Prop) (w : World) : Prop := ∀ w', Ks S w w' → Lib.TabIs Tryd.prog w' "internal/strconv.uint64pow10" .u64 Lib.pow10Tab
theorem EnvS.next {S : Nat → Prop} {w w1 : World} (h : EnvS S w) (k : Ks S w w1) : EnvS S w1 := fun w' k' => h w' (k.trans k')
theorem EnvS.up {S S' : Nat → Prop} {w : World} (h : EnvS S w) (hs : ∀ k, S k → S' k) : EnvS S' w := fun w' k' => h w' (k'.sub hs)
theorem numT_itoa (n : Int) : numT n = Lib.itoa n := by
  unfold numT Lib.itoa digs
  by_cases h : n < 0
  · rw [if_pos h, if_pos h, show (max n (-n)).toNat = n.natAbs by omega]
    rfl
  · rw [if_neg h, if_neg h, show (max n (-n)).toNat = n.toNat by omega]
    rfl
theorem itoaS {S : Nat → Prop} {w : World} (h : EnvS S w) (n : Int) (h0 : -9223372036854775808 ≤ n) (h1 : n ≤ 9223372036854775807) (w1 : World) (hk : Ks S w w1) :
    Calls Tryd.prog 36 #[.int .i64 n] w1 fun e w' => e = .returned (.string ⟨(numT n).toArray⟩) ∧ Below w1.heap.size w1 w' := by
  rw [numT_itoa]
  refine (Tryd.strconv_Itoa n h0 h1 w1 (h w1 hk)).mono ?_
  rintro e w' ⟨rfl, k, os, rfl⟩
  exact ⟨rfl, (below_drewN (Below.refl _ _) k).trans (Tx.below_grow os (Nat.le_refl _))⟩
theorem numT_len (n : Int) (h0 : -9007199254740991 ≤ n) (h1 : n ≤ 9007199254740991) : (numT n).length ≤ 20 := by
  have h2 := digs_short (n := max n (-n)) (by omega)
  rw [Lib.size_eq] at h2
  have h3 : (if n < 0 then ([45] : List UInt8) else []).length ≤ 1 := by split <;> simp
  unfold numT
  rw [List.length_append]
  omega
theorem quote_len (s : ByteArray) : (quoteL s.data.toList).length ≤ 6 * s.size + 2 := by
  have h2 := qL_len s.data.toList
  rw [← Lib.size_eq] at h2
  unfold quoteL
  rw [List.length_cons, List.length_append, List.length_singleton]
  omega
/-- A value's own box beside what there is. -/
def And1 (S : Nat → Prop) (G : Nat) : Nat → Prop := fun k => S k ∨ k = G
theorem Ks.kept {S : Nat → Prop} {w w' : World} (h : Ks S w w') : J7.Kept S S w w' := fun g hg _ => ⟨hg, h.block g hg⟩

def PValOk (j : J) : Prop := ∀ (S : Nat → Prop) (b : Nat) (l : List UInt8) (w : World) (c0 c1 c2 c3 c4 : Value), PB S b l w → NodeAt S w j (.agg #[c0, c1, c2, c3, c4]) → EnvS S w → l.length + (putJ j).length ≤ 50000000000000 →
  Calls Tryd.prog 22 #[.pointer (some ⟨b, 0, none⟩), .agg #[c0, c1, c2, c3, c4]] w fun e w' => e = .returned (.tuple #[]) ∧ ∃ m, Wr l (putJ j) m ∧ PB S b m w' ∧ Ks S w w'

set_option maxHeartbeats 8000000 in
set_option maxRecDepth 100000 in
theorem pleaf_any (k n : Int) (t : ByteArray) (hk : k = 1 ∨ k = 2 ∨ k = 3 ∨ k = 4 ∨ k = 5) (hn : n ≤ 9007199254740991) (hn2 : -9007199254740991 ≤ n) (ht : t.size ≤ 300000) : PValOk (.mk k n t [] []) := by
  intro S b l w c0 c1 c2 c3 c4 h hN hE hlen
  obtain ⟨e0, e1, e2, ⟨a3, m3, e3⟩, ⟨a4, m4, e4⟩⟩ := node_cells hN
  obtain rfl : c0 = .int .i64 k := e0
  obtain rfl : c1 = .int .i64 n := e1
  obtain rfl : c2 = .string t := e2
  obtain rfl : c3 = .slice a3 0 m3 := e3
  obtain rfl : c4 = .slice a4 0 m4 := e4
  obtain ⟨hb0, hA, hsz⟩ := bx_new w (.int .i64 k) (.int .i64 n) (.string t) (.slice a3 0 m3) (.slice a4 0 m4)
  obtain ⟨W, hW⟩ : ∃ W, w.alloc (.cells #[.int .i64 k, .int .i64 n, .string t, .slice a3 0 m3, .slice a4 0 m4] 25) = W := ⟨_, rfl⟩
  rw [hW] at hb0 hA hsz
  have hP := h.below hb0
  have hK := Ks.of_below hb0 h.slt
  obtain ⟨G, hG⟩ : ∃ G, w.heap.size = G := ⟨_, rfl⟩
  rw [hG] at hA hsz
  have HW := Lib.hid hW
  have p0 := hA.p0
  have p1 := hA.p1
  have p2 := hA.p2
  have HE := Lib.hid (hE.next hK)
  have HK := Lib.hid hK
  have HP : Hid (PB S b l W) := Lib.hid hP
  have HL := Lib.hid hlen
  clear hN hb0 hA hW hE hlen h hP hK
  rcases hk with rfl | rfl | rfl | rfl | rfl
  · have hw := wstr_any HP.out ⟨#[110, 117, 108, 108]⟩ (by have := HL.out; omega) (by decide)
    go_enter Tryd.func22, Tryd.ntmps22
    go_upto_region 1 with fail
    rw [HW.out]
    (try rw [hG])
    go_wp2_with fail
    refine hw.mono ?_
    rintro e w1 ⟨rfl, h1, k1⟩
    go_wp2_with fail
    go_end0
    exact ⟨rfl, _, Wr.one _ _, h1, HK.out.trans k1⟩
  · have hw := wstr_any HP.out ⟨#[102, 97, 108, 115, 101]⟩ (by have := HL.out; omega) (by decide)
    go_enter Tryd.func22, Tryd.ntmps22
    go_upto_region 1 with fail
    rw [HW.out]
    (try rw [hG])
    go_wp2_with fail
    refine hw.mono ?_
    rintro e w1 ⟨rfl, h1, k1⟩
    go_wp2_with fail
    go_end0
    exact ⟨rfl, _, Wr.one _ _, h1, HK.out.trans k1⟩
  · have hw := wstr_any HP.out ⟨#[116, 114, 117, 101]⟩ (by have := HL.out; omega) (by decide)
    go_enter Tryd.func22, Tryd.ntmps22
    go_upto_region 1 with fail
    rw [HW.out]
    (try rw [hG])
    go_wp2_with fail
    refine hw.mono ?_
    rintro e w1 ⟨rfl, h1, k1⟩
    go_wp2_with fail
    go_end0
    exact ⟨rfl, _, Wr.one _ _, h1, HK.out.trans k1⟩
  · have hP4 : putJ (.mk 4 n t [] []) = numT n := by rw [putJ]; rfl
    have HP4 := Lib.hid hP4
    have hit := fun w1 hk => itoaS HE.out n (by omega) (by omega) w1 hk
    have hnl := numT_len n hn2 hn
    obtain ⟨T, hT⟩ : ∃ T : ByteArray, (⟨(numT n).toArray⟩ : ByteArray) = T := ⟨_, rfl⟩
    rw [hT] at hit
    have HT : Hid (T.data.toList = numT n) := Lib.hid (by rw [← hT])
    have hTs : T.size ≤ 20 := by rw [Lib.size_eq, HT.out]; exact hnl
    have HTs := Lib.hid hTs
    clear hP4 hT hnl hTs
    go_enter Tryd.func22, Tryd.ntmps22
    go_upto_region 1 with fail
    rw [HW.out]
    (try rw [hG])
    go_wp2_with fail
    go_region_with (first | (go_at_call 36; refine (hit _ (Ks.drew S W)).mono ?_; rintro e w1 ⟨rfl, hb1⟩; have hp1 := (HP.out.below ((Below.refl _ W).drew)).below hb1; have hks := HK.out.trans ((Ks.drew S W).trans (Ks.of_below hb1 ((HP.out.below ((Below.refl _ W).drew)).slt))); have q1 := (hb1.cell (p := ⟨G, 1, none⟩) (World.block_lt_of_cell? W _ p1)).trans p1) | (refine (wstr_any hp1 T (by have := HL.out; omega) (by have := HTs.out; omega)).mono ?_; rintro e w2 ⟨rfl, h2, k2⟩))
    all_goals
      go_wp2_with fail
      go_end0
      rw [HP4.out]
      rw [HT.out] at h2
      exact ⟨rfl, _, Wr.one _ _, h2, hks.trans k2⟩
  · have hP5 : putJ (.mk 5 n t [] []) = quoteL t.data.toList := by rw [putJ]; rfl
    have HP5 := Lib.hid hP5
    have hw := ptext_any HP.out t ht (by have h9 := HL.out; rw [hP5] at h9; omega)
    clear hP5
    go_enter Tryd.func22, Tryd.ntmps22
    go_upto_region 1 with fail
    rw [HW.out]
    (try rw [hG])
    go_wp2_with fail
    refine hw.mono ?_
    rintro e w1 ⟨rfl, m, hm, h1, k1⟩
    go_wp2_with fail
    go_end0
    rw [HP5.out]
    exact ⟨rfl, m, hm, h1, HK.out.trans k1⟩

theorem putKs_at (obj : Bool) (keys : List ByteArray) (kids : List J) (i : Nat) (h : i < kids.length) (hk : obj = true → keys.length = kids.length) (kb : ByteArray) (hkb : obj = true → keys.getD i ⟨#[]⟩ = kb) :
    putKs obj (decide (i = 0)) (keys.drop i) (kids.drop i) = (if i = 0 then [] else [44]) ++ ((if obj then quoteL kb.data.toList ++ [58] else []) ++ (putJ kids[i] ++ putKs obj (decide (i + 1 = 0)) (keys.drop (i + 1)) (kids.drop (i + 1)))) := by
  rw [putKs_drop obj keys kids i h]
  cases obj
  · rfl
  · rw [hkb rfl]
set_option maxHeartbeats 16000000 in
set_option maxRecDepth 100000 in
theorem pkids_any (obj : Bool) (keys : List ByteArray) (kids : List J) (ih : ∀ i (h : i < kids.length), PValOk kids[i]) (hko : obj = true → keys.length = kids.length) (hkn : obj = false → keys = []) (hvl : kids.length ≤ 65536) (hks : ∀ k ∈ keys, k.size ≤ 300000) (k n : Int) (t : ByteArray) (op cl : UInt8)
    (S : Nat → Prop) (b : Nat) (l : List UInt8) (w : World) (c0 c1 c2 c3 c4 : Value) (h : PB S b l w) (hN : NodeAt S w (.mk k n t keys kids) (.agg #[c0, c1, c2, c3, c4])) (hE : EnvS S w) (hlen : l.length + (op :: (putKs obj true keys kids ++ [cl])).length ≤ 50000000000000) :
    Calls Tryd.prog 38 #[.pointer (some ⟨b, 0, none⟩), .int .u8 (op.toNat : Int), .agg #[c0, c1, c2, c3, c4], .int .u8 (cl.toNat : Int)] w fun e w' => e = .returned (.tuple #[]) ∧ ∃ m, Wr l (op :: (putKs obj true keys kids ++ [cl])) m ∧ PB S b m w' ∧ Ks S w w' := by
  obtain ⟨e0, e1, e2, ⟨a3, m3, e3⟩, ⟨a4, m4, e4⟩⟩ := node_cells hN
  obtain rfl : c0 = .int .i64 k := e0
  obtain rfl : c1 = .int .i64 n := e1
  obtain rfl : c2 = .string t := e2
  obtain rfl : c3 = .slice a3 keys.length m3 := e3
  obtain rfl : c4 = .slice a4 kids.length m4 := e4
  obtain ⟨nk, hnk⟩ : ∃ nk, keys.length = nk := ⟨_, rfl⟩
  obtain ⟨nv, hnv⟩ : ∃ nv, kids.length = nv := ⟨_, rfl⟩
  rw [hnk, hnv] at hN
  rw [hnk, hnv]
  obtain ⟨hb0, hA, hsz⟩ := bx_new w (.int .i64 k) (.int .i64 n) (.string t) (.slice a3 nk m3) (.slice a4 nv m4)
  obtain ⟨W, hW⟩ : ∃ W, w.alloc (.cells #[.int .i64 k, .int .i64 n, .string t, .slice a3 nk m3, .slice a4 nv m4] 25) = W := ⟨_, rfl⟩
  rw [hW] at hb0 hA hsz
  have hKS := Ks.of_below hb0 h.slt
  have hNW : NodeAt (And1 S w.heap.size) W (.mk k n t keys kids) (.agg #[.int .i64 k, .int .i64 n, .string t, .slice a3 nk m3, .slice a4 nv m4]) := hN.keep (fun g hg _ => ⟨Or.inl hg, hKS.block g hg⟩)
  have hP : PB (And1 S w.heap.size) b l W := h.more hb0 (fun q hq => by rcases hq with hq | rfl; exact Or.inl hq; exact Or.inr ⟨Nat.le_refl _, by omega⟩)
  have hEW : EnvS (And1 S w.heap.size) W := (hE.next hKS).up (fun _ hq => Or.inl hq)
  obtain ⟨G, hG⟩ : ∃ G, w.heap.size = G := ⟨_, rfl⟩
  rw [hG] at hA hsz hNW hP hEW
  obtain ⟨S', hS'⟩ : ∃ S', And1 S G = S' := ⟨_, rfl⟩
  rw [hS'] at hNW hP hEW
  have hSG : S' G := by rw [← hS']; exact Or.inr rfl
  have hSS : ∀ q, S q → S' q := fun q hq => by rw [← hS']; exact Or.inl hq
  have hSH : ∀ q, S' q → q < W.heap.size := hP.slt
  have HW := Lib.hid hW
  have HKS := Lib.hid hKS
  have HNW := Lib.hid hNW
  have HEW := Lib.hid hEW
  have HLEN := Lib.hid hlen
  have HNK := Lib.hid hnk
  have HNV := Lib.hid hnv
  have HSS := Lib.hid hSS
  have HIH := Lib.hid ih
  have HKO := Lib.hid hko
  have HKZ := Lib.hid hks
  have p4 := hA.p4
  have HA := Lib.hid hA
  have hvi : (nv : Int) ≤ 65536 := by omega
  have hnki : (nk : Int) ≤ 65536 := by cases obj; rw [← hnk, hkn rfl]; decide; rw [← hnk, hko rfl, hnv]; exact hvi
  have HOB : Hid (obj = false → nk = 0) := Lib.hid (fun e => by rw [← hnk, hkn e]; rfl)
  have HOK : Hid (obj = true → nk = nv) := Lib.hid (fun e => by rw [← hnk, hko e, hnv])
  have hop := wbyte_any hP op (by rw [List.length_cons] at hlen; omega)
  have HPS : Hid (∀ m w', PB S' b m w' → PB S b m w') := Lib.hid (fun m w' hp => hp.sub hSS)
  have HKK : Hid (∀ w', Ks S' W w' → Ks S w w') := Lib.hid (fun w' hk => hKS.trans (hk.sub hSS))
  clear hN hb0 hA hsz hKS hNW hEW hE hlen h hW hnk hnv ih hko hkn hks hvl hSS hP
  go_enter Tryd.func38, Tryd.ntmps38
  go_upto_region 1 with fail
  rw [HW.out]
  (try rw [hG])
  clear p4
  go_wp2_with fail
  refine hop.mono ?_
  rintro e w1 ⟨rfl, hp1, hk1⟩
  have p4 := (HA.out.same (hk1.block G hSG)).p4
  clear hop
  go_wp2_with fail
  clear p4
  go_loopg [18] nv (fun m v wr => ∃ (i : Nat) (cur : List UInt8), m = nv - i ∧ v = .int .i64 i ∧ i ≤ nv ∧ PB S' b cur wr ∧ Ks S' W wr ∧ Hid (∃ pre, Wr l pre cur ∧ pre ++ putKs obj (decide (i = 0)) (keys.drop i) (kids.drop i) = op :: putKs obj true keys kids))
  case atStart => exact ⟨0, _, rfl, rfl, Nat.zero_le _, hp1, hk1, Lib.hid ⟨[op], Wr.one _ _, rfl⟩⟩
  case round =>
    clear hp1 hk1
    obtain ⟨i, cur, rfl, rfl, hi, hpr, hkr, HC⟩ := hrel
    have HCL : Hid (cur.length ≤ 50000000000000) := by
      obtain ⟨pre, h1, h2⟩ := HC.out
      have h3 := h1.le
      have h4 := congrArg List.length h2
      have h5 := HLEN.out
      rw [List.length_append] at h4
      rw [List.length_cons, List.length_append] at h5
      rw [List.length_cons] at h4
      exact Lib.hid (by omega)
    by_cases hlt : i < nv
    · have hlt' : i < kids.length := by rw [HNV.out]; exact hlt
      have gi : (i : Int) < nv := by omega
      have hNr := HNW.out.keep hkr.kept
      have hEr := HEW.out.next hkr
      obtain ⟨g, o, cap, e1, t1⟩ := kid_cells hNr (by show kids ≠ []; intro e; rw [e] at hlt'; exact absurd hlt' (by simp))
      rw [show (J.mk k n t keys kids).kids.length = nv from HNV.out] at e1
      injection e1 with e1 _ e1c
      subst e1 e1c
      obtain ⟨x0, x1, x2, x3, x4, r0, r1, r2, r3, r4, hx⟩ := t1 i hlt'
      obtain ⟨xk, xn, xt, xa, xl, xc, xb, xm, xd, rfl, rfl, rfl, rfl, rfl⟩ := hx.forms8
      have r0' : wr.cell? ⟨g, o + i * 5, none⟩ = some (.int .i64 xk) := by rw [← r0]; congr 2; omega
      have r1' : wr.cell? ⟨g, o + i * 5 + 1, none⟩ = some (.int .i64 xn) := by rw [← r1]; congr 2; omega
      have r2' : wr.cell? ⟨g, o + i * 5 + 2, none⟩ = some (.string xt) := by rw [← r2]; congr 2; omega
      have r3' : wr.cell? ⟨g, o + i * 5 + 3, none⟩ = some (.slice xa xl xc) := by rw [← r3]; congr 2; omega
      have r4' : wr.cell? ⟨g, o + i * 5 + 4, none⟩ = some (.slice xb xm xd) := by rw [← r4]; congr 2; omega
      obtain ⟨hn1, hn2, hn3⟩ := bx_new wr (.int .i64 xk) (.int .i64 xn) (.string xt) (.slice xa xl xc) (.slice xb xm xd)
      obtain ⟨W1, hW1⟩ : ∃ W1, wr.alloc (Obj.cells #[.int .i64 xk, .int .i64 xn, .string xt, .slice xa xl xc, .slice xb xm xd] 25) = W1 := ⟨_, rfl⟩
      rw [hW1] at hn1 hn2 hn3
      have hk1 := Ks.of_below hn1 hpr.slt
      have hp1 : PB (And1 S' wr.heap.size) b cur W1 := hpr.more hn1 (fun q hq => by rcases hq with hq | rfl; exact Or.inl hq; exact Or.inr ⟨Nat.le_refl _, by omega⟩)
      have hx1 : NodeAt (And1 S' wr.heap.size) W1 kids[i] (.agg #[.int .i64 xk, .int .i64 xn, .string xt, .slice xa xl xc, .slice xb xm xd]) := hx.keep (fun g hg _ => ⟨Or.inl hg, hk1.block g hg⟩)
      have hE1 : EnvS (And1 S' wr.heap.size) W1 := (hEr.next hk1).up (fun _ hq => Or.inl hq)
      have hN1 : NodeAt (And1 S' wr.heap.size) W1 (.mk k n t keys kids) (.agg #[.int .i64 k, .int .i64 n, .string t, .slice a3 nk m3, .slice (some ⟨g, o, none⟩) nv m4]) := hNr.keep (fun g hg _ => ⟨Or.inl hg, hk1.block g hg⟩)
      have hA1 := HA.out.same ((hkr.trans hk1).block G hSG)
      have HW1 := Lib.hid hW1
      obtain ⟨H, hH⟩ : ∃ H, wr.heap.size = H := ⟨_, rfl⟩
      rw [hH] at hn2 hn3 hp1 hx1 hE1 hN1
      have HHH := Lib.hid hH
      have hSG1 : And1 S' H G := Or.inl hSG
      have hSH1 : And1 S' H H := Or.inr rfl
      have HPS1 : Hid (∀ m w', PB (And1 S' H) b m w' → PB S' b m w') := Lib.hid (fun m w' hp => hp.sub (fun _ hq => Or.inl hq))
      have HKK1 : Hid (∀ w', Ks (And1 S' H) W1 w' → Ks S' W w') := Lib.hid (fun w' hk => (hkr.trans hk1).trans (hk.sub (fun _ hq => Or.inl hq)))
      obtain ⟨S1, hS1⟩ : ∃ S1, And1 S' H = S1 := ⟨_, rfl⟩
      rw [hS1] at hp1 hx1 hE1 hN1 hSG1 hSH1 HPS1 HKK1
      have hf := isFull_any hp1
      have HX1 := Lib.hid hx1
      have HN1 := Lib.hid hN1
      have HE1 := Lib.hid hE1
      have HB1 := Lib.hid hn2
      have HA1 := Lib.hid hA1
      clear hNr hEr t1 hx r0 r1 r2 r3 r4 hn1 hn2 hn3 hk1 hx1 hE1 hN1 hA1 hpr hkr hW1 hH hS1
      by_cases hfu : full cur = true
      · rw [hfu] at hf
        go_upto_region 5 with fail
        rw [HW1.out]
        (try rw [HHH.out])
        clear r0' r1' r2' r3' r4'
        go_wp2_with fail
        refine hf.mono ?_
        rintro e w2 ⟨rfl, rfl⟩
        go_wp2_with fail
        refine bodyPost_ret (results_none rfl _ _ _) rfl ?_
        obtain ⟨pre, h1, h2⟩ := HC.out
        refine ⟨rfl, cur, ?_, HPS.out _ _ (HPS1.out _ _ hp1), HKK.out _ (HKK1.out _ (Ks.refl _ _))⟩
        rw [show op :: (putKs obj true keys kids ++ [cl]) = pre ++ (putKs obj (decide (i = 0)) (keys.drop i) (kids.drop i) ++ [cl]) by rw [← List.append_assoc, h2, List.cons_append]]
        exact h1.cut (full_yes hfu) _
      · rw [show full cur = false by simpa using hfu] at hf
        clear hfu
        cases obj with
        | false =>
          obtain rfl : nk = 0 := HOB.out rfl
          have gk : ¬ (i : Int) < (0 : Nat) := by omega
          by_cases h0 : i = 0
          · skip
            have HC2 : Hid (∃ pre, Wr l pre cur ∧ pre ++ (([] : List UInt8) ++ (([] : List UInt8) ++ (putJ kids[i] ++ putKs false (decide (i + 1 = 0)) (keys.drop (i + 1)) (kids.drop (i + 1))))) = op :: putKs false true keys kids) := by
              obtain ⟨pre, h1, h2⟩ := HC.out
              rw [putKs_at false keys kids i hlt' HKO.out ⟨#[]⟩ (fun e => absurd e (by decide))] at h2
              rw [if_pos h0] at h2
              exact Lib.hid ⟨pre, h1, h2⟩
            clear HC
            subst h0
            have gi0 : (0 : Int) < nv := by omega
            simp only [Nat.zero_mul, Nat.add_zero] at r0' r1' r2' r3' r4'
            have r3 := HA1.out.p3
            go_upto_region 5 with fail
            rw [HW1.out]
            (try rw [HHH.out])
            clear r0' r1' r2' r3' r4'
            go_wp2_with fail
            refine hf.mono ?_
            rintro e w2 ⟨rfl, rfl⟩
            obtain ⟨pre, hpre, heq⟩ := HC2.out
            have HEQ := Lib.hid heq
            have HWR0 := Lib.hid hpre
            clear heq hpre HC2
            have k0 : Ks S1 w2 w2 := Ks.refl _ _
            have hB5 := HB1.out.same (k0.block H hSH1)
            have q0 := hB5.p0
            have q1 := hB5.p1
            have q2 := hB5.p2
            have q3 := hB5.p3
            have q4 := hB5.p4
            have hval := HIH.out 0 hlt' S1 b _ w2 _ _ _ _ _ hp1 (HX1.out.keep k0.kept) (HE1.out.next k0) (by
              have h1 := HWR0.out.le
              have h2 := congrArg List.length HEQ.out
              have h3 := HLEN.out
              simp only [List.length_append, List.length_cons, List.length_nil] at h1 h2 h3 ⊢
              omega)
            clear hB5
            go_wp2_with fail
            refine hval.mono ?_
            rintro e w9 ⟨rfl, m9, hm9, hp9, k9⟩
            go_wp2_with fail
            go_roundg (nv - (0 + 1))
            case measure => omega
            case rel =>
              refine ⟨0 + 1, m9, rfl, by go_num, by omega, HPS1.out _ _ hp9, HKK1.out _ (k0.trans k9), Lib.hid ⟨_, HWR0.out.trans hm9, ?_⟩⟩
              rw [← HEQ.out]
              simp [List.append_assoc]
          · skip
            have HC2 : Hid (∃ pre, Wr l pre cur ∧ pre ++ (([44] : List UInt8) ++ (([] : List UInt8) ++ (putJ kids[i] ++ putKs false (decide (i + 1 = 0)) (keys.drop (i + 1)) (kids.drop (i + 1))))) = op :: putKs false true keys kids) := by
              obtain ⟨pre, h1, h2⟩ := HC.out
              rw [putKs_at false keys kids i hlt' HKO.out ⟨#[]⟩ (fun e => absurd e (by decide))] at h2
              rw [if_neg h0] at h2
              exact Lib.hid ⟨pre, h1, h2⟩
            clear HC
            go_upto_region 5 with fail
            rw [HW1.out]
            (try rw [HHH.out])
            clear r0' r1' r2' r3' r4'
            go_wp2_with fail
            refine hf.mono ?_
            rintro e w2 ⟨rfl, rfl⟩
            obtain ⟨pre, hpre, heq⟩ := HC2.out
            have HEQ := Lib.hid heq
            have HWR0 := Lib.hid hpre
            clear heq hpre HC2
            have k0 : Ks S1 w2 w2 := Ks.refl _ _
            have g0 : (0 : Int) < (i : Int) := by omega
            have hcm := wbyte_any hp1 44 (by have := HCL.out; omega)
            go_wp2_with fail
            refine hcm.mono ?_
            rintro e w3 ⟨rfl, hp3, k3⟩
            clear hcm
            have HWR3 : Hid (Wr l (pre ++ [44]) (cur ++ [44])) := Lib.hid (HWR0.out.trans (Wr.one _ _))
            have HCL3 : Hid ((cur ++ [44]).length ≤ 50000000000001) := Lib.hid (by have := HCL.out; rw [List.length_append, List.length_singleton]; omega)
            have r3 := (HA1.out.same (k3.block G hSG1)).p3
            have hB5 := HB1.out.same (k3.block H hSH1)
            have q0 := hB5.p0
            have q1 := hB5.p1
            have q2 := hB5.p2
            have q3 := hB5.p3
            have q4 := hB5.p4
            have hval := HIH.out i hlt' S1 b _ w3 _ _ _ _ _ hp3 (HX1.out.keep k3.kept) (HE1.out.next k3) (by
              have h1 := HWR3.out.le
              have h2 := congrArg List.length HEQ.out
              have h3 := HLEN.out
              simp only [List.length_append, List.length_cons, List.length_nil] at h1 h2 h3 ⊢
              omega)
            clear hB5
            go_wp2_with fail
            refine hval.mono ?_
            rintro e w9 ⟨rfl, m9, hm9, hp9, k9⟩
            go_wp2_with fail
            go_roundg (nv - (i + 1))
            case measure => omega
            case rel =>
              refine ⟨i + 1, m9, rfl, by go_num, by omega, HPS1.out _ _ hp9, HKK1.out _ (k3.trans k9), Lib.hid ⟨_, HWR3.out.trans hm9, ?_⟩⟩
              rw [← HEQ.out]
              simp [List.append_assoc]
        | true =>
          obtain rfl : nv = nk := (HOK.out rfl).symm
          obtain ⟨kb, hkb⟩ : ∃ kb, keys.getD i ⟨#[]⟩ = kb := ⟨_, rfl⟩
          by_cases h0 : i = 0
          · skip
            have HC2 : Hid (∃ pre, Wr l pre cur ∧ pre ++ (([] : List UInt8) ++ ((quoteL kb.data.toList ++ [58]) ++ (putJ kids[i] ++ putKs true (decide (i + 1 = 0)) (keys.drop (i + 1)) (kids.drop (i + 1))))) = op :: putKs true true keys kids) := by
              obtain ⟨pre, h1, h2⟩ := HC.out
              rw [putKs_at true keys kids i hlt' HKO.out kb (fun _ => hkb)] at h2
              rw [if_pos h0] at h2
              exact Lib.hid ⟨pre, h1, h2⟩
            clear HC
            subst h0
            have gi0 : (0 : Int) < nv := by omega
            simp only [Nat.zero_mul, Nat.add_zero] at r0' r1' r2' r3' r4'
            have r3 := HA1.out.p3
            go_upto_region 5 with fail
            rw [HW1.out]
            (try rw [HHH.out])
            clear r0' r1' r2' r3' r4'
            go_wp2_with fail
            refine hf.mono ?_
            rintro e w2 ⟨rfl, rfl⟩
            obtain ⟨pre, hpre, heq⟩ := HC2.out
            have HEQ := Lib.hid heq
            have HWR0 := Lib.hid hpre
            clear heq hpre HC2
            have k0 : Ks S1 w2 w2 := Ks.refl _ _
            obtain ⟨kg, ko, kcap, ke, kt⟩ := key_cells (HN1.out.keep k0.kept) 0 (by show 0 < keys.length; rw [HNK.out]; exact hlt)
            rw [show (J.mk k n t keys kids).keys.length = nv from HNK.out] at ke
            injection ke with ke1 _ ke2
            subst ke1 ke2
            have kt' : w2.cell? ⟨kg, ko, none⟩ = some (.string kb) := by
              have h9 : (J.mk k n t keys kids).keys[0]'(by show 0 < keys.length; rw [HNK.out]; exact hlt) = kb := by
                rw [← hkb, List.getD_eq_getElem?_getD, List.getElem?_eq_getElem (by rw [HNK.out]; exact hlt)]
                rfl
              rw [h9] at kt
              exact kt
            have hkbs : kb.size ≤ 300000 := by rw [← hkb, List.getD_eq_getElem?_getD, List.getElem?_eq_getElem (by rw [HNK.out]; exact hlt)]; exact HKZ.out _ (List.getElem_mem _)
            have htx := ptext_any hp1 kb hkbs (by
              have h1 := HCL.out
              have h2 := quote_len kb
              omega)
            clear kt hkb
            go_wp2_with fail
            refine htx.mono ?_
            rintro e w4 ⟨rfl, m4', hm4, hp4, k4⟩
            clear htx
            have HM4 : Hid (Wr l (pre ++ quoteL kb.data.toList) m4') := Lib.hid (HWR0.out.trans hm4)
            have HM4L : Hid (m4'.length ≤ 50000003000000) := by
              have h1 := HCL.out
              have h2 := quote_len kb
              have h3 := hm4.le
              exact Lib.hid (by omega)
            clear hm4
            have hcn := wbyte_any hp4 58 (by have := HM4L.out; omega)
            go_wp2_with fail
            refine hcn.mono ?_
            rintro e w5 ⟨rfl, hp5, k5⟩
            clear hcn
            have HM5 : Hid (Wr l ((pre ++ quoteL kb.data.toList) ++ [58]) (m4' ++ [58])) := Lib.hid (HM4.out.trans (Wr.one _ _))
            have k6 := (k0.trans k4).trans k5
            have hB5 := HB1.out.same (k6.block H hSH1)
            have q0 := hB5.p0
            have q1 := hB5.p1
            have q2 := hB5.p2
            have q3 := hB5.p3
            have q4 := hB5.p4
            have hval := HIH.out 0 hlt' S1 b _ w5 _ _ _ _ _ hp5 (HX1.out.keep k6.kept) (HE1.out.next k6) (by
              have h1 := HM5.out.le
              have h2 := congrArg List.length HEQ.out
              have h3 := HLEN.out
              simp only [List.length_append, List.length_cons, List.length_nil] at h1 h2 h3 ⊢
              omega)
            clear hB5
            go_wp2_with fail
            refine hval.mono ?_
            rintro e w9 ⟨rfl, m9, hm9, hp9, k9⟩
            go_wp2_with fail
            go_roundg (nv - (0 + 1))
            case measure => omega
            case rel =>
              refine ⟨0 + 1, m9, rfl, by go_num, by omega, HPS1.out _ _ hp9, HKK1.out _ (k6.trans k9), Lib.hid ⟨_, HM5.out.trans hm9, ?_⟩⟩
              rw [← HEQ.out]
              simp [List.append_assoc]
          · skip
            have HC2 : Hid (∃ pre, Wr l pre cur ∧ pre ++ (([44] : List UInt8) ++ ((quoteL kb.data.toList ++ [58]) ++ (putJ kids[i] ++ putKs true (decide (i + 1 = 0)) (keys.drop (i + 1)) (kids.drop (i + 1))))) = op :: putKs true true keys kids) := by
              obtain ⟨pre, h1, h2⟩ := HC.out
              rw [putKs_at true keys kids i hlt' HKO.out kb (fun _ => hkb)] at h2
              rw [if_neg h0] at h2
              exact Lib.hid ⟨pre, h1, h2⟩
            clear HC
            go_upto_region 5 with fail
            rw [HW1.out]
            (try rw [HHH.out])
            clear r0' r1' r2' r3' r4'
            go_wp2_with fail
            refine hf.mono ?_
            rintro e w2 ⟨rfl, rfl⟩
            obtain ⟨pre, hpre, heq⟩ := HC2.out
            have HEQ := Lib.hid heq
            have HWR0 := Lib.hid hpre
            clear heq hpre HC2
            have k0 : Ks S1 w2 w2 := Ks.refl _ _
            have g0 : (0 : Int) < (i : Int) := by omega
            have hcm := wbyte_any hp1 44 (by have := HCL.out; omega)
            go_wp2_with fail
            refine hcm.mono ?_
            rintro e w3 ⟨rfl, hp3, k3⟩
            clear hcm
            have HWR3 : Hid (Wr l (pre ++ [44]) (cur ++ [44])) := Lib.hid (HWR0.out.trans (Wr.one _ _))
            have HCL3 : Hid ((cur ++ [44]).length ≤ 50000000000001) := Lib.hid (by have := HCL.out; rw [List.length_append, List.length_singleton]; omega)
            have r3 := (HA1.out.same (k3.block G hSG1)).p3
            obtain ⟨kg, ko, kcap, ke, kt⟩ := key_cells (HN1.out.keep k3.kept) i (by show i < keys.length; rw [HNK.out]; exact hlt)
            rw [show (J.mk k n t keys kids).keys.length = nv from HNK.out] at ke
            injection ke with ke1 _ ke2
            subst ke1 ke2
            have kt' : w3.cell? ⟨kg, ko + i, none⟩ = some (.string kb) := by
              have h9 : (J.mk k n t keys kids).keys[i]'(by show i < keys.length; rw [HNK.out]; exact hlt) = kb := by
                rw [← hkb, List.getD_eq_getElem?_getD, List.getElem?_eq_getElem (by rw [HNK.out]; exact hlt)]
                rfl
              rw [h9] at kt
              exact kt
            have hkbs : kb.size ≤ 300000 := by rw [← hkb, List.getD_eq_getElem?_getD, List.getElem?_eq_getElem (by rw [HNK.out]; exact hlt)]; exact HKZ.out _ (List.getElem_mem _)
            have gik : (i : Int) < nv := by omega
            have htx := ptext_any hp3 kb hkbs (by
              have h1 := HCL3.out
              have h2 := quote_len kb
              omega)
            clear kt hkb
            go_wp2_with fail
            refine htx.mono ?_
            rintro e w4 ⟨rfl, m4', hm4, hp4, k4⟩
            clear htx
            have HM4 : Hid (Wr l ((pre ++ [44]) ++ quoteL kb.data.toList) m4') := Lib.hid (HWR3.out.trans hm4)
            have HM4L : Hid (m4'.length ≤ 50000003000000) := by
              have h1 := HCL3.out
              have h2 := quote_len kb
              have h3 := hm4.le
              exact Lib.hid (by omega)
            clear hm4
            have hcn := wbyte_any hp4 58 (by have := HM4L.out; omega)
            go_wp2_with fail
            refine hcn.mono ?_
            rintro e w5 ⟨rfl, hp5, k5⟩
            clear hcn
            have HM5 : Hid (Wr l (((pre ++ [44]) ++ quoteL kb.data.toList) ++ [58]) (m4' ++ [58])) := Lib.hid (HM4.out.trans (Wr.one _ _))
            have k6 := (k3.trans k4).trans k5
            have hB5 := HB1.out.same (k6.block H hSH1)
            have q0 := hB5.p0
            have q1 := hB5.p1
            have q2 := hB5.p2
            have q3 := hB5.p3
            have q4 := hB5.p4
            have hval := HIH.out i hlt' S1 b _ w5 _ _ _ _ _ hp5 (HX1.out.keep k6.kept) (HE1.out.next k6) (by
              have h1 := HM5.out.le
              have h2 := congrArg List.length HEQ.out
              have h3 := HLEN.out
              simp only [List.length_append, List.length_cons, List.length_nil] at h1 h2 h3 ⊢
              omega)
            clear hB5
            go_wp2_with fail
            refine hval.mono ?_
            rintro e w9 ⟨rfl, m9, hm9, hp9, k9⟩
            go_wp2_with fail
            go_roundg (nv - (i + 1))
            case measure => omega
            case rel =>
              refine ⟨i + 1, m9, rfl, by go_num, by omega, HPS1.out _ _ hp9, HKK1.out _ (k6.trans k9), Lib.hid ⟨_, HM5.out.trans hm9, ?_⟩⟩
              rw [← HEQ.out]
              simp [List.append_assoc]
    · obtain rfl : i = nv := by omega
      have gi : decide ((i : Int) < (i : Int)) = false := by simp
      have hcl := wbyte_any hpr cl (by have := HCL.out; omega)
      go_wp2_with fail
      refine hcl.mono ?_
      rintro e w2 ⟨rfl, hp2, k2⟩
      go_wp2_with fail
      go_end0
      obtain ⟨pre, h1, h2⟩ := HC.out
      rw [List.drop_of_length_le (l := kids) (by rw [HNV.out]; exact Nat.le_refl _), putKs_nil, List.append_nil] at h2
      refine ⟨rfl, _, ?_, HPS.out _ _ hp2, HKK.out _ (hkr.trans k2)⟩
      rw [← List.cons_append, ← h2]
      exact h1.trans (Wr.one _ _)

set_option maxHeartbeats 4000000 in
set_option maxRecDepth 100000 in
theorem plist_any (k : Int) (obj : Bool) (hk : k = (if obj then 7 else 6)) (t : ByteArray) (keys : List ByteArray) (kids : List J) (ih : ∀ i (h : i < kids.length), PValOk kids[i]) (hko : obj = true → keys.length = kids.length) (hkn : obj = false → keys = []) (hvl : kids.length ≤ 65536) (hks : ∀ k ∈ keys, k.size ≤ 300000) : PValOk (.mk k 0 t keys kids) := by
  cases obj
  · obtain rfl : k = 6 := hk
    intro S b l w c0 c1 c2 c3 c4 h hN hE hlen
    have hput : putJ (.mk 6 0 t keys kids) = 91 :: (putKs false true keys kids ++ [93]) := by rw [putJ]; rfl
    obtain ⟨e0, e1, e2, ⟨a3, m3, e3⟩, ⟨a4, m4, e4⟩⟩ := node_cells hN
    obtain rfl : c0 = .int .i64 6 := e0
    obtain rfl : c1 = .int .i64 0 := e1
    obtain rfl : c2 = .string t := e2
    obtain rfl : c3 = .slice a3 keys.length m3 := e3
    obtain rfl : c4 = .slice a4 kids.length m4 := e4
    obtain ⟨hb0, hA, hsz⟩ := bx_new w (.int .i64 6) (.int .i64 0) (.string t) (.slice a3 keys.length m3) (.slice a4 kids.length m4)
    obtain ⟨W, hW⟩ : ∃ W, w.alloc (.cells #[.int .i64 6, .int .i64 0, .string t, .slice a3 keys.length m3, .slice a4 kids.length m4] 25) = W := ⟨_, rfl⟩
    rw [hW] at hb0 hA hsz
    have hK := Ks.of_below hb0 h.slt
    rw [hput] at hlen ⊢
    have hcall := pkids_any false keys kids ih hko hkn hvl hks 6 0 t 91 93 S b l W _ _ _ _ _ (h.below hb0) (hN.keep hK.kept) (hE.next hK) hlen
    have HK := Lib.hid hK
    obtain ⟨G, hG⟩ : ∃ G, w.heap.size = G := ⟨_, rfl⟩
    rw [hG] at hA
    have HW := Lib.hid hW
    have p0 := hA.p0
    have p1 := hA.p1
    have p2 := hA.p2
    have p3 := hA.p3
    have p4 := hA.p4
    clear hN hb0 hA hsz hW hE hlen h hput hK ih hko hkn hks hvl
    obtain ⟨nk, hnk⟩ : ∃ nk, keys.length = nk := ⟨_, rfl⟩
    obtain ⟨nv, hnv⟩ : ∃ nv, kids.length = nv := ⟨_, rfl⟩
    rw [hnk, hnv] at HW hcall ⊢
    rw [hnk] at p3
    rw [hnv] at p4
    clear hnk hnv
    go_enter Tryd.func22, Tryd.ntmps22
    go_upto_region 1 with fail
    rw [HW.out]
    (try rw [hG])
    go_wp2_with fail
    refine hcall.mono ?_
    rintro e w1 ⟨rfl, m, hm, hp, k1⟩
    go_wp2_with fail
    go_end0
    exact ⟨rfl, m, hm, hp, HK.out.trans k1⟩
  · obtain rfl : k = 7 := hk
    intro S b l w c0 c1 c2 c3 c4 h hN hE hlen
    have hput : putJ (.mk 7 0 t keys kids) = 123 :: (putKs true true keys kids ++ [125]) := by rw [putJ]; rfl
    obtain ⟨e0, e1, e2, ⟨a3, m3, e3⟩, ⟨a4, m4, e4⟩⟩ := node_cells hN
    obtain rfl : c0 = .int .i64 7 := e0
    obtain rfl : c1 = .int .i64 0 := e1
    obtain rfl : c2 = .string t := e2
    obtain rfl : c3 = .slice a3 keys.length m3 := e3
    obtain rfl : c4 = .slice a4 kids.length m4 := e4
    obtain ⟨hb0, hA, hsz⟩ := bx_new w (.int .i64 7) (.int .i64 0) (.string t) (.slice a3 keys.length m3) (.slice a4 kids.length m4)
    obtain ⟨W, hW⟩ : ∃ W, w.alloc (.cells #[.int .i64 7, .int .i64 0, .string t, .slice a3 keys.length m3, .slice a4 kids.length m4] 25) = W := ⟨_, rfl⟩
    rw [hW] at hb0 hA hsz
    have hK := Ks.of_below hb0 h.slt
    rw [hput] at hlen ⊢
    have hcall := pkids_any true keys kids ih hko hkn hvl hks 7 0 t 123 125 S b l W _ _ _ _ _ (h.below hb0) (hN.keep hK.kept) (hE.next hK) hlen
    have HK := Lib.hid hK
    obtain ⟨G, hG⟩ : ∃ G, w.heap.size = G := ⟨_, rfl⟩
    rw [hG] at hA
    have HW := Lib.hid hW
    have p0 := hA.p0
    have p1 := hA.p1
    have p2 := hA.p2
    have p3 := hA.p3
    have p4 := hA.p4
    clear hN hb0 hA hsz hW hE hlen h hput hK ih hko hkn hks hvl
    obtain ⟨nk, hnk⟩ : ∃ nk, keys.length = nk := ⟨_, rfl⟩
    obtain ⟨nv, hnv⟩ : ∃ nv, kids.length = nv := ⟨_, rfl⟩
    rw [hnk, hnv] at HW hcall ⊢
    rw [hnk] at p3
    rw [hnv] at p4
    clear hnk hnv
    go_enter Tryd.func22, Tryd.ntmps22
    go_upto_region 1 with fail
    rw [HW.out]
    (try rw [hG])
    go_wp2_with fail
    refine hcall.mono ?_
    rintro e w1 ⟨rfl, m, hm, hp, k1⟩
    go_wp2_with fail
    go_end0
    exact ⟨rfl, m, hm, hp, HK.out.trans k1⟩
theorem pval_any : ∀ (d : Nat) (j : J), RightJ d j → PValOk j
  | d, .mk k n t keys kids, h => by
    rcases right_cases d k n t keys kids h with ⟨rfl, rfl, hk, h3, h6, h4, h5, h15, h7⟩ | ⟨d', rfl, rfl, rfl, ⟨obj, hk, ho, hoo⟩, ih, h18, h17, h16, h13, h14⟩
    · exact pleaf_any k n t hk h4 h5 h15
    · exact plist_any k obj hk ⟨#[]⟩ keys kids (fun i hi => pval_any d' _ (ih i hi)) hoo ho h18 h16
end Go.Proofs.YtbjngdlkamdmdaaDoor.J8
