/-
  The law LogKinds: what is asked of one kind does not hang on entries of others; a copy tells the same, and goes its own way. Conditions: none.
-/
import Derived.Test.YtojjlbhodiphdaaLgAwake
import Derived.Test.YtojjlbhodiphdaaLgKnd
import Derived.Test.YtojjlbhodiphdaaLgSame
import Derived.Test.YtojjlbhodiphdaaLgStp
namespace Go.Proofs.Ytojjlbhodiphdaa.Lg
open Go Go.RowKit Go.Joins

/-- Two logs that lie apart. -/
structure Two (B1 B2 lx ly : Nat) (vx vy : Value) (kx ky : List En) (w : World) : Prop where
  x : LogAt B1 lx vx 1000 0 kx w
  y : LogAt B2 ly vy 1000 0 ky w
  ne : lx ≠ ly
  xy : vx.ownBlock ≠ some ly
  yx : vy.ownBlock ≠ some lx
  vv : ∀ g, vx.ownBlock = some g → vy.ownBlock ≠ some g
theorem Two.swap {B1 B2 lx ly : Nat} {vx vy : Value} {kx ky : List En} {w : World} (h : Two B1 B2 lx ly vx vy kx ky w) : Two B2 B1 ly lx vy vx ky kx w :=
  ⟨h.y, h.x, Ne.symm h.ne, h.yx, h.xy, fun g e e' => h.vv g e' e⟩
theorem Two.below {B1 B2 lx ly : Nat} {vx vy : Value} {kx ky : List En} {w w' : World} (h : Two B1 B2 lx ly vx vy kx ky w) (hb : Below w.heap.size w w') : Two B1 B2 lx ly vx vy kx ky w' :=
  ⟨h.x.below hb, h.y.below hb, h.ne, h.xy, h.yx, h.vv⟩
theorem LogAt.own_lt {B lb : Nat} {v : Value} {most fl : Int} {k : List En} {w : World} (h : LogAt B lb v most fl k w) {g : Nat} (e : v.ownBlock = some g) : g < w.heap.size := by
  obtain ⟨_, cur, hh⟩ := h.2.2.block e
  exact (Array.getElem?_eq_some_iff.1 hh).1
/-- The one turns. -/
theorem Two.turn {B1 B2 lx ly : Nat} {vx vy vx' : Value} {kx ky kx' : List En} {w w' : World} (h : Two B1 B2 lx ly vx vy kx ky w) (hT : Turn lx vx w vx' w') (hL : LogAt B1 lx vx' 1000 0 kx' w') : Two B1 B2 lx ly vx' vy kx' ky w' := by
  have hly := h.y.lt
  refine ⟨hL, h.y.keep (fun i hi hc => ?_), h.ne, fun e => ?_, h.yx, fun g e e' => ?_⟩
  · rcases hc with rfl | hc
    · exact hT.block _ hi (Ne.symm h.ne) h.xy
    · exact hT.block _ hi (fun e => h.yx (e ▸ hc)) (fun e => h.vv i e hc)
  · rcases hT.own with h1 | ⟨g, h1, h2⟩
    · rw [h1] at e; exact h.xy e
    · rw [h1] at e
      injection e with e
      omega
  · have hg := h.y.own_lt e'
    rcases hT.own with h1 | ⟨g', h1, h2⟩
    · rw [h1] at e; exact h.vv g e e'
    · rw [h1] at e
      injection e with e
      omega

theorem sin_k (l : List Stp) (n : Nat) (hn : l.length = n) (hn8 : n ≤ 80) (k : List En) (a : Int) (B lb : Nat) (v : Value) (W : World) (hL : LogAt B lb v 1000 0 k W) (hs : sinceL 0 k 2 a ((l.length : Int) + 1) 0 = (chK l a, 0)) (hr : Rise k) (hk : k.length ≤ 1000) (hid : ∀ e ∈ k, 1 ≤ e.id ∧ e.id ≤ 10) :
    Calls Try.prog 16 #[.pointer (some ⟨lb, 0, none⟩), .int .i64 2, .int .i64 a, .int .i64 ((n : Int) + 1), .int .i64 0] W fun e w' => ∃ u, e = .returned (.tuple #[u, .int .i64 0]) ∧ ChA W.heap.size (chK l a) u w' ∧ Below W.heap.size W w' := by
  subst hn
  have h := since_any B lb v 1000 0 2 a ((l.length : Int) + 1) 0 k W hL hr (by omega) (fun e he => by
    obtain ⟨h1, h2⟩ := hid e he
    have e1 : IntKind.i64.min = -9223372036854775808 := by decide
    have e2 : IntKind.i64.max = 9223372036854775807 := by decide
    simp only [Lit.wf, e1, e2, Bool.and_eq_true, decide_eq_true_eq]
    omega)
  rw [hs] at h
  exact h
theorem ChA.form {B : Nat} {C : Ch} {u : Value} {w : World} (h : ChA B C u w) : ∃ a1 m1 a2 m2 a3 m3, u = .agg #[.slice a1 C.made.length m1, .slice a2 C.turned.length m2, .slice a3 C.gone.length m3, .int .i64 C.state, .bool C.more] := by
  obtain ⟨c1, c2, c3, rfl, q1, q2, q3⟩ := h
  obtain ⟨a1, m1, rfl⟩ := q1.form
  obtain ⟨a2, m2, rfl⟩ := q2.form
  obtain ⟨a3, m3, rfl⟩ := q3.form
  exact ⟨a1, m1, a2, m2, a3, m3, rfl⟩
theorem new_five {w W : World} {c : Obj} (h : w.alloc c = W) : W.heap[w.heap.size]? = some c ∧ Below w.heap.size w W := by
  subst h
  exact ⟨heap_alloc_new _ _, (Below.refl _ w).alloc (Nat.le_refl _) _⟩
theorem id_X (l : List Stp) : ∀ e ∈ kG esX 1 l, 1 ≤ e.id ∧ e.id ≤ 10 := fun e he => (kG_mem good_X l 1 e he).2.2
theorem id_Y (l : List Stp) : ∀ e ∈ kG esY 1 l, 1 ≤ e.id ∧ e.id ≤ 10 := fun e he => (kG_mem good_Y l 1 e he).2.2
theorem id_Z (l : List Stp) : ∀ e ∈ kZ l, 1 ≤ e.id ∧ e.id ≤ 10 := fun e he => by
  unfold kZ at he
  rcases List.mem_append.1 he with h | h
  · exact id_X l e h
  · rw [List.mem_singleton] at h
    subst h
    exact ⟨Int.le_refl 1, show (1 : Int) ≤ 10 by omega⟩
/-- One log more in the world. -/
theorem add_turn (B1 B2 lx ly : Nat) (vx vy : Value) (kx ky es kx' : List En) (W W2 : World) (h : Two B1 B2 lx ly vx vy kx ky W) (hW2 : W.alloc (.cells (esC es).toArray 54) = W2) (hes : es.length ≤ 1000000) (hk : kx.length ≤ 1000) (ha : addL 1000 (0, kx) es = (0, kx')) (hB : W.heap.size ≥ B1) :
    Calls Try.prog 11 #[.pointer (some ⟨lx, 0, none⟩), .slice (some ⟨W.heap.size, 0, none⟩) es.length es.length] W2 fun e w3 => e = .returned (.tuple #[]) ∧ ∃ vx', Two B1 B2 lx ly vx' vy kx' ky w3 ∧ Turn lx vx W2 vx' w3 ∧ Below B1 W w3 := by
  have hbs : Below W.heap.size W W2 := by rw [← hW2]; exact (Below.refl _ W).alloc (Nat.le_refl _) _
  have hblk : W2.heap[W.heap.size]? = some (.cells (esC es).toArray 54 (0, 0)) := by rw [← hW2]; exact heap_alloc_new W _
  have hA := add_any B1 lx vx 1000 0 kx es (.slice (some ⟨W.heap.size, 0, none⟩) es.length es.length) W2 (h.x.below hbs) (sat_new hblk hes)
    (fun g he e => by have h5 : W.heap.size = g := Option.some.inj e; have := h.x.own_lt he; omega) (fun e => by have h5 : W.heap.size = lx := Option.some.inj e; have := h.x.lt; omega) (by omega) (by omega) (by omega) hes
  rw [ha] at hA
  refine hA.mono ?_
  rintro e w3 ⟨rfl, v3, hL3, hT3⟩
  exact ⟨rfl, v3, (h.below hbs).turn hT3 hL3, hT3, (hbs.mono hB).trans (hT3.below (h.x.below hbs))⟩

set_option maxHeartbeats 8000000 in
set_option maxRecDepth 100000 in
theorem logKinds_walk (A : Option Addr) (n cap : Nat) (from_ : Int) (f0 : 0 ≤ from_) (f1 : from_ ≤ 255) (w : World) (l : List Stp) (hn : l.length = n) (hmax : n ≤ 9223372036854775807) (hS : SAt w (.slice A n cap) 2 n (stC l)) (hG : ∀ s ∈ l, 0 ≤ s.1 ∧ s.1 ≤ 255 ∧ 0 ≤ s.2 ∧ s.2 ≤ 255) :
    Calls Try.prog 6 #[.slice A n cap, .int .u8 from_] w fun e w' => e = .returned (.bool true) ∧ Below w.heap.size w w' := by
  by_cases hn80 : 80 < n
  · have g0 : (80 : Int) < (n : Int) := by omega
    go_enter Try.func6, Try.ntmps6
    go_wp2_with fail
    refine (awake_any w).mono ?_
    rintro e w1 ⟨rfl, hb⟩
    go_wp2_with fail
    go_ret
    exact ⟨rfl, hb⟩
  · have g0 : ¬ (80 : Int) < (n : Int) := by omega
    have hn8 : n ≤ 80 := by omega
    have HN := Lib.hid hn
    have HS := Lib.hid hS
    have HG := Lib.hid hG
    have HNEW := Lib.hid (fun W => new_any 1000 W (by omega))
    clear hn hS hG hmax hn80
    go_enter Try.func6, Try.ntmps6
    go_wp2_with fail
    refine (HNEW.out w).mono ?_
    rintro e w1 ⟨rfl, hL1, hb1⟩
    have HL1 := Lib.hid hL1
    have HB1 := Lib.hid hb1
    clear hL1 hb1
    go_wp2_with fail
    refine (HNEW.out w1).mono ?_
    rintro e w2 ⟨rfl, hL2, hb2⟩
    have hs1 := HL1.out.lt
    have HB2 := Lib.hid (HB1.out.trans (hb2.mono HB1.out.size))
    have HTW : Hid (Two w.heap.size w1.heap.size w.heap.size w1.heap.size (.slice none 0 0) (.slice none 0 0) (kG esX 1 (l.take 0)) (kG esY 1 (l.take 0)) w2) :=
      Lib.hid ⟨HL1.out.below hb2, hL2, by omega, by simp [Value.ownBlock], by simp [Value.ownBlock], by simp [Value.ownBlock]⟩
    clear hL2 hb2
    obtain ⟨lx, hlx⟩ : ∃ lx, lx = w.heap.size := ⟨_, rfl⟩
    obtain ⟨ly, hly⟩ : ∃ ly, ly = w1.heap.size := ⟨_, rfl⟩
    rw [← hly, ← hlx] at HTW
    have HLE : Hid (w.heap.size ≤ lx ∧ w.heap.size ≤ ly) := Lib.hid ⟨by omega, by have := HB1.out.size; omega⟩
    have HLX := Lib.hid hlx
    have HLY := Lib.hid hly
    rw [← hly, ← hlx]
    clear hlx hly hs1
    go_wp2_with fail
    refine (num_any 0 _).mono ?_
    rintro e w3 ⟨rfl, rfl⟩
    go_wp2_with fail
    refine (num_any 0 _).mono ?_
    rintro e w3 ⟨rfl, rfl⟩
    go_wp2_with fail
    go_loopg [9, 10] n (fun gm p9 p10 wr => ∃ (i : Nat) (vx vy : Value), gm = n - i ∧ p9 = .int .i64 ((i : Int) + 1) ∧ p10 = .int .i64 (i : Int) ∧ i ≤ n ∧ Hid (Two lx ly lx ly vx vy (kG esX 1 (l.take i)) (kG esY 1 (l.take i)) wr) ∧ Hid (Below w.heap.size w wr))
    case atStart => exact ⟨0, .slice none 0 0, .slice none 0 0, rfl, rfl, rfl, Nat.zero_le _, HTW, HB2⟩
    case round =>
      obtain ⟨i, vx, vy, rfl, rfl, rfl, hi, HT, HB⟩ := hrel
      clear HTW HB2 HL1 HB1
      by_cases hlt : i < n
      · have hil : i < l.length := by rw [HN.out]; exact hlt
        have g1 : (i : Int) < (n : Int) := by omega
        have g2 : (0 : Int) ≤ (i : Int) := by omega
        obtain ⟨g, o, c', hv, p0, p1⟩ := sat_stp (v := .slice A n cap) (l := l) (SAt.below (by rw [HN.out]; exact HS.out) (stC_length l) HB.out) i hil
        injection hv with hv1 hv2 hv3
        subst hv1
        obtain ⟨s, hs⟩ : ∃ s, l[i] = s := ⟨_, rfl⟩
        rw [hs] at p0 p1
        obtain ⟨b0, b1, b2, b3⟩ := HG.out s (hs ▸ List.getElem_mem hil)
        obtain ⟨x, y⟩ := s
        dsimp only at p0 p1 b0 b1 b2 b3
        obtain ⟨c, hc⟩ : ∃ c : Int, (i : Int) + 1 + 1 = c := ⟨_, rfl⟩
        have hc1 : 2 ≤ c ∧ c ≤ 100 := by omega
        have HC : Hid (c = ((l.take i).length : Int) + 2) := Lib.hid (by rw [List.length_take]; omega)
        have HX : Hid (l.take (i + 1) = l.take i ++ [(x, y)]) := Lib.hid (by rw [List.take_succ_eq_append_getElem hil, hs])
        have HI : Hid ((l.take i).length < 80) := Lib.hid (by rw [List.length_take]; omega)
        have HSX : Hid (addL 1000 (0, kG esX 1 (l.take i)) (esX c (x, y)) = (0, kG esX 1 (l.take (i + 1)))) := Lib.hid (by rw [HX.out, HC.out]; exact step_X _ _ HI.out)
        have HSY : Hid (addL 1000 (0, kG esY 1 (l.take i)) (esY c (x, y)) = (0, kG esY 1 (l.take (i + 1)))) := Lib.hid (by rw [HX.out, HC.out]; exact step_Y _ _ HI.out)
        clear hv2 hv3 hs HC HX
        go_wp2_with fail
        go_quiet (fail)
        go_wp2_with fail
        generalize hW1 : wr.drewN nq = W1
        have HT1 : Hid (Two lx ly lx ly vx vy (kG esX 1 (l.take i)) (kG esY 1 (l.take i)) W1) := Lib.hid (by rw [← hW1]; exact HT.out.below (below_drewN (Below.refl _ _) _))
        have HB1 : Hid (Below w.heap.size w W1) := Lib.hid (by rw [← hW1]; exact below_drewN HB.out _)
        have hsz : W1.heap.size = wr.heap.size := by rw [← hW1]; rfl
        clear hW1
        rw [← hsz]
        clear hsz
        refine (add_turn lx ly lx ly vx vy _ _ (esX c (x, y)) _ W1 _ HT1.out rfl (by show 3 ≤ 1000000; omega) (by rw [kX_len]; have := HI.out; omega) HSX.out (Nat.le_of_lt HT1.out.x.lt)).mono ?_
        rintro e w3 ⟨rfl, vx', hT3, _, hb3⟩
        have HT3 := Lib.hid hT3
        have HB3 := Lib.hid (HB1.out.trans (hb3.mono HLE.out.1))
        clear hT3 hb3
        go_wp2_with fail
        refine (add_turn ly lx ly lx vy vx' _ _ (esY c (x, y)) _ w3 _ HT3.out.swap rfl (by show 1 ≤ 1000000; omega) (by rw [kY_len]; have := HI.out; omega) HSY.out (Nat.le_of_lt HT3.out.y.lt)).mono ?_
        rintro e w4 ⟨rfl, vy', hT4, _, hb4⟩
        have HT4 := Lib.hid hT4.swap
        have HB4 := Lib.hid (HB3.out.trans (hb4.mono HLE.out.2))
        clear hT4 hb4
        go_wp2_with fail
        go_roundg (n - (i + 1))
        case measure => omega
        case rel => exact ⟨i + 1, vx', vy', rfl, by rw [← hc]; go_num, by go_num, by omega, HT4, HB4⟩
      · have hin : i = n := by omega
        have g1 : ¬ (i : Int) < (n : Int) := by omega
        have HTK : Hid (Two lx ly lx ly vx vy (kG esX 1 l) (kG esY 1 l) wr) := Lib.hid (by
          have h := HT.out
          rwa [List.take_of_length_le (by rw [HN.out]; omega)] at h)
        clear HT HNEW HS HG
        have HLK : Hid ((kG esX 1 l).length = 3 * n ∧ (kG esY 1 l).length = n) := Lib.hid ⟨by rw [kX_len, HN.out], by rw [kY_len, HN.out]⟩
        have HCP := Lib.hid (copy_any lx lx vx 1000 0 (kG esX 1 l) wr HTK.out.x (by rw [HLK.out.1]; omega))
        go_wp2_with fail
        refine HCP.out.mono ?_
        rintro e w4 ⟨lz, vz, rfl, hlz, hvz, hLz, hb4⟩
        have HT4 := Lib.hid (HTK.out.below hb4)
        have HZ4 : Hid (Two lx wr.heap.size lx lz vx vz (kG esX 1 l) (kG esX 1 l) w4) := Lib.hid (by
          have h1 := HTK.out.x.lt
          refine ⟨HT4.out.x, hLz, by omega, fun e => ?_, fun e => ?_, fun g e e' => ?_⟩
          · have := HTK.out.x.own_lt e; omega
          · have := hvz _ e; omega
          · have := HTK.out.x.own_lt e; have := hvz _ e'; omega)
        have HB4 := Lib.hid (HB.out.trans (hb4.mono HB.out.size))
        clear hlz hvz hLz hb4 HCP
        obtain ⟨c, hc⟩ : ∃ c : Int, (n : Int) + 1 + 1 = c := ⟨_, rfl⟩
        have HC : Hid (c = (l.length : Int) + 2) := Lib.hid (by rw [HN.out]; omega)
        have HSZ : Hid (addL 1000 (0, kG esX 1 l) [(⟨c, 2, 1, 2⟩ : En)] = (0, kZ l)) := Lib.hid (by rw [HC.out]; exact step_Z l (by rw [HN.out]; omega))
        go_wp2_with fail
        refine (add_turn lx ly lx ly vx vy _ _ [(⟨c, 2, 1, 2⟩ : En)] _ w4 _ HT4.out rfl (by show 1 ≤ 1000000; omega) (by rw [HLK.out.1]; omega) HSZ.out (Nat.le_of_lt HT4.out.x.lt)).mono ?_
        rintro e w5 ⟨rfl, vx', hT5, hu5, hb5⟩
        have HT5 := Lib.hid hT5
        have HB5 := Lib.hid (HB4.out.trans (hb5.mono HLE.out.1))
        have HZ5 := Lib.hid (((HZ4.out.below ((Below.refl _ _).alloc (Nat.le_refl _) _)).turn hu5 hT5.x).y)
        clear hT5 hb5 hu5 HT4 HZ4 hc
        go_wp2_with fail
        · obtain ⟨C, hCC⟩ : ∃ C, chK l (from_) = C := ⟨_, rfl⟩
          have HLC : Hid (C.made.length ≤ 1000000 ∧ C.turned.length ≤ 1000000 ∧ C.gone.length ≤ 1000000) := Lib.hid (by have h := chK_len l (from_); rw [hCC, HN.out] at h; omega)
          have hs1 := fun W v (hL : LogAt lx lx v 1000 0 (kZ l) W) => sin_k l n HN.out hn8 (kZ l) (from_) lx lx v W hL (since_Z l _ (by omega) (by rw [HN.out]; omega)) (rise_Z l) (by unfold kZ; rw [List.length_append, HLK.out.1, List.length_singleton]; omega) (id_Z l)
          have hs2 := fun W v (hL : LogAt ly ly v 1000 0 (kG esY 1 l) W) => sin_k l n HN.out hn8 (kG esY 1 l) (from_) ly ly v W hL (since_Y l _ (by omega) (by rw [HN.out]; omega)) (kG_rise good_Y l 1) (by rw [HLK.out.2]; omega) (id_Y l)
          have hs3 := fun W v (hL : LogAt wr.heap.size lz v 1000 0 (kG esX 1 l) W) => sin_k l n HN.out hn8 (kG esX 1 l) (from_) wr.heap.size lz v W hL (since_X l _ (by omega) (by rw [HN.out]; omega)) (kG_rise good_X l 1) (by rw [HLK.out.1]; omega) (id_X l)
          simp only [hCC] at hs1 hs2 hs3
          have HS1 := Lib.hid hs1
          have HS2 := Lib.hid hs2
          have HS3 := Lib.hid hs3
          have HALL := Lib.hid (fun W (hL : LogAt wr.heap.size lz vz 1000 0 (kG esX 1 l) W) => all_any wr.heap.size lz vz 1000 0 _ W hL (by rw [HLK.out.1]; omega))
          have HL3 : Hid ((kG esX 1 l).length = 3 * n) := Lib.hid HLK.out.1
          clear hs1 hs2 hs3 hCC
          refine (HS1.out w5 vx' HT5.out.x).mono ?_
          rintro e w6 ⟨u1, rfl, hc1, hb6⟩
          obtain ⟨a1, m1, a2, m2, a3, m3, rfl⟩ := hc1.form
          have HC6 := Lib.hid hc1
          have HB6 := Lib.hid hb6
          clear hc1 hb6
          go_wp2_with fail
          obtain ⟨W7, hW7⟩ : ∃ W7, w6.alloc (.cells #[.slice a1 C.made.length m1, .slice a2 C.turned.length m2, .slice a3 C.gone.length m3, .int .i64 C.state, .bool C.more] 42) = W7 := ⟨_, rfl⟩
          obtain ⟨k7, b7⟩ := new_five hW7
          have HK7 := Lib.hid k7
          have HC7 := Lib.hid (HC6.out.below b7)
          have HB7 := Lib.hid (HB6.out.trans (b7.mono HB6.out.size))
          rw [hW7]
          clear hW7 k7 b7 HC6 HB6
          refine (HS2.out W7 vy (HT5.out.below HB7.out).y).mono ?_
          rintro e w8 ⟨u2, rfl, hc2, hb8⟩
          obtain ⟨d1, n1, d2, n2, d3, n3, rfl⟩ := hc2.form
          have HC8 := Lib.hid (HC7.out.below hb8)
          have HD8 := Lib.hid hc2
          have HK8 := Lib.hid ((hb8.block _ (Array.getElem?_eq_some_iff.1 HK7.out).1).trans HK7.out)
          have HB8 := Lib.hid (HB7.out.trans (hb8.mono HB7.out.size))
          clear hc2 hb8 HC7 HK7 HB7
          go_wp2_with fail
          obtain ⟨W9, hW9⟩ : ∃ W9, w8.alloc (.cells #[.slice d1 C.made.length n1, .slice d2 C.turned.length n2, .slice d3 C.gone.length n3, .int .i64 C.state, .bool C.more] 42) = W9 := ⟨_, rfl⟩
          obtain ⟨k9, b9⟩ := new_five hW9
          have HK9 := Lib.hid ((b9.block _ (Array.getElem?_eq_some_iff.1 HK8.out).1).trans HK8.out)
          have HJ9 := Lib.hid k9
          have HC9 := Lib.hid (HC8.out.below b9)
          have HD9 := Lib.hid (HD8.out.below b9)
          have HB9 := Lib.hid (HB8.out.trans (b9.mono HB8.out.size))
          rw [hW9]
          clear hW9 k9 b9 HC8 HD8 HB8 HK8
          go_wp2_with fail
          refine (HS3.out W9 vz (HZ5.out.below HB9.out)).mono ?_
          rintro e w10 ⟨u3, rfl, hc3, hb10⟩
          obtain ⟨e1, o1, e2, o2, e3, o3, rfl⟩ := hc3.form
          have HC10 := Lib.hid (HC9.out.below hb10)
          have HD10 := Lib.hid (HD9.out.below hb10)
          have HE10 := Lib.hid hc3
          have HK10 := Lib.hid ((hb10.block _ (Array.getElem?_eq_some_iff.1 HK9.out).1).trans HK9.out)
          have HJ10 := Lib.hid ((hb10.block _ (Array.getElem?_eq_some_iff.1 HJ9.out).1).trans HJ9.out)
          have HB10 := Lib.hid (HB9.out.trans (hb10.mono HB9.out.size))
          clear hc3 hb10 HC9 HD9 HK9 HJ9 HB9
          go_wp2_with fail
          obtain ⟨W11, hW11⟩ : ∃ W11, w10.alloc (.cells #[.slice e1 C.made.length o1, .slice e2 C.turned.length o2, .slice e3 C.gone.length o3, .int .i64 C.state, .bool C.more] 42) = W11 := ⟨_, rfl⟩
          obtain ⟨k11, b11⟩ := new_five hW11
          have HB11 := Lib.hid (HB10.out.trans (b11.mono HB10.out.size))
          have K1 := (b11.block _ (Array.getElem?_eq_some_iff.1 HK10.out).1).trans HK10.out
          have K2 := (b11.block _ (Array.getElem?_eq_some_iff.1 HJ10.out).1).trans HJ10.out
          have HX := Lib.hid (fun (W : World) (hb : Below W11.heap.size W11 W) => And.intro (five_cells ((hb.block _ (Array.getElem?_eq_some_iff.1 K1).1).trans K1)) (And.intro (five_cells ((hb.block _ (Array.getElem?_eq_some_iff.1 K2).1).trans K2)) (five_cells ((hb.block _ (Array.getElem?_eq_some_iff.1 k11).1).trans k11))))
          have HCH := Lib.hid (fun (W : World) (hb : Below W11.heap.size W11 W) => And.intro ((HC10.out.below b11).below hb) (And.intro ((HD10.out.below b11).below hb) ((HE10.out.below b11).below hb)))
          rw [hW11]
          clear hW11 K1 K2 k11 b11 HC10 HD10 HE10 HK10 HJ10 HB10
          obtain ⟨⟨x0, x1, x2, x3, x4, xf⟩, ⟨y0, y1, y2, y3, y4, yf⟩, ⟨z0, z1, z2, z3, z4, zf⟩⟩ := HX.out W11 (Below.refl _ _)
          refine (num_any 0 _).mono ?_
          rintro e W' ⟨rfl, rfl⟩
          go_wp2_with fail
          refine (num_any 0 _).mono ?_
          rintro e W' ⟨rfl, rfl⟩
          go_wp2_with fail
          refine (num_any 0 _).mono ?_
          rintro e W' ⟨rfl, rfl⟩
          go_wp2_with fail
          refine (changes_same _ _ C _ _ W' (HCH.out W' (Below.refl _ _)).1 (HCH.out W' (Below.refl _ _)).2.1 HLC.out.1 HLC.out.2.1 HLC.out.2.2).mono ?_
          rintro e w12 ⟨rfl, hb12⟩
          have HB12 := Lib.hid hb12
          clear hb12 x0 x1 x2 x3 x4 xf y0 y1 y2 y3 y4 yf z0 z1 z2 z3 z4 zf
          obtain ⟨⟨x0, x1, x2, x3, x4, xf⟩, ⟨y0, y1, y2, y3, y4, yf⟩, ⟨z0, z1, z2, z3, z4, zf⟩⟩ := HX.out w12 HB12.out
          go_wp2_with fail
          refine (changes_same _ _ C _ _ w12 (HCH.out w12 HB12.out).2.1 (HCH.out w12 HB12.out).2.2 HLC.out.1 HLC.out.2.1 HLC.out.2.2).mono ?_
          rintro e w13 ⟨rfl, hb13⟩
          have HB13 := Lib.hid (HB12.out.trans (hb13.mono HB12.out.size))
          clear hb13 x0 x1 x2 x3 x4 xf y0 y1 y2 y3 y4 yf z0 z1 z2 z3 z4 zf
          go_wp2_with fail
          refine (HALL.out w13 ((HZ5.out.below HB11.out).below HB13.out)).mono ?_
          rw [HL3.out]
          rintro e w14 ⟨u4, rfl, hq, hb14⟩
          obtain ⟨ua, uc, rfl⟩ := hq.form
          have HB14 := Lib.hid (HB13.out.trans (hb14.mono HB13.out.size))
          clear hq hb14
          go_wp2_with fail
          refine (awake_any _).mono ?_
          rintro e w15 ⟨rfl, hb15⟩
          go_wp2_with fail
          go_ret
          have hbw := HB5.out.trans (HB11.out.mono HB5.out.size)
          exact ⟨rfl, hbw.trans ((HB14.out.trans (hb15.mono HB14.out.size)).mono hbw.size)⟩
        · obtain ⟨C, hCC⟩ : ∃ C, chK l ((n : Int) + 1) = C := ⟨_, rfl⟩
          have HLC : Hid (C.made.length ≤ 1000000 ∧ C.turned.length ≤ 1000000 ∧ C.gone.length ≤ 1000000) := Lib.hid (by have h := chK_len l ((n : Int) + 1); rw [hCC, HN.out] at h; omega)
          have hs1 := fun W v (hL : LogAt lx lx v 1000 0 (kZ l) W) => sin_k l n HN.out hn8 (kZ l) ((n : Int) + 1) lx lx v W hL (since_Z l _ (by omega) (by rw [HN.out]; omega)) (rise_Z l) (by unfold kZ; rw [List.length_append, HLK.out.1, List.length_singleton]; omega) (id_Z l)
          have hs2 := fun W v (hL : LogAt ly ly v 1000 0 (kG esY 1 l) W) => sin_k l n HN.out hn8 (kG esY 1 l) ((n : Int) + 1) ly ly v W hL (since_Y l _ (by omega) (by rw [HN.out]; omega)) (kG_rise good_Y l 1) (by rw [HLK.out.2]; omega) (id_Y l)
          have hs3 := fun W v (hL : LogAt wr.heap.size lz v 1000 0 (kG esX 1 l) W) => sin_k l n HN.out hn8 (kG esX 1 l) ((n : Int) + 1) wr.heap.size lz v W hL (since_X l _ (by omega) (by rw [HN.out]; omega)) (kG_rise good_X l 1) (by rw [HLK.out.1]; omega) (id_X l)
          simp only [hCC] at hs1 hs2 hs3
          have HS1 := Lib.hid hs1
          have HS2 := Lib.hid hs2
          have HS3 := Lib.hid hs3
          have HALL := Lib.hid (fun W (hL : LogAt wr.heap.size lz vz 1000 0 (kG esX 1 l) W) => all_any wr.heap.size lz vz 1000 0 _ W hL (by rw [HLK.out.1]; omega))
          have HL3 : Hid ((kG esX 1 l).length = 3 * n) := Lib.hid HLK.out.1
          clear hs1 hs2 hs3 hCC
          refine (HS1.out w5 vx' HT5.out.x).mono ?_
          rintro e w6 ⟨u1, rfl, hc1, hb6⟩
          obtain ⟨a1, m1, a2, m2, a3, m3, rfl⟩ := hc1.form
          have HC6 := Lib.hid hc1
          have HB6 := Lib.hid hb6
          clear hc1 hb6
          go_wp2_with fail
          obtain ⟨W7, hW7⟩ : ∃ W7, w6.alloc (.cells #[.slice a1 C.made.length m1, .slice a2 C.turned.length m2, .slice a3 C.gone.length m3, .int .i64 C.state, .bool C.more] 42) = W7 := ⟨_, rfl⟩
          obtain ⟨k7, b7⟩ := new_five hW7
          have HK7 := Lib.hid k7
          have HC7 := Lib.hid (HC6.out.below b7)
          have HB7 := Lib.hid (HB6.out.trans (b7.mono HB6.out.size))
          rw [hW7]
          clear hW7 k7 b7 HC6 HB6
          refine (HS2.out W7 vy (HT5.out.below HB7.out).y).mono ?_
          rintro e w8 ⟨u2, rfl, hc2, hb8⟩
          obtain ⟨d1, n1, d2, n2, d3, n3, rfl⟩ := hc2.form
          have HC8 := Lib.hid (HC7.out.below hb8)
          have HD8 := Lib.hid hc2
          have HK8 := Lib.hid ((hb8.block _ (Array.getElem?_eq_some_iff.1 HK7.out).1).trans HK7.out)
          have HB8 := Lib.hid (HB7.out.trans (hb8.mono HB7.out.size))
          clear hc2 hb8 HC7 HK7 HB7
          go_wp2_with fail
          obtain ⟨W9, hW9⟩ : ∃ W9, w8.alloc (.cells #[.slice d1 C.made.length n1, .slice d2 C.turned.length n2, .slice d3 C.gone.length n3, .int .i64 C.state, .bool C.more] 42) = W9 := ⟨_, rfl⟩
          obtain ⟨k9, b9⟩ := new_five hW9
          have HK9 := Lib.hid ((b9.block _ (Array.getElem?_eq_some_iff.1 HK8.out).1).trans HK8.out)
          have HJ9 := Lib.hid k9
          have HC9 := Lib.hid (HC8.out.below b9)
          have HD9 := Lib.hid (HD8.out.below b9)
          have HB9 := Lib.hid (HB8.out.trans (b9.mono HB8.out.size))
          rw [hW9]
          clear hW9 k9 b9 HC8 HD8 HB8 HK8
          go_wp2_with fail
          refine (HS3.out W9 vz (HZ5.out.below HB9.out)).mono ?_
          rintro e w10 ⟨u3, rfl, hc3, hb10⟩
          obtain ⟨e1, o1, e2, o2, e3, o3, rfl⟩ := hc3.form
          have HC10 := Lib.hid (HC9.out.below hb10)
          have HD10 := Lib.hid (HD9.out.below hb10)
          have HE10 := Lib.hid hc3
          have HK10 := Lib.hid ((hb10.block _ (Array.getElem?_eq_some_iff.1 HK9.out).1).trans HK9.out)
          have HJ10 := Lib.hid ((hb10.block _ (Array.getElem?_eq_some_iff.1 HJ9.out).1).trans HJ9.out)
          have HB10 := Lib.hid (HB9.out.trans (hb10.mono HB9.out.size))
          clear hc3 hb10 HC9 HD9 HK9 HJ9 HB9
          go_wp2_with fail
          obtain ⟨W11, hW11⟩ : ∃ W11, w10.alloc (.cells #[.slice e1 C.made.length o1, .slice e2 C.turned.length o2, .slice e3 C.gone.length o3, .int .i64 C.state, .bool C.more] 42) = W11 := ⟨_, rfl⟩
          obtain ⟨k11, b11⟩ := new_five hW11
          have HB11 := Lib.hid (HB10.out.trans (b11.mono HB10.out.size))
          have K1 := (b11.block _ (Array.getElem?_eq_some_iff.1 HK10.out).1).trans HK10.out
          have K2 := (b11.block _ (Array.getElem?_eq_some_iff.1 HJ10.out).1).trans HJ10.out
          have HX := Lib.hid (fun (W : World) (hb : Below W11.heap.size W11 W) => And.intro (five_cells ((hb.block _ (Array.getElem?_eq_some_iff.1 K1).1).trans K1)) (And.intro (five_cells ((hb.block _ (Array.getElem?_eq_some_iff.1 K2).1).trans K2)) (five_cells ((hb.block _ (Array.getElem?_eq_some_iff.1 k11).1).trans k11))))
          have HCH := Lib.hid (fun (W : World) (hb : Below W11.heap.size W11 W) => And.intro ((HC10.out.below b11).below hb) (And.intro ((HD10.out.below b11).below hb) ((HE10.out.below b11).below hb)))
          rw [hW11]
          clear hW11 K1 K2 k11 b11 HC10 HD10 HE10 HK10 HJ10 HB10
          obtain ⟨⟨x0, x1, x2, x3, x4, xf⟩, ⟨y0, y1, y2, y3, y4, yf⟩, ⟨z0, z1, z2, z3, z4, zf⟩⟩ := HX.out W11 (Below.refl _ _)
          refine (num_any 0 _).mono ?_
          rintro e W' ⟨rfl, rfl⟩
          go_wp2_with fail
          refine (num_any 0 _).mono ?_
          rintro e W' ⟨rfl, rfl⟩
          go_wp2_with fail
          refine (num_any 0 _).mono ?_
          rintro e W' ⟨rfl, rfl⟩
          go_wp2_with fail
          refine (changes_same _ _ C _ _ W' (HCH.out W' (Below.refl _ _)).1 (HCH.out W' (Below.refl _ _)).2.1 HLC.out.1 HLC.out.2.1 HLC.out.2.2).mono ?_
          rintro e w12 ⟨rfl, hb12⟩
          have HB12 := Lib.hid hb12
          clear hb12 x0 x1 x2 x3 x4 xf y0 y1 y2 y3 y4 yf z0 z1 z2 z3 z4 zf
          obtain ⟨⟨x0, x1, x2, x3, x4, xf⟩, ⟨y0, y1, y2, y3, y4, yf⟩, ⟨z0, z1, z2, z3, z4, zf⟩⟩ := HX.out w12 HB12.out
          go_wp2_with fail
          refine (changes_same _ _ C _ _ w12 (HCH.out w12 HB12.out).2.1 (HCH.out w12 HB12.out).2.2 HLC.out.1 HLC.out.2.1 HLC.out.2.2).mono ?_
          rintro e w13 ⟨rfl, hb13⟩
          have HB13 := Lib.hid (HB12.out.trans (hb13.mono HB12.out.size))
          clear hb13 x0 x1 x2 x3 x4 xf y0 y1 y2 y3 y4 yf z0 z1 z2 z3 z4 zf
          go_wp2_with fail
          refine (HALL.out w13 ((HZ5.out.below HB11.out).below HB13.out)).mono ?_
          rw [HL3.out]
          rintro e w14 ⟨u4, rfl, hq, hb14⟩
          obtain ⟨ua, uc, rfl⟩ := hq.form
          have HB14 := Lib.hid (HB13.out.trans (hb14.mono HB13.out.size))
          clear hq hb14
          go_wp2_with fail
          refine (awake_any _).mono ?_
          rintro e w15 ⟨rfl, hb15⟩
          go_wp2_with fail
          go_ret
          have hbw := HB5.out.trans (HB11.out.mono HB5.out.size)
          exact ⟨rfl, hbw.trans ((HB14.out.trans (hb15.mono HB14.out.size)).mono hbw.size)⟩
end Go.Proofs.Ytojjlbhodiphdaa.Lg
