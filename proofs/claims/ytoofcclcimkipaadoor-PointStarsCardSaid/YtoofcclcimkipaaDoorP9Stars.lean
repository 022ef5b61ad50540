/-
  The law PointStars returns true, of any numbers. Condition: the library's tables and errors read as its text lays them.
-/
import Derived.Test.YtoofcclcimkipaaDoorP9StarP
import Derived.Deep.RegionHeldLaw
import Derived.BigQuiet
namespace Go.Proofs.YtoofcclcimkipaaDoor.J9
open Go Go.RowKit Go.Joins Kit J7 Nds J8

set_option maxHeartbeats 16000000 in
set_option maxRecDepth 100000 in
theorem pointStars_walk (A : Option Addr) (n cap : Nat) (xs : List Int) (D : Option Addr) (m dcap : Nat) (ms : List Int) (w : World) (hlen : xs.length = n)
    (hR : ∀ k, k < n → ∃ b off, A = some ⟨b, off, none⟩ ∧ b < w.heap.size ∧ w.cell? ⟨b, off + k, none⟩ = some (.int .i16 (xs.getD k 0)))
    (hB : ∀ k, -32768 ≤ xs.getD k 0 ∧ xs.getD k 0 ≤ 32767) (_hlen2 : ms.length = m)
    (hR2 : ∀ k, k < m → ∃ b off, D = some ⟨b, off, none⟩ ∧ b < w.heap.size ∧ w.cell? ⟨b, off + k, none⟩ = some (.int .u8 (ms.getD k 0)))
    (hB2 : ∀ k, 0 ≤ ms.getD k 0 ∧ ms.getD k 0 ≤ 255) (hE : EnvP w) :
    Calls Tryd.prog 5 #[.slice A n cap, .slice D m dcap] w fun e w' => e = .returned (.bool true) ∧ Below w.heap.size w w' := by
  have HR := Lib.hid hR
  have HBD := Lib.hid hB
  have HR2 := Lib.hid hR2
  have HBD2 := Lib.hid hB2
  have HE0 := Lib.hid hE
  have HLEN := Lib.hid hlen
  clear hR hB hR2 hB2 hE hlen
  by_cases hn : n ≤ 100
  rotate_left 1
  · have g0 : (100 : Int) < (n : Int) := by omega
    clear hn
    go_enter Tryd.func5, Tryd.ntmps5
    go_wp2_with fail
    refine (awake9 HE0.out).mono ?_
    rintro e w1 ⟨rfl, hb1⟩
    go_wp2_with fail
    go_ret
    exact ⟨rfl, hb1⟩
  have g0 : ¬ (100 : Int) < (n : Int) := by omega
  by_cases hm : m ≤ 100
  rotate_left 1
  · have g1 : (100 : Int) < (m : Int) := by omega
    clear hm
    go_enter Tryd.func5, Tryd.ntmps5
    go_wp2_with fail
    refine (awake9 HE0.out).mono ?_
    rintro e w1 ⟨rfl, hb1⟩
    go_wp2_with fail
    go_ret
    exact ⟨rfl, hb1⟩
  have g1 : ¬ (100 : Int) < (m : Int) := by omega
  have gn : (n : Int) ≤ 100 := by omega
  have gm : (m : Int) ≤ 100 := by omega
  obtain ⟨B, hBz⟩ : ∃ B, w.heap.size = B := ⟨_, rfl⟩
  have hbB : Below B w w := by rw [← hBz]; exact Below.refl _ w
  have HBZ := Lib.hid hBz
  clear hBz
  go_enter Tryd.func5, Tryd.ntmps5
  go_wp2_with fail
  go_loopg [5, 8] n (fun mm y5 i wr => ∃ (q : Nat) (av : Value), mm = n - q ∧ av = y5 ∧ q ≤ n ∧ i = .int .i64 q ∧ KidsR B av (aL xs q) wr ∧ Below B w wr)
  case atStart => exact ⟨0, _, rfl, rfl, Nat.zero_le _, rfl, KidsR.new _ _, hbB⟩
  case round =>
    clear hbB
    obtain ⟨q, av, rfl, rfl, hq, rfl, hkd, hb⟩ := hrel
    by_cases hlt : q < n
    · have h1 : (q : Int) < (n : Int) := by omega
      obtain ⟨lb, loff, rfl, hlb, hlc⟩ := HR.out q hlt
      have hlbB : lb < B := by rw [← HBZ.out]; exact hlb
      have hcell : wr.cell? ⟨lb, loff + q, none⟩ = some (.int .i16 (xs.getD q 0)) := (hb.cell (p := ⟨lb, loff + q, none⟩) hlbB).trans hlc
      have hbd := HBD.out q
      have hBr : B ≤ wr.heap.size := by rw [← HBZ.out]; exact hb.size
      have hqx : q < xs.length := by rw [HLEN.out]; exact hlt
      have hnx : xs.length ≤ 100 := by rw [HLEN.out]; exact hn
      have HK : Hid (KidsR B av (aL xs q) wr) := Lib.hid hkd
      obtain ⟨lv, hlv⟩ : ∃ lv, xs.getD q 0 = lv := ⟨_, rfl⟩
      rw [hlv] at hcell hbd
      obtain ⟨v0, v1⟩ := hbd
      have HQ := Lib.hid (And.intro hqx (And.intro hlv (And.intro hnx hBr)))
      have HSL : Hid (∀ w', Below B wr w' → (Below B wr w' ∧ (w').cell? ⟨lb, loff + q, none⟩ = some (.int .i16 lv))) := Lib.hid (fun w' h => ⟨h, (h.cell (p := ⟨lb, loff + q, none⟩) hlbB).trans hcell⟩)
      have hBw : Below B wr wr := (Below.refl _ wr).mono hBr
      have HS0 : Hid (Below B wr wr.drew ∧ (wr.drew).cell? ⟨lb, loff + q, none⟩ = some (.int .i16 lv)) := Lib.hid (HSL.out _ hBw.drew)
      have HSA : Hid (∀ w1 o, (Below B wr w1 ∧ (w1).cell? ⟨lb, loff + q, none⟩ = some (.int .i16 lv)) → (Below B wr (World.alloc w1 o) ∧ (World.alloc w1 o).cell? ⟨lb, loff + q, none⟩ = some (.int .i16 lv))) := Lib.hid (fun w1 o h => HSL.out _ (h.1.alloc (Nat.le_trans hBr h.1.size) o))
      have HSB : Hid (∀ w1 w2, Below w1.heap.size w1 w2 → (Below B wr w1 ∧ (w1).cell? ⟨lb, loff + q, none⟩ = some (.int .i16 lv)) → (Below B wr w2 ∧ (w2).cell? ⟨lb, loff + q, none⟩ = some (.int .i16 lv))) := Lib.hid (fun w1 w2 h1 h => HSL.out _ (h.1.trans (h1.mono (Nat.le_trans hBr h.1.size))))
      have hwl : IntKind.i64.wrap lv = lv := IntWalk.i64_in _ (by omega)
      have HS1 : Hid (∀ o, (Below B wr (World.drew (World.alloc wr o)) ∧ (World.drew (World.alloc wr o)).cell? ⟨lb, loff + q, none⟩ = some (.int .i16 lv))) := Lib.hid (fun o => HSL.out _ ((hBw.alloc hBr o).drew))
      clear hlc hlb hlbB hqx hlv hnx hkd hBr hBw
      go_upto_region 8 with fail
      go_region_held_law (fun w' => Below B wr w' ∧ w'.cell? ⟨lb, loff + q, none⟩ = some (.int .i16 lv))
        (first | with_reducible exact HS0.out | with_reducible exact HS1.out _ | with_reducible exact HSA.out _ _ (by assumption) | with_reducible exact HSB.out _ _ (by assumption) (by assumption) | assumption | with_reducible exact HSA.out _ _ HS0.out | with_reducible exact HSB.out _ _ (by assumption) HS0.out | with_reducible exact HSB.out _ _ (by assumption) (HS1.out _) | with_reducible exact HSB.out _ _ (by assumption) (HSA.out _ _ (by assumption)))
        (first
          | (with_reducible refine (num9c 1 _).mono ?_; rintro e w4 ⟨rfl, hb4⟩)
          | (with_reducible refine (num9c lv _).mono ?_; rintro e w5 ⟨rfl, hb5⟩)
          | (refine a_step HK.out HQ.out.1 HQ.out.2.1 HQ.out.2.2.1 HQ.out.2.2.2 rfl rfl rfl rfl (lay1 hb4 hb5) (fresh_at (by simp)) ?_; intro g7 c7 w7 hk7 hb7; have hS7 := HSL.out _ hb7)
          | (refine a_step HK.out HQ.out.1 HQ.out.2.1 HQ.out.2.2.1 HQ.out.2.2.2 rfl rfl rfl rfl (lay2 hb4 hb5) (fresh_at (by simp)) ?_; intro g7 c7 w7 hk7 hb7; have hS7 := HSL.out _ hb7)
          | (refine a_step HK.out HQ.out.1 HQ.out.2.1 HQ.out.2.2.1 HQ.out.2.2.2 rfl rfl rfl rfl (lay3 hb4 hb5) (fresh_at (by simp)) ?_; intro g7 c7 w7 hk7 hb7; have hS7 := HSL.out _ hb7)
          | (refine a_step HK.out HQ.out.1 HQ.out.2.1 HQ.out.2.2.1 HQ.out.2.2.2 rfl rfl rfl rfl (lay4 hb4 hb5) (fresh_at (by simp)) ?_; intro g7 c7 w7 hk7 hb7; have hS7 := HSL.out _ hb7))
      all_goals
        go_wp2_with fail
        go_roundg (n - (q + 1))
        case measure => omega
        case rel => exact ⟨q + 1, _, rfl, rfl, by omega, by go_num, hk7, hb.trans hb7⟩
    · have hqn : q = n := by omega
      have h1 : ¬ (q : Int) < (n : Int) := by omega
      have hal : aL xs q = xs.map aJ := by unfold aL; rw [hqn, ← HLEN.out, List.take_length]
      have hln : (aL xs q).length = n := by rw [hal, List.length_map]; exact HLEN.out
      obtain ⟨ao, cp, hav⟩ := KidsR.form hkd
      rw [hln] at hav
      subst hav
      rw [hal] at hkd
      obtain ⟨wa, rfl⟩ : ∃ wa, wa = wr := ⟨_, rfl⟩
      obtain ⟨Sa, hSa⟩ : ∃ Sa, wa.heap.size = Sa := ⟨_, rfl⟩
      have hBSa : B ≤ Sa := by rw [← hSa, ← HBZ.out]; exact hb.size
      have hbS : Below Sa wa wa := by rw [← hSa]; exact Below.refl _ wa
      have HBW : Hid (∀ w', Below Sa wa w' → Below w.heap.size w w') := Lib.hid (fun w' h => by rw [HBZ.out]; exact hb.trans (h.mono hBSa))
      have HROW : Hid (∀ w', Below Sa wa w' → NodeIn w' (arrK (xs.map aJ)) (.agg #[.int .i64 6, .int .i64 0, .string ⟨#[]⟩, .slice none 0 0, .slice ao n cp])) := Lib.hid (fun w' h => in_of_at (KidsR.arr (KidsR.same hkd (fun g _ hl => h.block g (by rw [← hSa]; exact hl)))))
      have HE : Hid (∀ w', Below Sa wa w' → EnvP w') := Lib.hid (fun w' h => HE0.out.next (HBW.out w' h))
      obtain ⟨cs, hcs⟩ : ∃ cs : Nat → Nat, ∀ i, ms.getD i 0 % 4 = (cs i : Int) := ⟨fun i => (ms.getD i 0 % 4).toNat, fun i => by
        have := HBD2.out i
        show _ = (((ms.getD i 0 % 4).toNat : Nat) : Int)
        omega⟩
      have HCS : Hid (∀ i, ms.getD i 0 % 4 = (cs i : Int) ∧ cs i ≤ 3) := Lib.hid (fun i => ⟨hcs i, by have := hcs i; omega⟩)
      have HSA := Lib.hid hSa
      clear hq hkd hb hlt hal hln hcs hSa hqn hBSa
      go_wp2_with fail
      clear h1
      go_loopg [6, 7, 9] m (fun mm y6 y7 i wr => ∃ (q2 : Nat) (P : Nat → Prop) (bv wv : Value), mm = m - q2 ∧ bv = y6 ∧ wv = y7 ∧ q2 ≤ m ∧ i = .int .i64 q2 ∧ KidsQ P Sa bv (bL cs q2) wr ∧ Hid (∀ g, P g → Sa ≤ g ∧ g < wr.heap.size ∧ wv.ownBlock ≠ some g) ∧ IntsR Sa wv (wantL cs q2) wr ∧ Below Sa wa wr)
      case atStart => exact ⟨0, fun _ => False, _, _, rfl, rfl, rfl, Nat.zero_le _, rfl, KidsQ.new _ _ _, Lib.hid (fun g h => h.elim), IntsR.new _ _, hbS⟩
      case round =>
        clear hbS
        obtain ⟨q2, P, bv, wv, rfl, rfl, rfl, hq2, rfl, hkb, HP, hwi, hb2⟩ := hrel
        by_cases hlt : q2 < m
        · have h1 : (q2 : Int) < (m : Int) := by omega
          obtain ⟨db, doff, rfl, hdb, hdc⟩ := HR2.out q2 hlt
          obtain ⟨c, hc⟩ : ∃ c, ms.getD q2 0 = c := ⟨_, rfl⟩
          rw [hc] at hdc
          have hcb := HBD2.out q2
          rw [hc] at hcb
          obtain ⟨cb0, cb1⟩ := hcb
          have hcq := HCS.out q2
          rw [hc] at hcq
          obtain ⟨cq, hcq2⟩ : ∃ cq, cs q2 = cq := ⟨_, rfl⟩
          rw [hcq2] at hcq
          have er : c.tmod 4 = (cq : Int) := by rw [IntWalk.rem_in _ _ cb0]; exact hcq.1
          have gcq : (cq : Int) ≤ 3 := by have := hcq.2; omega
          have HDC : Hid (∀ w', Below Sa wa w' → w'.cell? ⟨db, doff + q2, none⟩ = some (.int .u8 c)) := Lib.hid (fun w' h => ((HBW.out w' h).cell (p := ⟨db, doff + q2, none⟩) hdb).trans hdc)
          obtain ⟨wc, rfl⟩ : ∃ wc, wc = wr := ⟨_, rfl⟩
          obtain ⟨S, hS⟩ : ∃ S, wc.heap.size = S := ⟨_, rfl⟩
          have hSaS : Sa ≤ S := by rw [← hS, ← HSA.out]; exact hb2.size
          have HSS := Lib.hid hSaS
          have HBV : Hid (∀ g, bv.ownBlock = some g → g < S) := Lib.hid (fun g hg => by rw [← hS]; exact (hkb.own hg).2)
          have HP2 : Hid (∀ g, P g → g < S ∧ wv.ownBlock ≠ some g) := Lib.hid (fun g hg => ⟨by rw [← hS]; exact (HP.out g hg).2.1, (HP.out g hg).2.2⟩)
          have hw0 : IntsR Sa wv (wantL cs q2 ++ intsF q2 0) wc := by rw [show intsF q2 0 = [] from rfl, List.append_nil]; exact hwi
          have hS0 : S ≤ wc.heap.size := Nat.le_of_eq hS.symm
          have HPG : Hid (∀ g, P g → Sa ≤ g) := Lib.hid (fun g hg => (HP.out g hg).1)
          have HCQ := Lib.hid hcq2
          have HWL := Lib.hid (wantL_len (fun i => (HCS.out i).2) q2)
          clear hdb hdc hc hcq hcq2 hwi HP hS hSaS
          go_wp2_with fail
          go_loopg [7, 10, 11] cq (fun mm y7 y10 j wr => ∃ (r : Nat) (wv kv : Value), mm = cq - r ∧ wv = y7 ∧ kv = y10 ∧ r ≤ cq ∧ j = .int .i64 r ∧ KidsQ (fun _ => False) S kv (numsF q2 r) wr ∧ KidsQ P Sa bv (bL cs q2) wr ∧ Hid (∀ g, P g → g < S ∧ wv.ownBlock ≠ some g) ∧ IntsR Sa wv (wantL cs q2 ++ intsF q2 r) wr ∧ Below Sa wa wr ∧ S ≤ wr.heap.size)
          case atStart => exact ⟨0, _, _, rfl, rfl, rfl, Nat.zero_le _, rfl, KidsQ.new _ _ _, hkb, HP2, hw0, hb2, hS0⟩
          case round =>
            clear hkb HP2 hw0 hb2 hS0
            obtain ⟨r, wv, kv, rfl, rfl, rfl, hr, rfl, hkk, hkb, HP, hwi, hb, hSw⟩ := hrel
            have hdc := HDC.out wr hb
            have hSaw : Sa ≤ wr.heap.size := Nat.le_trans HSS.out hSw
            by_cases hrl : r < cq
            · have h2 : (r : Int) < (cq : Int) := by omega
              have hlenw : (wantL cs q2 ++ intsF q2 r).length ≤ 65536 := by
                rw [List.length_append, intsF_len]
                have := HWL.out
                omega
              obtain ⟨WL, hWL⟩ : ∃ WL, wantL cs q2 ++ intsF q2 r = WL := ⟨_, rfl⟩
              rw [hWL] at hlenw hwi
              have HWLE := Lib.hid hWL
              have HLW := Lib.hid hlenw
              have hcast : Hid (((q2 + r : Nat) : Int) = (q2 : Int) + (r : Int)) := Lib.hid (by omega)
              have HKK := Lib.hid hkk
              have HKB := Lib.hid hkb
              have HWI := Lib.hid hwi
              have HB := Lib.hid hb
              have HSW := Lib.hid (And.intro hSw hSaw)
              clear hkk hkb hwi hb hSw hSaw hlenw hWL
              go_wp2_with fail
              refine (num9c ((q2 : Int) + (r : Int)) _).mono ?_
              rintro e w4 ⟨rfl, hb4⟩
              have hb5 : Below wr.heap.size wr (w4.alloc (.cells #[.int .i64 4, .int .i64 ((q2 : Int) + (r : Int)), .string ⟨#[]⟩, .slice none 0 0, .slice none 0 0] 25)) := below_al hb4 _
              have hkk5 := HKK.out.same (fun g hg => hb5.block g hg)
              have hkb5 := HKB.out.same (fun g hg => hb5.block g hg)
              have hwi5 := HWI.out.same (fun g _ hg => hb5.block g hg)
              have hbb5 : Below Sa wa _ := HB.out.trans (hb5.mono HSW.out.2)
              have hs5 : S ≤ (w4.alloc (.cells #[.int .i64 4, .int .i64 ((q2 : Int) + (r : Int)), .string ⟨#[]⟩, .slice none 0 0, .slice none 0 0] 25)).heap.size := Nat.le_trans HSW.out.1 hb5.size
              have hlk : (numsF q2 r).length + [numJ ((q2 : Int) + (r : Int))].length ≤ 65536 := by rw [numsF_len]; simp; omega
              go_wp2_with (at_builtin; refine KidsQ.apps rfl _ _ rfl (fun _ => False) S _ kv (numsF q2 r) [numJ ((q2 : Int) + (r : Int))] _ hkk5 (kids_single (node_plain _ _ 4 _ ⟨#[]⟩)) ⟨w4.heap.size, 0, none⟩ (fun j u hq => World.news_of_block (Kit.fresh_block w4 _ _) j u hq) 1 rfl rfl Nat.zero_lt_one hlk hs5 ?_)
              intro g6 c6 w6 hkk6 hgr6 hat6
              have hkb6 : KidsQ P Sa bv (bL cs q2) w6 := hkb5.same3 (fun g hg hl => hgr6.block g hl (fun e => by
                have h9 := (hkk5.own e.symm).1
                rcases hg with hg | hg
                · have := (HP.out g hg).1; omega
                · have := HBV.out g hg; omega))
              have hwi6 : IntsR Sa wv WL w6 := hwi5.same (fun g hg hl => hgr6.block g hl (fun e => ints_ne hwi5 hkk5 hg e.symm))
              have hbb6 : Below Sa wa w6 := hbb5.grown hgr6 (Nat.le_trans HSS.out hs5) (fun g hg => Nat.le_trans HSS.out (hkk5.own hg).1)
              have hs6 : S ≤ w6.heap.size := Nat.le_trans hs5 hgr6.size
              have hsa6 : Sa ≤ w6.heap.size := Nat.le_trans HSS.out hs6
              clear hkk5 hkb5 hwi5 hbb5 hs5 hlk hb4 hb5 hgr6 hat6
              go_wp2_with (at_builtin; refine ints_app rfl _ _ rfl Sa _ wv WL hwi6 ((q2 : Int) + (r : Int)) rfl rfl HLW.out hsa6 ?_)
              intro g7 c7 w7 hwi7 hgr7 hat7
              have hal : Below w6.heap.size w6 (w6.alloc (.cells #[.int .i64 ((q2 : Int) + (r : Int))] 3)) := (Below.refl _ w6).alloc (Nat.le_refl _) _
              have hold : ∀ g, g < w6.heap.size → wv.ownBlock ≠ some g → w7.heap[g]? = w6.heap[g]? := fun g hg hne => (hgr7.block g (Nat.lt_of_lt_of_le hg hal.size) (fun e => hne e.symm)).trans (hal.block g hg)
              have hkk7 := hkk6.same3 (w' := w7) (fun g hg hl => by
                rcases hg with hg | hg
                · exact hg.elim
                · exact hold g hl (fun e => ints_ne hwi6 hkk6 e hg))
              have hkb7 := hkb6.same3 (w' := w7) (fun g hg hl => by
                rcases hg with hg | hg
                · exact hold g hl (HP.out g hg).2
                · exact hold g hl (fun e => ints_ne hwi6 hkb6 e hg))
              have hbb7 : Below Sa wa w7 := (hbb6.trans (hal.mono hsa6)).grown hgr7 (Nat.le_trans hsa6 hal.size) (fun g hg => by have := hwi6.lt g hg; exact this.1)
              have hs7 : S ≤ w7.heap.size := Nat.le_trans hs6 (Nat.le_trans hal.size hgr7.size)
              have HP7 : Hid (∀ g, P g → g < S ∧ (Value.slice (some ⟨g7, 0, none⟩) (WL.length + 1) c7).ownBlock ≠ some g) := Lib.hid (fun g hg => ⟨(HP.out g hg).1, fun e => by
                have hgg : g7 = g := by simpa [Value.ownBlock] using e
                subst hgg
                rcases hat7 with h | h
                · exact (HP.out g7 hg).2 h
                · have := (HP.out g7 hg).1
                  omega⟩)
              have hkk8 : KidsQ (fun _ => False) S (.slice (some ⟨g6, 0, none⟩) ((numsF q2 r).length + [numJ ((q2 : Int) + (r : Int))].length) c6) (numsF q2 (r + 1)) w7 := by rw [numsF_next, hcast.out]; exact hkk7
              have hwi8 : IntsR Sa (.slice (some ⟨g7, 0, none⟩) (WL.length + 1) c7) (wantL cs q2 ++ intsF q2 (r + 1)) w7 := by rw [intsF_next, hcast.out, ← List.append_assoc, HWLE.out]; exact hwi7
              clear hkk6 hkk7 hwi6 hwi7 hgr7 hat7 hal hold hbb6 hs6 hsa6 hkb6
              go_wp2_with fail
              go_roundg (cq - (r + 1))
              case measure => omega
              case rel => exact ⟨r + 1, _, _, rfl, rfl, rfl, by omega, by go_num, hkk8, hkb7, HP7, hwi8, hbb7, hs7⟩
            · obtain rfl : cq = r := by omega
              have h2 : ¬ (cq : Int) < (cq : Int) := by omega
              obtain ⟨kao, kcp, hkv⟩ := hkk.form
              rw [numsF_len] at hkv
              subst hkv
              obtain ⟨V, hV, hbV, hsV, k1, k2, k3⟩ := three_new wr #[.string ⟨#[105, 100]⟩] #[.int .i64 6, .int .i64 0, .string ⟨#[]⟩, .slice none 0 0, .slice kao cq kcp] #[.int .i64 7, .int .i64 0, .string ⟨#[]⟩, .slice (some ⟨wr.heap.size, 0, none⟩) 1 1, .slice (some ⟨wr.heap.size + 1, 0, none⟩) 1 1] 9 25 25
              have hbV2 : Below Sa wa V := hb.trans (hbV.mono hSaw)
              have hkbV : KidsQ (fun g => (P g ∨ S ≤ g) ∧ wv.ownBlock ≠ some g) Sa bv (bL cs q2) V := (hkb.same3 (fun g _ hl => hbV.block g hl)).mono (fun g hg _ => ⟨Or.inl hg, (HP.out g hg).2⟩)
              have hkkV := hkk.same3 (fun g _ hl => hbV.block g hl)
              have hwiV := hwi.same (fun g _ hl => hbV.block g hl)
              have hwlt : ∀ g, wv.ownBlock = some g → g < wr.heap.size := fun g hg => (hwi.lt g hg).2
              have hnode : NodeAt (fun g => (fun g => (P g ∨ S ≤ g) ∧ wv.ownBlock ≠ some g) g ∧ bv.ownBlock ≠ some g) V (bJ (numsF q2 cq)) (.agg #[.int .i64 7, .int .i64 0, .string ⟨#[]⟩, .slice (some ⟨wr.heap.size, 0, none⟩) 1 1, .slice (some ⟨wr.heap.size + 1, 0, none⟩) 1 1]) :=
                b_node hkkV (fun g hg => hg.elim) (fun g hg => ⟨⟨Or.inr (hkkV.own hg).1, fun e => ints_ne hwiV hkkV e hg⟩, fun e => by have := HBV.out g e; have := (hkkV.own hg).1; omega⟩) k1 k2
                  ⟨⟨Or.inr hSw, fun e => absurd (hwlt _ e) (Nat.lt_irrefl _)⟩, fun e => by have := HBV.out _ e; omega⟩ ⟨⟨Or.inr (by omega), fun e => by have := hwlt _ e; omega⟩, fun e => by have := HBV.out _ e; omega⟩
              have hlb : (bL cs q2).length + [bJ (numsF q2 cq)].length ≤ 65536 := by rw [bL_len]; simp; omega
              have hsV2 : Sa ≤ V.heap.size := by omega
              have HV := Lib.hid hV
              have HNO := Lib.hid hnode
              have HLB := Lib.hid hlb
              have HK3 := Lib.hid k3
              clear hV hbV hsV k1 k2 k3 hkkV hwlt hnode hlb hkk hkb hwi hb hSw hSaw
              go_wp2_with (at_builtin; rw [HV.out]; refine KidsQ.apps rfl _ _ rfl (fun g => (P g ∨ S ≤ g) ∧ wv.ownBlock ≠ some g) Sa V bv (bL cs q2) [bJ (numsF q2 cq)] _ hkbV (kids_single HNO.out) ⟨wr.heap.size + 2, 0, none⟩ (fun j u hq => World.news_of_block HK3.out j u hq) 1 rfl rfl Nat.zero_lt_one HLB.out hsV2 ?_)
              intro g8 c8 w8 hk8 hgr8 hat8
              have hwi8 : IntsR Sa wv (wantL cs q2 ++ intsF q2 cq) w8 := hwiV.same (fun g hg hl => hgr8.block g hl (fun e => ints_ne hwiV hkbV hg e.symm))
              have hbb8 : Below Sa wa w8 := hbV2.grown hgr8 hsV2 (fun g hg => (hkbV.own hg).1)
              have hk9 : KidsQ (fun g => (fun g => (P g ∨ S ≤ g) ∧ wv.ownBlock ≠ some g) g ∧ g < w8.heap.size) Sa (.slice (some ⟨g8, 0, none⟩) ((bL cs q2).length + [bJ (numsF q2 cq)].length) c8) (bL cs (q2 + 1)) w8 := by
                rw [bL_next, HCQ.out]
                exact hk8.mono (fun g hg hl => ⟨hg, hl⟩)
              have hwi9 : IntsR Sa wv (wantL cs (q2 + 1)) w8 := by
                rw [wantL_next, HCQ.out]
                exact hwi8
              have HP9 : Hid (∀ g, ((fun g => (P g ∨ S ≤ g) ∧ wv.ownBlock ≠ some g) g ∧ g < w8.heap.size) → Sa ≤ g ∧ g < w8.heap.size ∧ wv.ownBlock ≠ some g) := Lib.hid (fun g hg => ⟨by
                rcases hg.1.1 with h | h
                · exact HPG.out g h
                · exact Nat.le_trans HSS.out h, hg.2, hg.1.2⟩)
              clear hk8 hgr8 hat8 hwi8 hwiV hkbV hbV2 hsV2
              go_wp2_with fail
              go_roundg (m - (q2 + 1))
              case measure => omega
              case rel => exact ⟨q2 + 1, _, _, _, rfl, rfl, rfl, by omega, by go_num, hk9, HP9, hwi9, hbb8⟩
        · have hqm : q2 = m := by omega
          have h1 : ¬ (q2 : Int) < (m : Int) := by omega
          obtain ⟨bo, bcp, hbv⟩ := hkb.form
          obtain ⟨wo, wcp, hwv⟩ := hwi.form
          rw [bL_len] at hbv
          obtain ⟨L, hL⟩ : ∃ L, (wantL cs m).length = L := ⟨_, rfl⟩
          rw [hqm] at hbv hwv hkb hwi
          rw [hL] at hwv
          subst hbv hwv
          have gL : (L : Int) ≤ 300 := by
            have := wantL_len (fun i => (HCS.out i).2) m
            omega
          obtain ⟨wd, rfl⟩ : ∃ wd, wd = wr := ⟨_, rfl⟩
          have HB2 := Lib.hid hb2
          have HSD : Hid (Sa ≤ wd.heap.size) := Lib.hid (by have := hb2.size; rw [HSA.out] at this; exact this)
          have HBD3 : Hid (∀ w', Below wd.heap.size wd w' → Below Sa wa w') := Lib.hid (fun w' h => HB2.out.trans (h.mono HSD.out))
          have HNB : Hid (∀ w', Below wd.heap.size wd w' → NodeIn w' (arrK (bL cs m)) (.agg #[.int .i64 6, .int .i64 0, .string ⟨#[]⟩, .slice none 0 0, .slice bo m bcp])) := Lib.hid (fun w' h => in_of_at (KidsQ.arr (hkb.same3 (fun g _ hl => h.block g hl))))
          have HWC : Hid (∀ w', Below wd.heap.size wd w' → ∀ i, i < L → ∃ g, wo = some ⟨g, 0, none⟩ ∧ w'.cell? ⟨g, i, none⟩ = some (.int .i64 ((wantL cs m).getD i 0))) := Lib.hid (fun w' h i hi => by
            obtain ⟨g, cp9, e, hc⟩ := IntsR.cell (hwi.same (fun g _ hl => h.block g hl)) i (by rw [hL]; exact hi)
            injection e with e1 _ _
            exact ⟨g, e1, hc⟩)
          have hg := get_nums (point_as HBD.out) (tame_as (by rw [HLEN.out]; exact hn)) (cnt_as (by rw [HLEN.out]; exact hn)) wd (HE.out wd hb2) (HROW.out wd hb2)
          rw [HLEN.out] at hg
          have hgb := fun (W : World) (h : Below wd.heap.size wd W) => get_nums (point_bs hm (fun i => (HCS.out i).2)) (tame_bs hm (fun i => (HCS.out i).2)) (cnt_bs hm (fun i => (HCS.out i).2)) W (HE.out W (HBD3.out W h)) (HNB.out W h)
          rw [hL] at hgb
          have HGB := Lib.hid hgb
          have HL9 := Lib.hid hL
          clear hgb hb2 hkb hwi hq2 hlt hL hqm HP
          go_wp2_with fail
          refine hg.mono ?_
          rintro e u1 ⟨a3, m3, a4, m4, rfl, HX1, hbu1⟩
          obtain ⟨V1, hV1, hbV1, hsV1, hbx1⟩ := bx_later u1 (.int .i64 6) (.int .i64 0) (.string ⟨#[]⟩) (.slice a3 0 m3) (.slice a4 n m4)
          have hd1 : Below wd.heap.size wd V1 := hbu1.trans (hbV1.mono hbu1.size)
          have hg2 := HGB.out V1 hd1
          have HV1 := Lib.hid hV1
          obtain ⟨G1, hG1⟩ : ∃ G, u1.heap.size = G := ⟨_, rfl⟩
          rw [hG1] at hbx1
          have HG1 := Lib.hid hG1
          have HBX1 := Lib.hid hbx1
          have HX1b : Hid (∀ w', Below V1.heap.size V1 w' → ∀ i, i < n → ∃ g o, a4 = some ⟨g, o, none⟩ ∧ w'.cell? ⟨g, o + i * 5 + 1, none⟩ = some (.int .i64 (xs.getD i 0))) := Lib.hid (fun w' h i hi => by
            obtain ⟨g, o, e1, e2, e3⟩ := HX1.out i hi
            exact ⟨g, o, e1, ((hbV1.trans (h.mono hbV1.size)).cell (p := ⟨g, o + i * 5 + 1, none⟩) e2).trans e3⟩)
          have HD1 : Hid (∀ w', Below V1.heap.size V1 w' → Below wd.heap.size wd w') := Lib.hid (fun w' h => hd1.trans (h.mono hd1.size))
          clear hV1 hbV1 hsV1 hbx1 hd1 hbu1 hg hG1 HGB HX1
          go_upto_region 20 with fail
          rw [HV1.out]
          (try rw [HG1.out])
          go_wp2_with fail
          refine hg2.mono ?_
          rintro e u2 ⟨b3, o3, b4, o4, rfl, HX2, hbu2⟩
          obtain ⟨V2, hV2, hbV2, hsV2, hbx2⟩ := bx_later u2 (.int .i64 6) (.int .i64 0) (.string ⟨#[]⟩) (.slice b3 0 o3) (.slice b4 L o4)
          have hd2 : Below V1.heap.size V1 V2 := hbu2.trans (hbV2.mono hbu2.size)
          have HV2 := Lib.hid hV2
          obtain ⟨G2, hG2⟩ : ∃ G, u2.heap.size = G := ⟨_, rfl⟩
          rw [hG2] at hbx2
          have HG2 := Lib.hid hG2
          have HBX2 := Lib.hid hbx2
          have HX2b : Hid (∀ w', Below V2.heap.size V2 w' → ∀ i, i < L → ∃ g o, b4 = some ⟨g, o, none⟩ ∧ w'.cell? ⟨g, o + i * 5 + 1, none⟩ = some (.int .i64 ((wantL cs m).getD i 0))) := Lib.hid (fun w' h i hi => by
            obtain ⟨g, o, e1, e2, e3⟩ := HX2.out i (by have := HL9.out; omega)
            exact ⟨g, o, e1, ((hbV2.trans (h.mono hbV2.size)).cell (p := ⟨g, o + i * 5 + 1, none⟩) e2).trans e3⟩)
          have HD2 : Hid (∀ w', Below V2.heap.size V2 w' → Below V1.heap.size V1 w') := Lib.hid (fun w' h => hd2.trans (h.mono hd2.size))
          have f1 := HBX1.out V2 hd2
          have f2 := HBX2.out V2 (Below.refl _ _)
          have p0 := f1.p0
          have p4 := f1.p4
          have q4 := f2.p4
          clear hV2 hbV2 hsV2 hbx2 hd2 hbu2 hg2 hG2 f1 f2 HX2
          go_upto_region 21 with fail
          rw [HV2.out]
          (try rw [HG2.out])
          go_wp2_with fail
          refine (L3.num_any 0 _).mono ?_
          rintro e t1 ⟨rfl, rfl⟩
          go_wp2_with fail
          refine (L3.num_any 0 _).mono ?_
          rintro e t1 ⟨rfl, rfl⟩
          go_wp2_with fail
          clear p0 p4 q4
          go_loopg [16] n (fun mm i wr => ∃ q : Nat, mm = n - q ∧ q ≤ n ∧ i = .int .i64 q ∧ Below V2.heap.size V2 wr)
          case atStart => exact ⟨0, rfl, Nat.zero_le _, rfl, Below.refl _ _⟩
          case round =>
            obtain ⟨q, rfl, hq, rfl, hb⟩ := hrel
            by_cases hlt : q < n
            · have h1 : (q : Int) < (n : Int) := by omega
              obtain ⟨lb, loff, rfl, hlb, hlc⟩ := HR.out q hlt
              have hbw : Below w.heap.size w wr := HBW.out _ (HBD3.out _ (HD1.out _ (HD2.out _ hb)))
              have hcell : wr.cell? ⟨lb, loff + q, none⟩ = some (.int .i16 (xs.getD q 0)) := (hbw.cell (p := ⟨lb, loff + q, none⟩) hlb).trans hlc
              have hbd := HBD.out q
              obtain ⟨g9, o9, rfl, hxc⟩ := HX1b.out wr (HD2.out _ hb) q hlt
              obtain ⟨lv, hlv⟩ : ∃ lv, xs.getD q 0 = lv := ⟨_, rfl⟩
              rw [hlv] at hcell hbd hxc
              obtain ⟨v0, v1⟩ := hbd
              have f1 := HBX1.out wr (HD2.out _ hb)
              have p4 := f1.p4
              have HB := Lib.hid hb
              clear hlc hlb hlv f1 hbw hb
              go_wp2_with fail
              go_quiet (fail)
              go_wp2_with fail
              go_roundg (n - (q + 1))
              case measure => omega
              case rel => exact ⟨q + 1, rfl, by omega, by go_num, HB.out.trans ((below_drewN (Below.refl _ wr) _).mono HB.out.size)⟩
            · have h1 : ¬ (q : Int) < (n : Int) := by omega
              obtain ⟨wf, rfl⟩ : ∃ wf, wf = wr := ⟨_, rfl⟩
              have HB := Lib.hid hb
              have hb0 := Below.refl wf.heap.size wf
              clear hb
              go_wp2_with fail
              go_loopg [17] L (fun mm i wr => ∃ q3 : Nat, mm = L - q3 ∧ q3 ≤ L ∧ i = .int .i64 q3 ∧ Below wf.heap.size wf wr)
              case atStart => exact ⟨0, rfl, Nat.zero_le _, rfl, hb0⟩
              case round =>
                obtain ⟨q3, rfl, hq3, rfl, hb⟩ := hrel
                have hb2 : Below V2.heap.size V2 wr := HB.out.trans (hb.mono HB.out.size)
                by_cases hlt3 : q3 < L
                · have h3 : (q3 : Int) < (L : Int) := by omega
                  obtain ⟨gw, rfl, hwc⟩ := HWC.out wr (HD1.out _ (HD2.out _ hb2)) q3 hlt3
                  obtain ⟨g9, o9, rfl, hxc⟩ := HX2b.out wr hb2 q3 hlt3
                  obtain ⟨lv, hlv⟩ : ∃ lv, (wantL cs m).getD q3 0 = lv := ⟨_, rfl⟩
                  rw [hlv] at hwc hxc
                  have f2 := HBX2.out wr hb2
                  have q4 := f2.p4
                  have HB3 := Lib.hid hb
                  clear hlv f2 hb2 hb hb0
                  go_wp2_with fail
                  go_quiet (fail)
                  go_wp2_with fail
                  go_roundg (L - (q3 + 1))
                  case measure => omega
                  case rel => exact ⟨q3 + 1, rfl, by omega, by go_num, HB3.out.trans ((below_drewN (Below.refl _ wr) _).mono HB3.out.size)⟩
                · have h3 : ¬ (q3 : Int) < (L : Int) := by omega
                  have hba := HBD3.out _ (HD1.out _ (HD2.out _ hb2))
                  go_wp2_with fail
                  refine (awake9 (HE.out wr hba)).mono ?_
                  rintro e w9 ⟨rfl, hb9⟩
                  go_wp2_with fail
                  go_ret
                  have hbw := HBW.out wr hba
                  exact ⟨rfl, hbw.trans (hb9.mono hbw.size)⟩
end Go.Proofs.YtoofcclcimkipaaDoor.J9
