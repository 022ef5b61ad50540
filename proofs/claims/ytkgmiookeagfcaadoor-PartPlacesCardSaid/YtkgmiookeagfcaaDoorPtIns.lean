/-
  The law PartPlaces' inside: true of a part that lies so. Conditions: at most thirty kids in each.
-/
import Derived.Test.YtkgmiookeagfcaaDoorPtMem
import Derived.Test.YtkgmiookeagfcaaDoorPtBx
import Derived.Test.YtkgmiookeagfcaaDoorPtWell
import Derived.Deep.RegionWith
import Derived.Deep.LoopGhost
import Derived.WalkSmall
namespace Go.Proofs.YtkgmiookeagfcaaDoor.Pt
open Go Go.RowKit Go.Joins Kit F0

def InsOk (j : P) : Prop := ∀ (Q : Nat → Prop) (w : World) (a b : Nat) (c0 c1 c2 c3 c4 c5 c6 c7 : Value), slimL j → insL j a b → PartAt Q w j (.agg #[c0, c1, c2, c3, c4, c5, c6, c7]) →
  Calls Tryd.prog 23 #[.agg #[c0, c1, c2, c3, c4, c5, c6, c7], .int .i64 (a : Int), .int .i64 (b : Int)] w fun e w' => e = .returned (.bool true) ∧ Below w.heap.size w w'

set_option maxHeartbeats 4000000 in
set_option maxRecDepth 100000 in
theorem ins_of (j : P) (ih : ∀ k ∈ j.kids, InsOk k) : InsOk j := by
  intro Q w a b c0 c1 c2 c3 c4 c5 c6 c7 hsl hin hc
  obtain ⟨ap, mp, ak, mk, e, hps, cs, hk1, hk2⟩ := part_cells hc
  injection e with e
  injection e with e
  injection e with e0 e
  injection e with e1 e
  injection e with e2 e
  injection e with e3 e
  injection e with e4 e
  injection e with e5 e
  injection e with e6 e
  injection e with e7 e
  subst e0 e1 e2 e3 e4 e5 e6 e7
  obtain ⟨h1, h2, h3, h4, h5⟩ := ins_own hin
  obtain ⟨hl30, hsk⟩ := slim_kids hsl
  obtain ⟨W, hW⟩ : ∃ W, w.alloc (.cells #[sV j.ty, .slice ap j.ps.length mp, sV j.enc, .bool j.att, .int .i64 (j.hd : Int), .int .i64 (j.fm : Int), .int .i64 (j.to : Int), .slice ak j.kids.length mk] 31) = W := ⟨_, rfl⟩
  have hbW : Below w.heap.size w W := by rw [← hW]; exact (Below.refl _ w).alloc (Nat.le_refl _) _
  have hA : Bx w.heap.size (sV j.ty) (.slice ap j.ps.length mp) (sV j.enc) (.bool j.att) (.int .i64 (j.hd : Int)) (.int .i64 (j.fm : Int)) (.int .i64 (j.to : Int)) (.slice ak j.kids.length mk) W := by rw [← hW]; exact Bx.made w _ _ _ _ _ _ _ _
  have hcells := Lib.hid (fun (w' : World) (hb : Below W.heap.size W w') (i : Nat) (hi : i < j.kids.length) => kid_cells (CellsAt.keep (hk1.keep (kept_below hbW)) (kept_below hb)) (KidsAt.keep (kept_below hb) (KidsAt.keep (kept_below hbW) hk2)) i hi)
  have HIH := Lib.hid (fun i (hi : i < j.kids.length) => And.intro (ih _ (List.getElem_mem hi)) (hsk _ (List.getElem_mem hi)))
  have H5 : Hid (insL.kidsI (j.kids.drop 0) j.fm j.to) := Lib.hid h5
  have HST := Lib.hid (fun (i lo : Nat) (hi : i < j.kids.length) (h : insL.kidsI (j.kids.drop i) lo j.to) => ins_step hi h)
  have HW := Lib.hid hW
  obtain ⟨G, hG⟩ : ∃ G, w.heap.size = G := ⟨_, rfl⟩
  rw [hG] at hA
  clear hsl hin hk1 hk2 hps hW hc ih hsk h5
  unfold sV at HW hA ⊢
  obtain ⟨nv, hnv⟩ : ∃ nv, j.kids.length = nv := ⟨_, rfl⟩
  obtain ⟨hh, hhh⟩ : ∃ x, j.hd = x := ⟨_, rfl⟩
  obtain ⟨ff, hff⟩ : ∃ x, j.fm = x := ⟨_, rfl⟩
  obtain ⟨tt, htt⟩ : ∃ x, j.to = x := ⟨_, rfl⟩
  rw [hff] at h2
  rw [hhh] at h1 h2
  rw [hff, htt] at h3
  rw [htt] at h4
  rw [hff, htt] at H5
  rw [htt] at HST
  rw [hhh, hff, htt, hnv] at hA HW ⊢
  have HNV := Lib.hid hnv
  have g1 : ¬ ((hh : Int) < (a : Int)) := by omega
  have g2 : ¬ ((ff : Int) < (hh : Int)) := by omega
  have g3 : ¬ ((tt : Int) < (ff : Int)) := by omega
  have g4 : ¬ ((b : Int) < (tt : Int)) := by omega
  have hk30 : (nv : Int) ≤ 30 := by omega
  clear hnv hhh hff htt hl30 h1 h2 h3 h4
  have p4 := hA.p4
  have p5 := hA.p5
  have p6 := hA.p6
  go_enter Tryd.func23, Tryd.ntmps23
  go_wp2_with fail
  rw [HW.out]
  (try rw [hG])
  go_loopg [7, 8] nv (fun m va v wr => ∃ i lo : Nat, m = nv - i ∧ va = .int .i64 lo ∧ v = .int .i64 i ∧ i ≤ nv ∧ Below W.heap.size W wr ∧ Hid (insL.kidsI (j.kids.drop i) lo tt))
  case atStart => exact ⟨0, ff, rfl, rfl, rfl, Nat.zero_le _, Below.refl _ _, H5⟩
  case round =>
    clear p4 p5 p6 H5
    obtain ⟨i, lo, rfl, rfl, rfl, hi, hb, HKI⟩ := hrel
    have hA1 := hA.same (hb.block G hA.lt)
    have p6 := hA1.p6
    have p7 := hA1.p7
    by_cases hlt : i < nv
    · have hlt' : i < j.kids.length := by rw [HNV.out]; exact hlt
      obtain ⟨g, o, x0, x1, x2, x3, x4, x5, x6, x7, rfl, hg, r0, r1, r2, r3, r4, r5, r6, r7, hx⟩ := hcells.out wr hb i hlt'
      have HIN := Lib.hid (HST.out i lo hlt' HKI.out)
      have hcall := (HIH.out i hlt').1 Q wr.drew lo tt x0 x1 x2 x3 x4 x5 x6 x7 (HIH.out i hlt').2 HIN.out.1 (PartAt.keep (kept_below ((Below.refl _ wr).drew)) hx)
      have hx6 : x6 = .int .i64 (j.kids[i].to : Int) := by
        obtain ⟨_, _, _, _, e, _⟩ := part_cells hx
        injection e with e; injection e with e; injection e with _ e; injection e with _ e; injection e with _ e; injection e with _ e; injection e with _ e; injection e with _ e; injection e with e _
      obtain ⟨tk, htk⟩ : ∃ tk, j.kids[i].to = tk := ⟨_, rfl⟩
      rw [htk] at hx6 HIN
      subst hx6
      have gi : (i : Int) < nv := by omega
      have HCK := Lib.hid (fun (w' : World) (hb' : Below wr.heap.size wr w') => (hb'.cell (p := ⟨g, o + i * 8 + 6, none⟩) hg).trans r6)
      have HA1 := Lib.hid hA1
      have hcall2 := hcall
      clear htk hx hA1
      go_wp2_with fail
      go_region_with (refine hcall2.mono ?_; rintro e7 w7 ⟨rfl, hb7⟩)
      all_goals
        have hb8 : Below wr.heap.size wr w7 := ((Below.refl _ wr).drew).trans hb7
        have s6 := HCK.out w7 hb8
        have s7 := (HA1.out.same (hb8.block G (Nat.lt_of_lt_of_le hA.lt hb.size))).p7
        clear r0 r1 r2 r3 r4 r5 r6 r7 p6 p7
        go_wp2_with fail
        go_roundg (nv - (i + 1))
        case measure => omega
        case rel => exact ⟨i + 1, tk, rfl, rfl, by go_num, by omega, hb.trans (hb8.mono hb.size), Lib.hid HIN.out.2⟩
    · have gi : decide ((i : Int) < (nv : Int)) = false := by rw [decide_eq_false_iff_not]; omega
      go_wp2_with fail
      go_ret
      exact ⟨rfl, hbW.trans (hb.mono hbW.size)⟩
theorem inside_any (j : P) : InsOk j := P.ind (fun j ih => ins_of j ih) j
end Go.Proofs.YtkgmiookeagfcaaDoor.Pt
