/-
  The program's read: the part of some octets, with all the parts in it, counted by the closure. Conditions: the text has at most 32768 bytes; the bound of the library's search is some number.
-/
import Derived.Test.YtnnbbjdidbggmaaGreatDoorPtPut8
import Derived.Test.YtnnbbjdidbggmaaGreatDoorPtFin
import Derived.Test.YtnnbbjdidbggmaaGreatDoorPtBuild
import Derived.Test.YtnnbbjdidbggmaaGreatDoorPtType
import Derived.Test.YtnnbbjdidbggmaaGreatDoorPtKids
import Derived.Test.YtnnbbjdidbggmaaGreatDoorF0Split
import Derived.Sort.CutIn
import Derived.Laws.EntriesVeiled
namespace Go.Proofs.YtnnbbjdidbggmaaGreatDoor.Pt
open Go Go.RowKit Go.Joins Go.Shelf Kit F0

attribute [local go_sem] Oper.semAt_some

/-- The contract of read, where d more may be in one another. -/
def ReadOk (s : ByteArray) (w0 : World) (d : Nat) : Prop := ∀ (a b n C : Nat) (w : World), a ≤ b → b ≤ s.size → n ≤ 30 → Boxed w C 3 (.int .i64 (n : Int)) → w0.heap.size ≤ C → C < w.heap.size → Below w0.heap.size w0 w →
  Calls Tryz.prog 52 #[.string s, .int .i64 (a : Int), .int .i64 (b : Int), .int .i64 (6 - (d : Int)), anoV C] w fun e w' =>
    ∃ c0 c1 c2 c3 c4 c5 c6 c7, e = .returned (.agg #[c0, c1, c2, c3, c4, c5, c6, c7]) ∧ PartAt (fun g => w.heap.size ≤ g) w' (readL s.data.toList d a b n).1 (.agg #[c0, c1, c2, c3, c4, c5, c6, c7]) ∧ Step C w w' ∧
      ∃ v : Nat, Boxed w' C 3 (.int .i64 (v : Int)) ∧ Cnt (readL s.data.toList d a b n).2 v d

def world4 (s : ByteArray) (i : Int) (C : Nat) (w : World) : World :=
  (((w.alloc (.cells #[.string s] 9)).alloc (.cells #[.int .i64 i] 3)).alloc (.cells #[.func (.func 51) #[] #[.pointer (some ⟨C, 0, none⟩)]] 22)).alloc (.cells #[.string ⟨#[]⟩, .slice none 0 0, .string ⟨#[]⟩, .bool false, .int .i64 0, .int .i64 0, .int .i64 0, .slice none 0 0] 42)
theorem world4_st (s : ByteArray) (i : Int) (C : Nat) (w : World) : Below w.heap.size w (world4 s i C w) ∧ (world4 s i C w).heap.size = w.heap.size + 4 ∧ Boxed (world4 s i C w) w.heap.size 9 (.string s) ∧ Boxed (world4 s i C w) (w.heap.size + 1) 3 (.int .i64 i) ∧ Boxed (world4 s i C w) (w.heap.size + 1 + 1) 22 (anoV C) ∧ Bx (w.heap.size + 1 + 1 + 1) zS zL zS zB zI zI zI zL (world4 s i C w) := by
  refine ⟨?_, by simp [world4], ?_, ?_, ?_, ?_⟩
  · exact ((((Below.refl _ w).alloc (Nat.le_refl _) _).alloc (by simp) _).alloc (by simp; omega) _).alloc (by simp; omega) _
  · exact (((box_at rfl _ _).alloc _).alloc _).alloc _
  · exact ((box_at (by simp) _ _).alloc _).alloc _
  · exact (box_at (by simp) _ _).alloc _
  · exact Bx.madeAt (by simp) _ _ _ _ _ _ _ _
theorem env_at {w0 w : World} (hE : Srch.Env w0) (h : Below w0.heap.size w0 w) : Srch.Env w := hE.next h

set_option maxHeartbeats 8000000 in
set_option maxRecDepth 100000 in
theorem read_in (s : ByteArray) (w0 : World) (hs : s.size ≤ 32768) (hE : Srch.Env w0) (d : Nat) (hd : d ≤ 6) (IH : ∀ d', d = d' + 1 → ReadOk s w0 d') : ReadOk s w0 d := by
  intro a b n C w hab hbs hn hC hC0 hCw hbw
  have hbl : b ≤ s.data.toList.length := by rw [← Lib.size_eq]; exact hbs
  have HE := Lib.hid (fun W (h : Below w0.heap.size w0 W) => env_at hE h)
  have HIH := Lib.hid IH
  have HCB := Lib.hid hC
  obtain ⟨RD, hRD⟩ : ∃ RD, readL s.data.toList d a b n = RD := ⟨_, rfl⟩
  rw [hRD]
  have HRD := Lib.hid hRD
  have HSP := Lib.hid (split_in (s := s.data.toList) hab hbl)
  have HSZ := Lib.hid (head_sizes (s := s.data.toList) (a := a) hbl)
  have HTZ := Lib.hid (type_sizes (s := s.data.toList) (a := a) hbl)
  have HHD : Hid (headL s.data.toList a b = splitL a b ((s.data.toList.take b).drop a)) := Lib.hid rfl
  have hsl : s.data.toList.length ≤ 32768 := by rw [← Lib.size_eq]; exact hs
  obtain ⟨HD, hHD⟩ : ∃ HD, headL s.data.toList a b = HD := ⟨_, rfl⟩
  rw [hHD] at HSP HSZ HTZ HHD
  have HH := Lib.hid hHD
  obtain ⟨fs, body⟩ := HD
  clear hE IH hC hRD hHD
  refine (callsIn_wide (n := 3)).1 ?_
  refine callsIn_of_wp_marks Tryz.func52 rfl trivial ?_ rfl
  simp only [Tryz.ntmps52, List.size_toArray, List.length_cons, List.length_nil, Nat.reduceAdd, Nat.reduceSub, Array.replicate_succ, Array.replicate_zero, List.push_toArray, List.append_toArray, List.nil_append, List.cons_append]
  unfold anoV
  gi_wp2_with fail
  obtain ⟨hb4, hz4, hbs4, hbi4, hba4, hbr4⟩ := world4_st s (6 - (d : Int)) C w
  have hw4 : (((w.alloc (.cells #[.string s] 9)).alloc (.cells #[.int .i64 (6 - (d : Int))] 3)).alloc (.cells #[.func (.func 51) #[] #[.pointer (some ⟨C, 0, none⟩)]] 22)).alloc (.cells #[.string ⟨#[]⟩, .slice none 0 0, .string ⟨#[]⟩, .bool false, .int .i64 0, .int .i64 0, .int .i64 0, .slice none 0 0] 42) = world4 s (6 - (d : Int)) C w := rfl
  rw [hw4]
  clear hw4
  obtain ⟨W4, hW4⟩ : ∃ W4, world4 s (6 - (d : Int)) C w = W4 := ⟨_, rfl⟩
  rw [hW4] at hb4 hz4 hbs4 hbi4 hba4 hbr4 ⊢
  clear hW4
  refine ⟨trivial, ?_⟩
  gi_at_call 37
  refine (callsIn_wide.2 (split_some s a b W4 hs hab hbs (HE.out W4 (hbw.trans (hb4.mono hbw.size))))).mono ?_
  rintro e w5 ⟨fv, rfl, hrow5, hb5⟩
  rw [← HHD.out] at hrow5 ⊢
  obtain ⟨fa, fc, rfl⟩ := hrow5.form
  have hb45 := hb4.trans (hb5.mono hb4.size)
  have hst6 : St s (6 - (d : Int)) C w.heap.size w5.heap.size w zS zL (.string ⟨#[55, 98, 105, 116]⟩) zB (.int .i64 (a : Int)) (.int .i64 (body : Int)) (.int .i64 (b : Int)) zL (w5.alloc (.cells #[zS, zL, .string ⟨#[55, 98, 105, 116]⟩, zB, .int .i64 (a : Int), .int .i64 (body : Int), .int .i64 (b : Int), zL] 42)) := by
    have k := hb5.size
    refine ⟨(hbs4.kept (grown_below hb5) (by simp)).alloc _, (hbi4.kept (grown_below hb5) (by simp)).alloc _, (hba4.kept (grown_below hb5) (by simp)).alloc _, (hbr4.below hb5).same ?_, Bx.made _ _ _ _ _ _ _ _ _, (Step.of_below hb45).alloc _, by omega, rfl, hCw⟩
    exact Below.heap_alloc _ _ _ (Nat.lt_of_lt_of_le hbr4.lt k)
  have H6 := Lib.hid (And.intro hst6 (show Below w5.heap.size w5 (w5.alloc (.cells #[zS, zL, .string ⟨#[55, 98, 105, 116]⟩, zB, .int .i64 (a : Int), .int .i64 (body : Int), .int .i64 (b : Int), zL] 42)) from (Below.refl _ w5).alloc (Nat.le_refl _) _))
  have HFA := Lib.hid hrow5.at
  have HWB : Hid (∀ W, Step C w W → Below w0.heap.size w0 W) := Lib.hid (fun W h => h.below hbw hC0 hbw.size)
  obtain ⟨G, hG⟩ : ∃ G, w5.heap.size = G := ⟨_, rfl⟩
  rw [hG] at H6
  have HG := Lib.hid hG
  have HFB : Hid (∀ W, Below G w5 W → FAt W (.slice fa fs.length fc) fs) := Lib.hid (fun W h => HFA.out.below (by rw [HG.out]; exact h))
  have hGw : w.heap.size ≤ G := by rw [← hG]; exact hb45.size
  have HB5 := Lib.hid hb45
  clear hst6 hrow5 hb5 hb45 hbs4 hbi4 hba4 hbr4 hb4 hz4 hG
  gi_wp2_with fail
  have hw6 : w5.alloc (.cells #[.string ⟨#[]⟩, .slice none 0 0, .string ⟨#[55, 98, 105, 116]⟩, .bool false, .int .i64 (a : Int), .int .i64 (body : Int), .int .i64 (b : Int), .slice none 0 0] 42) = w5.alloc (.cells #[zS, zL, .string ⟨#[55, 98, 105, 116]⟩, zB, .int .i64 (a : Int), .int .i64 (body : Int), .int .i64 (b : Int), zL] 42) := rfl
  rw [hw6]
  clear hw6
  obtain ⟨W6, hW6⟩ : ∃ W6, w5.alloc (.cells #[zS, zL, .string ⟨#[55, 98, 105, 116]⟩, zB, .int .i64 (a : Int), .int .i64 (body : Int), .int .i64 (b : Int), zL] 42) = W6 := ⟨_, rfl⟩
  rw [hW6] at H6 ⊢
  rw [HG.out]
  clear hW6
  refine ⟨trivial, ?_⟩
  gi_at_call 90
  have hsz : ∀ f ∈ fs, f.1.length ≤ 1073741824 ∧ f.2.length ≤ 1073741824 := fun f hf => by have := HSZ.out.1 f hf; omega
  have hcn : fs.length ≤ 1073741824 := by have := HSZ.out.2; omega
  refine (callsIn_wide.2 (typeOf_any (.slice fa fs.length fc) fs W6 (HFB.out W6 H6.out.2) hsz hcn (HE.out W6 (HWB.out W6 H6.out.1.st)))).mono ?_
  rintro e w7 ⟨pv, rfl, hpc, hb7⟩
  obtain ⟨TY, hTY⟩ : ∃ TY, typeL fs = TY := ⟨_, rfl⟩
  rw [hTY] at hpc ⊢
  simp only [hTY] at HTZ
  have HTY := Lib.hid hTY
  obtain ⟨ty, ps⟩ := TY
  obtain ⟨pa, pc, rfl⟩ := cells_form hpc
  have hlt6 := H6.out.1.bp.lt
  have H7 := Lib.hid (And.intro (H6.out.1.below hb7) (And.intro (H6.out.2.trans (hb7.mono (Nat.le_of_lt hlt6))) (show CellsAt (fun g => G < g) w7 ps.length (.slice pa ps.length pc) (fC ps) from hpc.keep (kept_mono (fun g hg => Nat.lt_of_lt_of_le hlt6 hg)))))
  clear hb7 hpc H6 hlt6
  have k0 := H7.out.1.bp.p0
  have k1 := H7.out.1.bp.p1
  have f0 := H7.out.1.bp.free 0
  have f1 := H7.out.1.bp.free 1
  unfold sV
  have H8 := Lib.hid (And.intro ((H7.out.1.setG 0 (.string ⟨ty.toArray⟩) (H7.out.1.bp.set0 _)).setG 1 (.slice pa ps.length pc) ((H7.out.1.bp.set0 _).set1 _)) (And.intro ((H7.out.2.1.setCell (p := ⟨G, 0, none⟩) (Nat.le_refl _) (.string ⟨ty.toArray⟩)).setCell (p := ⟨G, 1, none⟩) (Nat.le_refl _) (.slice pa ps.length pc))
    ((H7.out.2.2.keep (kept_set (g := G) (o := 0) (v := .string ⟨ty.toArray⟩) (Nat.lt_irrefl _))).keep (kept_set (g := G) (o := 1) (v := .slice pa ps.length pc) (Nat.lt_irrefl _)))))
  clear H7
  gi_wp2_with fail
  clear k0 k1 f0 f1
  obtain ⟨W8, hW8⟩ : ∃ W8, (w7.setCell ⟨G, 0, none⟩ (.string ⟨ty.toArray⟩)).setCell ⟨G, 1, none⟩ (.slice pa ps.length pc) = W8 := ⟨_, rfl⟩
  rw [hW8] at H8 ⊢
  clear hW8
  refine ⟨trivial, ?_⟩
  gi_at_call 38
  have HF8 : Hid (Calls Tryz.prog 38 #[.slice fa fs.length fc, .string ⟨#[67, 111, 110, 116, 101, 110, 116, 45, 84, 114, 97, 110, 115, 102, 101, 114, 45, 69, 110, 99, 111, 100, 105, 110, 103]⟩] W8 fun e w' => e = .returned (.tuple #[sV (fvL fs cencT), .bool (fstL fs cencT).isSome]) ∧ Below W8.heap.size W8 w') :=
    Lib.hid (first_call _ fs ⟨#[67, 111, 110, 116, 101, 110, 116, 45, 84, 114, 97, 110, 115, 102, 101, 114, 45, 69, 110, 99, 111, 100, 105, 110, 103]⟩ W8 (HFB.out W8 H8.out.2.1) hsz (by decide) hcn)
  refine (callsIn_wide.2 HF8.out).mono ?_
  clear HF8
  rintro e w9 ⟨rfl, hb9⟩
  have H9 := Lib.hid (And.intro (H8.out.1.below hb9) (And.intro (H8.out.2.1.trans (hb9.mono (Nat.le_of_lt H8.out.1.bp.lt))) (H8.out.2.2.keep (kept_below hb9))))
  clear hb9 H8
  have HEN : Hid (encL fs = if (fstL fs cencT).isSome then smallL (fvL fs cencT) else bit7) := Lib.hid (by unfold encL fvL; cases fstL fs cencT <;> rfl)
  have hvz := fv_len hsz cencT
  obtain ⟨ev, hev⟩ : ∃ ev, fvL fs cencT = ev := ⟨_, rfl⟩
  obtain ⟨eo, heo⟩ : ∃ eo, (fstL fs cencT).isSome = eo := ⟨_, rfl⟩
  rw [hev] at hvz
  rw [hev, heo] at HEN ⊢
  clear hev heo
  unfold sV
  gi_upto_if 47 with fail
  gi_cut [] from 47 (fun wx => St s (6 - (d : Int)) C w.heap.size G w (.string ⟨ty.toArray⟩) (.slice pa ps.length pc) (.string ⟨(encL fs).toArray⟩) zB (.int .i64 (a : Int)) (.int .i64 (body : Int)) (.int .i64 (b : Int)) zL wx ∧ Below G w5 wx ∧ CellsAt (fun g => G < g) wx ps.length (.slice pa ps.length pc) (fC ps))
  case first =>
    cases eo with
    | false =>
      gi_wp2_with fail
      gi_meet
      have he : encL fs = bit7 := HEN.out
      rw [he]
      exact H9.out
    | true =>
      have he : encL fs = smallL ev := HEN.out
      gi_wp2_with fail
      refine ⟨trivial, ?_⟩
      gi_at_call 91
      refine (callsIn_wide.2 (small_any ⟨ev.toArray⟩ w9 (by rw [Lib.size_mk]; omega))).mono ?_
      rintro e w10 ⟨rfl, hb10⟩
      have H10 := Lib.hid (And.intro (H9.out.1.below hb10) (And.intro (H9.out.2.1.trans (hb10.mono (Nat.le_of_lt H9.out.1.bp.lt))) (H9.out.2.2.keep (kept_below hb10))))
      have k2 := H10.out.1.bp.p2
      have f2 := H10.out.1.bp.free 2
      rw [show (ByteArray.mk ev.toArray).data.toList = ev from rfl]
      unfold sV
      clear hb10 H9
      gi_wp2_with fail
      gi_meet
      rw [he]
      exact ⟨H10.out.1.setG 2 _ (H10.out.1.bp.set2 _), H10.out.2.1.setCell (p := ⟨G, 2, none⟩) (Nat.le_refl _) _, H10.out.2.2.keep (kept_set (g := G) (o := 2) (Nat.lt_irrefl _))⟩
  case rest =>
  clear H9 HEN hvz
  have H11 := Lib.hid hcut
  clear hcut
  obtain ⟨EN, hEN⟩ : ∃ EN, encL fs = EN := ⟨_, rfl⟩
  rw [hEN] at H11
  have HEN := Lib.hid hEN
  clear hEN
  gi_wp2_with fail
  refine ⟨trivial, ?_⟩
  gi_at_call 38
  have HF11 : Hid (Calls Tryz.prog 38 #[.slice fa fs.length fc, .string ⟨#[67, 111, 110, 116, 101, 110, 116, 45, 68, 105, 115, 112, 111, 115, 105, 116, 105, 111, 110]⟩] wc fun e w' => e = .returned (.tuple #[sV (fvL fs cdispT), .bool (fstL fs cdispT).isSome]) ∧ Below wc.heap.size wc w') :=
    Lib.hid (first_call _ fs ⟨#[67, 111, 110, 116, 101, 110, 116, 45, 68, 105, 115, 112, 111, 115, 105, 116, 105, 111, 110]⟩ wc (HFB.out wc H11.out.2.1) hsz (by decide) hcn)
  refine (callsIn_wide.2 HF11.out).mono ?_
  clear HF11
  rintro e w12 ⟨rfl, hb12⟩
  have H12 := Lib.hid (And.intro (H11.out.1.below hb12) (And.intro (H11.out.2.1.trans (hb12.mono (Nat.le_of_lt H11.out.1.bp.lt))) (H11.out.2.2.keep (kept_below hb12))))
  clear hb12 H11
  have HAT : Hid (attL fs = ((valuesL (fvL fs cdispT)).1 == attachT)) := Lib.hid rfl
  have hvz := fv_len hsz cdispT
  obtain ⟨dv, hdv⟩ : ∃ dv, fvL fs cdispT = dv := ⟨_, rfl⟩
  obtain ⟨dk, hdk⟩ : ∃ dk, (fstL fs cdispT).isSome = dk := ⟨_, rfl⟩
  rw [hdv] at hvz HAT
  rw [hdv, hdk]
  clear hdv hdk
  unfold sV
  gi_wp2_with fail
  refine ⟨trivial, ?_⟩
  gi_at_call 92
  refine (callsIn_wide.2 (values_any ⟨dv.toArray⟩ w12 (by rw [Lib.size_mk]; exact hvz) (HE.out w12 (HWB.out w12 H12.out.1.st)))).mono ?_
  rintro e w13 ⟨dpv, rfl, hdrow, hb13⟩
  rw [show (ByteArray.mk dv.toArray).data.toList = dv from rfl] at hdrow ⊢
  obtain ⟨da, dc, rfl⟩ := hdrow.form
  obtain ⟨dl, hdl⟩ : ∃ dl, (valuesL dv).2 = dl := ⟨_, rfl⟩
  rw [hdl] at hdrow ⊢
  obtain ⟨WD, hWD⟩ : ∃ WD, (valuesL dv).1 = WD := ⟨_, rfl⟩
  rw [hWD] at HAT
  rw [hWD]
  have H13 := Lib.hid (And.intro (H12.out.1.below hb13) (And.intro (H12.out.2.1.trans (hb13.mono (Nat.le_of_lt H12.out.1.bp.lt))) (H12.out.2.2.keep (kept_below hb13))))
  clear hb13 H12 hdrow hdl hWD hvz
  obtain ⟨ab, hq⟩ : ∃ ab, (WD == [97, 116, 116, 97, 99, 104, 109, 101, 110, 116]) = ab := ⟨_, rfl⟩
  have HAB : Hid (attL fs = ab) := Lib.hid (by rw [HAT.out, ← hq]; rfl)
  clear HAT
  unfold sV
  have k3 := H13.out.1.bp.p3
  have f3 := H13.out.1.bp.free 3
  have H14 := Lib.hid (And.intro (H13.out.1.setG 3 (.bool ab) (H13.out.1.bp.set3 _)) (And.intro (H13.out.2.1.setCell (p := ⟨G, 3, none⟩) (Nat.le_refl _) (.bool ab)) (H13.out.2.2.keep (kept_set (g := G) (o := 3) (v := .bool ab) (Nat.lt_irrefl _)))))
  obtain ⟨W14, hW14⟩ : ∃ W14, w13.setCell ⟨G, 3, none⟩ (.bool ab) = W14 := ⟨_, rfl⟩
  rw [hW14] at H14
  clear H13
  gi_upto_region 10 with fail
  clear hW14 k3 f3 hq
  have HBC : Hid (Boxed W14 C 3 (.int .i64 (n : Int))) := Lib.hid (HCB.out.kept (grown_below (HB5.out.trans (H14.out.2.1.mono hGw))) (by simp))
  by_cases hd0 : d = 0
  · have g1 : ((6 - (d : Int)) == 6) = true := by simp [hd0]
    have HL : Hid (RD = (partL s.data.toList a b [], n)) := Lib.hid (by rw [← HRD.out, hd0, readL])
    clear hd0
    have ki := H14.out.1.bi.cell
    have p0 := H14.out.1.bp.p0
    have p1 := H14.out.1.bp.p1
    have p2 := H14.out.1.bp.p2
    have p3 := H14.out.1.bp.p3
    have p4 := H14.out.1.bp.p4
    have p5 := H14.out.1.bp.p5
    have p6 := H14.out.1.bp.p6
    have p7 := H14.out.1.bp.p7
    have q0 := H14.out.1.br.p0
    have q1 := H14.out.1.br.p1
    have q2 := H14.out.1.br.p2
    have q3 := H14.out.1.br.p3
    have q4 := H14.out.1.br.p4
    have q5 := H14.out.1.br.p5
    have q6 := H14.out.1.br.p6
    have q7 := H14.out.1.br.p7
    have e0 := H14.out.1.br.free 0
    have e1 := H14.out.1.br.free 1
    have e2 := H14.out.1.br.free 2
    have e3 := H14.out.1.br.free 3
    have e4 := H14.out.1.br.free 4
    have e5 := H14.out.1.br.free 5
    have e6 := H14.out.1.br.free 6
    have e7 := H14.out.1.br.free 7
    unfold zL at p7
    have HFIN := Lib.hid (And.intro H14.out.1.fin (H14.out.2.2.keep (finW_kept (Q' := fun g => w.heap.size ≤ g) W14 (w.heap.size + 1 + 1 + 1) (.string ⟨ty.toArray⟩) (.slice pa ps.length pc) (.string ⟨EN.toArray⟩) (.bool ab) (.int .i64 (a : Int)) (.int .i64 (body : Int)) (.int .i64 (b : Int)) (.slice none 0 0) (fun g hg => ⟨by have := H14.out.1.hG; omega, by omega⟩))))
    clear H14
    gi_wp2_with fail
    refine ⟨trivial, ?_⟩
    gi_wp2_with fail
    refine ⟨.agg #[.string ⟨ty.toArray⟩, .slice pa ps.length pc, .string ⟨EN.toArray⟩, .bool ab, .int .i64 (a : Int), .int .i64 (body : Int), .int .i64 (b : Int), .slice none 0 0], part_result rfl _ rfl HFIN.out.1.1, ?_⟩
    refine ⟨_, _, _, _, _, _, _, _, rfl, ?_, HFIN.out.1.2, n, ?_, ?_⟩
    · rw [HL.out]
      show PartAt _ _ (partL s.data.toList a b []) _
      unfold partL
      rw [HH.out, HTY.out, HEN.out, HAB.out]
      exact part_at HFIN.out.2 ⟨[], Or.inl ⟨⟨none, 0, rfl⟩, rfl, rfl⟩, kids_nil⟩
    · exact (finW_other W14 _ _ _ _ _ _ _ _ _ C (by omega)).trans HBC.out
    · rw [HL.out]
      exact ⟨hn, Or.inl rfl⟩
  · obtain ⟨d', hd'⟩ : ∃ d', d = d' + 1 := ⟨d - 1, by omega⟩
    have g1 : ((6 - (d : Int)) == 6) = false := by rw [beq_eq_false_iff_ne]; omega
    have HLEAF : Hid (markL ty ps = none → RD = (partL s.data.toList a b [], n)) := Lib.hid (fun h => by
      have hh : hasL s.data.toList a b = none := by unfold hasL; rw [HH.out, HTY.out]; exact h
      rw [← HRD.out, hd', readL, hh])
    have HD' := Lib.hid hd'
    clear hd'
    have ki := H14.out.1.bi.cell
    have kt := H14.out.1.bp.p0
    cases hpx : Lib.hasPrefix ty multiT
    · have HL := Lib.hid (HLEAF.out (by unfold markL; rw [hpx]; rfl))
      have HPX : Hid (Lib.hasPrefix ty [109, 117, 108, 116, 105, 112, 97, 114, 116, 47] = false) := Lib.hid hpx
      clear hpx hd0 HLEAF
      gi_wp2_with fail
      refine ⟨trivial, ?_⟩
      gi_at_call 93
      refine (callsIn_wide.2 (Tryz.strings_HasPrefix ⟨ty.toArray⟩ ⟨#[109, 117, 108, 116, 105, 112, 97, 114, 116, 47]⟩ W14)).mono ?_
      rintro e w15 ⟨rfl, hw15⟩
      rw [hw15, show (ByteArray.mk ty.toArray).data.toList = ty from rfl, show (ByteArray.mk #[109, 117, 108, 116, 105, 112, 97, 114, 116, 47]).data.toList = [109, 117, 108, 116, 105, 112, 97, 114, 116, 47] from rfl, HPX.out]
      clear hw15 ki kt
      have p0 := H14.out.1.bp.p0
      have p1 := H14.out.1.bp.p1
      have p2 := H14.out.1.bp.p2
      have p3 := H14.out.1.bp.p3
      have p4 := H14.out.1.bp.p4
      have p5 := H14.out.1.bp.p5
      have p6 := H14.out.1.bp.p6
      have p7 := H14.out.1.bp.p7
      have q0 := H14.out.1.br.p0
      have q1 := H14.out.1.br.p1
      have q2 := H14.out.1.br.p2
      have q3 := H14.out.1.br.p3
      have q4 := H14.out.1.br.p4
      have q5 := H14.out.1.br.p5
      have q6 := H14.out.1.br.p6
      have q7 := H14.out.1.br.p7
      have e0 := H14.out.1.br.free 0
      have e1 := H14.out.1.br.free 1
      have e2 := H14.out.1.br.free 2
      have e3 := H14.out.1.br.free 3
      have e4 := H14.out.1.br.free 4
      have e5 := H14.out.1.br.free 5
      have e6 := H14.out.1.br.free 6
      have e7 := H14.out.1.br.free 7
      unfold zL at p7
      have HFIN := Lib.hid (And.intro H14.out.1.fin (H14.out.2.2.keep (finW_kept (Q' := fun g => w.heap.size ≤ g) W14 (w.heap.size + 1 + 1 + 1) (.string ⟨ty.toArray⟩) (.slice pa ps.length pc) (.string ⟨EN.toArray⟩) (.bool ab) (.int .i64 (a : Int)) (.int .i64 (body : Int)) (.int .i64 (b : Int)) (.slice none 0 0) (fun g hg => ⟨by have := H14.out.1.hG; omega, by omega⟩))))
      clear H14
      gi_wp2_with fail
      refine ⟨.agg #[.string ⟨ty.toArray⟩, .slice pa ps.length pc, .string ⟨EN.toArray⟩, .bool ab, .int .i64 (a : Int), .int .i64 (body : Int), .int .i64 (b : Int), .slice none 0 0], part_result rfl _ rfl HFIN.out.1.1, ?_⟩
      refine ⟨_, _, _, _, _, _, _, _, rfl, ?_, HFIN.out.1.2, n, ?_, ?_⟩
      · rw [HL.out]
        show PartAt _ _ (partL s.data.toList a b []) _
        unfold partL
        rw [HH.out, HTY.out, HEN.out, HAB.out]
        exact part_at HFIN.out.2 ⟨[], Or.inl ⟨⟨none, 0, rfl⟩, rfl, rfl⟩, kids_nil⟩
      · exact (finW_other W14 _ _ _ _ _ _ _ _ _ C (by omega)).trans HBC.out
      · rw [HL.out]
        exact ⟨hn, Or.inl rfl⟩
    · have HPX : Hid (Lib.hasPrefix ty [109, 117, 108, 116, 105, 112, 97, 114, 116, 47] = true) := Lib.hid hpx
      have HMK : Hid (markL ty ps = if (fvL ps boundT).isEmpty then none else some (fvL ps boundT)) := Lib.hid (by
        unfold markL fvL
        rw [hpx]
        cases fstL ps boundT with
        | none => rfl
        | some f => rfl)
      clear hpx hd0
      have kp := H14.out.1.bp.p1
      gi_wp2_with fail
      refine ⟨trivial, ?_⟩
      gi_at_call 93
      refine (callsIn_wide.2 (Tryz.strings_HasPrefix ⟨ty.toArray⟩ ⟨#[109, 117, 108, 116, 105, 112, 97, 114, 116, 47]⟩ W14)).mono ?_
      rintro e w15 ⟨rfl, hw15⟩
      rw [hw15, show (ByteArray.mk ty.toArray).data.toList = ty from rfl, show (ByteArray.mk #[109, 117, 108, 116, 105, 112, 97, 114, 116, 47]).data.toList = [109, 117, 108, 116, 105, 112, 97, 114, 116, 47] from rfl, HPX.out]
      clear hw15
      gi_wp2_with fail
      refine ⟨trivial, ?_⟩
      gi_at_call 38
      have hpz : ∀ f ∈ ps, f.1.length ≤ 1073741824 ∧ f.2.length ≤ 1073741824 := fun f hf => by have := HTZ.out.2.2 f hf; omega
      have hpn : ps.length ≤ 1073741824 := by have := HTZ.out.2.1; omega
      have HF15 : Hid (Calls Tryz.prog 38 #[.slice pa ps.length pc, .string ⟨#[98, 111, 117, 110, 100, 97, 114, 121]⟩] W14 fun e w' => e = .returned (.tuple #[sV (fvL ps boundT), .bool (fstL ps boundT).isSome]) ∧ Below W14.heap.size W14 w') :=
        Lib.hid (first_call _ ps ⟨#[98, 111, 117, 110, 100, 97, 114, 121]⟩ W14 (cells_fields H14.out.2.2) hpz (by decide) hpn)
      refine (callsIn_wide.2 HF15.out).mono ?_
      clear HF15
      rintro e w16 ⟨rfl, hb16⟩
      have H16 := Lib.hid (And.intro (H14.out.1.below hb16) (And.intro (H14.out.2.1.trans (hb16.mono (Nat.le_of_lt H14.out.1.bp.lt))) (H14.out.2.2.keep (kept_below hb16))))
      have HBC2 : Hid (Boxed w16 C 3 (.int .i64 (n : Int))) := Lib.hid (HBC.out.kept (grown_below hb16) (by simp))
      have hbz := fv_len hpz boundT
      have hbz2 : (fvL ps boundT).length ≤ s.data.toList.length := fv_len HTZ.out.2.2 boundT
      obtain ⟨bd, hbd⟩ : ∃ bd, fvL ps boundT = bd := ⟨_, rfl⟩
      obtain ⟨bk, hbk⟩ : ∃ bk, (fstL ps boundT).isSome = bk := ⟨_, rfl⟩
      rw [hbd] at hbz hbz2 HMK
      rw [hbd, hbk]
      clear hbd hbk HBC hb16 H14 ki kt kp
      have HBC := HBC2
      clear HBC2
      unfold sV
      cases bd with
      | nil =>
        have HL := Lib.hid (HLEAF.out (by rw [HMK.out]; rfl))
        have p0 := H16.out.1.bp.p0
        have p1 := H16.out.1.bp.p1
        have p2 := H16.out.1.bp.p2
        have p3 := H16.out.1.bp.p3
        have p4 := H16.out.1.bp.p4
        have p5 := H16.out.1.bp.p5
        have p6 := H16.out.1.bp.p6
        have p7 := H16.out.1.bp.p7
        have q0 := H16.out.1.br.p0
        have q1 := H16.out.1.br.p1
        have q2 := H16.out.1.br.p2
        have q3 := H16.out.1.br.p3
        have q4 := H16.out.1.br.p4
        have q5 := H16.out.1.br.p5
        have q6 := H16.out.1.br.p6
        have q7 := H16.out.1.br.p7
        have e0 := H16.out.1.br.free 0
        have e1 := H16.out.1.br.free 1
        have e2 := H16.out.1.br.free 2
        have e3 := H16.out.1.br.free 3
        have e4 := H16.out.1.br.free 4
        have e5 := H16.out.1.br.free 5
        have e6 := H16.out.1.br.free 6
        have e7 := H16.out.1.br.free 7
        unfold zL at p7
        have HFIN := Lib.hid (And.intro H16.out.1.fin (H16.out.2.2.keep (finW_kept (Q' := fun g => w.heap.size ≤ g) w16 (w.heap.size + 1 + 1 + 1) (.string ⟨ty.toArray⟩) (.slice pa ps.length pc) (.string ⟨EN.toArray⟩) (.bool ab) (.int .i64 (a : Int)) (.int .i64 (body : Int)) (.int .i64 (b : Int)) (.slice none 0 0) (fun g hg => ⟨by have := H16.out.1.hG; omega, by omega⟩))))
        clear H16
        gi_wp2_with fail
        refine ⟨.agg #[.string ⟨ty.toArray⟩, .slice pa ps.length pc, .string ⟨EN.toArray⟩, .bool ab, .int .i64 (a : Int), .int .i64 (body : Int), .int .i64 (b : Int), .slice none 0 0], part_result rfl _ rfl HFIN.out.1.1, ?_⟩
        refine ⟨_, _, _, _, _, _, _, _, rfl, ?_, HFIN.out.1.2, n, ?_, ?_⟩
        · rw [HL.out]
          show PartAt _ _ (partL s.data.toList a b []) _
          unfold partL
          rw [HH.out, HTY.out, HEN.out, HAB.out]
          exact part_at HFIN.out.2 ⟨[], Or.inl ⟨⟨none, 0, rfl⟩, rfl, rfl⟩, kids_nil⟩
        · exact (finW_other w16 _ _ _ _ _ _ _ _ _ C (by omega)).trans HBC.out
        · rw [HL.out]
          exact ⟨hn, Or.inl rfl⟩
      | cons bc br =>
        have HMK1 : Hid (markL ty ps = some (bc :: br)) := Lib.hid (by rw [HMK.out]; rfl)
        have ks := H16.out.1.bs.cell
        clear HMK HLEAF
        gi_upto_region 15 with fail
        obtain ⟨bd, hbd⟩ : ∃ bd, bc :: br = bd := ⟨_, rfl⟩
        have HMK2 : Hid (markL ty ps = some bd) := Lib.hid (by rw [← hbd]; exact HMK1.out)
        rw [hbd] at hbz hbz2 ⊢
        clear HMK1 hbd
        gi_wp2_with fail
        refine ⟨trivial, ?_⟩
        gi_at_call 94
        refine (callsIn_wide.2 (kids_any s ⟨bd.toArray⟩ body b w16 (by rw [Lib.size_mk]; exact hbz))).mono ?_
        rintro e w17 ⟨rfl, hbox, hb17, hz17⟩
        rw [show (ByteArray.mk bd.toArray).data.toList = bd from rfl] at hbox
        have H17 := Lib.hid (H16.out.1.below hb17)
        have HC17 : Hid (CellsAt (fun g => G < g ∧ g < w17.heap.size) w17 ps.length (.slice pa ps.length pc) (fC ps)) := Lib.hid (H16.out.2.2.keep (kept_block fun g _ _ _ hg hb => ⟨⟨hg, Nat.lt_of_lt_of_le (Array.getElem?_eq_some_iff.1 hb).1 hb17.size⟩, hb17.block g (Array.getElem?_eq_some_iff.1 hb).1⟩))
        have HBX := Lib.hid hbox
        have HBC17 : Hid (Boxed w17 C 3 (.int .i64 (n : Int))) := Lib.hid (HBC.out.kept (grown_below hb17) (by simp))
        have hGK := H16.out.1.bp.lt
        obtain ⟨K0, hK0⟩ : ∃ K0, w16.heap.size = K0 := ⟨_, rfl⟩
        rw [hK0] at hz17 HBX hGK ⊢
        have HZ := Lib.hid hz17
        clear hbox hb17 H16 HBC hK0 ks hz17
        gi_wp2_with fail
        have hbody : body ≤ b := HSP.out.2
        have H17C := H17.out
        refine wpIn_rangeFunc_ownG rfl (by omega) (gf := 130) (lb := #[.pointer (some ⟨K0 + 1, 0, none⟩), .pointer (some ⟨K0 + 1 + 1, 0, none⟩), .pointer (some ⟨K0, 0, none⟩), .pointer (some ⟨K0 + 1 + 1 + 1, 0, none⟩), .pointer (some ⟨K0 + 1 + 1 + 1 + 1, 0, none⟩)]) rfl trivial (enters_of Tryz.func130 (by kernel_rfl) rfl)
          (kids_stops 2 (by omega) (K0 + 1) (K0 + 1 + 1) K0 (K0 + 1 + 1 + 1) (K0 + 1 + 1 + 1 + 1) body b s bd hs hbody hbs w17 HBX.out) (fun h k x => k (h x))
          (fun W l o o' hl h hc hw hx => ?kb) (Below.refl _ _) (fun _ => rfl)
          (fun pre W => Iv s (6 - (d : Int)) C w.heap.size G K0 w17.heap.size w (.string ⟨ty.toArray⟩) (.slice pa ps.length pc) (.string ⟨EN.toArray⟩) (.bool ab) (.int .i64 (a : Int)) (.int .i64 (body : Int)) (.int .i64 (b : Int)) ps bd body b d' n (readL s.data.toList d') (pre.map (·.1)) W)
          (fun c pre W => c = .exit 0 ∧ Ix s (6 - (d : Int)) C w.heap.size G K0 w17.heap.size w (.string ⟨ty.toArray⟩) (.slice pa ps.length pc) (.string ⟨EN.toArray⟩) (.bool ab) (.int .i64 (a : Int)) (.int .i64 (body : Int)) (.int .i64 (b : Int)) ps bd body b d n (readL s.data.toList d') (pre.map (·.1)) W)
          ?hI ?hIx ?h0 ?a1 ?assign ?body ?done ?stop
        case kb => exact hx.cells (own_cells (B := 0) (grownBy_putObj' W l o') (fun r e => by cases e; exact ⟨Nat.zero_le _, o, h, hc⟩))
        case hI =>
          intro pre X Y row hs' hg hr
          obtain ⟨ks, m, v, kv, h1, h2, h3, h4⟩ := hs'
          exact ⟨ks, m, v, kv, h1, h2, h3, h4.own (by have := HZ.out; omega) hg hr⟩
        case hIx =>
          intro c pre X Y row hs' hg hr
          obtain ⟨hcx, ks, m, v, kv, h1, h2, h4⟩ := hs'
          exact ⟨hcx, ks, m, v, kv, h1, h2, h4.own (by have := HZ.out; omega) hg hr⟩
        case h0 => exact ⟨[], n, n, zL, Fd.start _ _, ⟨hn, Or.inl rfl⟩, by simp, H17C, kids_empty _ _, HC17.out, HBX.out, HBC17.out, hGK, HZ.out, Nat.le_refl _⟩
        case assign =>
          intro l x W K hK
          dsimp only [encK]
          gi_wp2
          exact hK
        case body =>
          rintro l pre ⟨⟨kf, ke⟩, hke1, hke2⟩ W ⟨ks, m, v, kv, hfd, hcnt, hksm, hms⟩ hlt
          obtain ⟨ka, kc, rfl⟩ := hms.kids.form
          have HMS := Lib.hid hms
          have HFD := Lib.hid hfd
          have HCN := Lib.hid hcnt
          have hd5 : d' ≤ 5 := by have := HD'.out; omega
          have hv1 : v ≤ 1000 := by obtain ⟨h0, h | ⟨_, _, h⟩⟩ := hcnt <;> omega
          have ca := hms.st.ba.cell
          unfold anoV at ca
          clear hms hfd hcnt
          gi_wp2_with fail
          refine ⟨trivial, ?_⟩
          refine (CallsIn.inRound l (callsIn_wide.2 (another_any C v W HMS.out.cnt hv1))).mono ?_
          rintro e W1 ⟨rfl, hs1, hc1⟩
          have HM1 := Lib.hid (HMS.out.count hs1 hc1)
          have HK1 := Lib.hid (And.intro hs1 (hs1.keeps (B := w17.heap.size) (by have := HMS.out.st.hC; have := HZ.out; omega)))
          clear hs1 hc1 ca
          by_cases h30 : v + 1 ≤ 30
          · have hvm : v = m := by obtain ⟨h0, h | ⟨_, h, _⟩⟩ := HCN.out <;> omega
            subst hvm
            rw [decide_eq_true h30]
            have hm30 : v < 30 := by omega
            gi_upto_region 19 with fail
            have hwr : IntKind.i64.wrap (6 - (d : Int) + 1) = 6 - (d : Int) + 1 := by rw [IntKind.wrap_i64]; omega
            have HVAL : Hid (∀ (W2 : World), Step C w W2 → Boxed W2 C 3 (.int .i64 ((v + 1 : Nat) : Int)) → w.heap.size ≤ W2.heap.size → Calls Tryz.prog 52 #[.string s, .int .i64 (kf : Int), .int .i64 (ke : Int), .int .i64 (6 - (d : Int) + 1), .func (.func 51) #[] #[.pointer (some ⟨C, 0, none⟩)]] W2 fun e w' =>
              ∃ d0 d1 d2 d3 d4 d5 d6 d7, e = .returned (.agg #[d0, d1, d2, d3, d4, d5, d6, d7]) ∧ PartAt (fun g => W2.heap.size ≤ g) w' (readL s.data.toList d' kf ke (v + 1)).1 (.agg #[d0, d1, d2, d3, d4, d5, d6, d7]) ∧ Step C W2 w' ∧
                ∃ v2 : Nat, Boxed w' C 3 (.int .i64 (v2 : Int)) ∧ Cnt (readL s.data.toList d' kf ke (v + 1)).2 v2 d') := Lib.hid (fun W2 h1 h2 h3 => by
              have h4 := HIH.out d' HD'.out kf ke (v + 1) C W2 hke1 (Nat.le_trans hke2 hbs) h30 h2 hC0 (by omega) (HWB.out W2 h1)
              rw [show (6 - (d' : Int)) = 6 - (d : Int) + 1 by have := HD'.out; omega] at h4
              exact h4)
            have HMD : Hid (Ms s (6 - (d : Int)) C w.heap.size G K0 w17.heap.size w (.string ⟨ty.toArray⟩) (.slice pa ps.length pc) (.string ⟨EN.toArray⟩) (.bool ab) (.int .i64 (a : Int)) (.int .i64 (body : Int)) (.int .i64 (b : Int)) (.slice ka ks.length kc) ps bd body b ks (v + 1) (W1.drew)) := Lib.hid (HM1.out.count ((Step.refl C W1).drew) HM1.out.cnt)
            have HMA : Hid (Ms s (6 - (d : Int)) C w.heap.size G K0 w17.heap.size w (.string ⟨ty.toArray⟩) (.slice pa ps.length pc) (.string ⟨EN.toArray⟩) (.bool ab) (.int .i64 (a : Int)) (.int .i64 (body : Int)) (.int .i64 (b : Int)) (.slice ka ks.length kc) ps bd body b ks (v + 1) (W1.drew.alloc (.cells #[.string ⟨#[]⟩, .slice none 0 0, .string ⟨#[]⟩, .bool false, .int .i64 0, .int .i64 0, .int .i64 0, .slice none 0 0] 42))) := Lib.hid (HM1.out.count (((Step.refl C W1).drew).alloc _) (Boxed.alloc (W := W1.drew) HM1.out.cnt _))
            have HROW : Hid (∀ r, (Value.slice ka ks.length kc).ownBlock = some r → r < W1.heap.size) := Lib.hid (fun r e => (Array.getElem?_eq_some_iff.1 (HM1.out.kids.block e).2.choose_spec).1)
            have HRC : Hid (v + 1 ≤ (readL s.data.toList d' kf ke (v + 1)).2) := Lib.hid (read_count s.data.toList d' kf ke (v + 1) (by omega)).1
            obtain ⟨RK, hRK⟩ : ∃ RK, readL s.data.toList d' kf ke (v + 1) = RK := ⟨_, rfl⟩
            have HNX : Hid (Fd (readL s.data.toList d') n ((pre ++ [(⟨(kf, ke), hke1, hke2⟩ : Kd b)]).map (·.1)) (ks ++ [RK.1]) RK.2) := Lib.hid (by rw [← hRK, List.map_append]; exact HFD.out.next (kf, ke) hm30)
            rw [hRK] at HVAL HRC
            clear hRK
            have hix0 : (0 : Int) ≤ (ks.length : Int) := by omega
            have hix1 : (ks.length : Int) < (ks.length : Int) + 1 := by omega
            have hkl : ks.length ≤ 65536 := by omega
            have HSZ1 : Hid (w.heap.size ≤ W1.heap.size ∧ w17.heap.size ≤ W1.heap.size) := Lib.hid (by have := HM1.out.size; have := HZ.out; omega)
            have HCW : Hid (C < W1.heap.size) := Lib.hid (by have := HM1.out.size; have := HZ.out; omega)
            refine region_round_held (by kernel_rfl) (by kernel_rfl) (fun ⟨_, _, h⟩ => h) (S := fun W' => W'.cell? ⟨w.heap.size, 0, none⟩ = some (.string s) ∧ W'.cell? ⟨w.heap.size + 1, 0, none⟩ = some (.int .i64 (6 - (d : Int))) ∧ W'.cell? ⟨w.heap.size + 1 + 1, 0, none⟩ = some (.func (.func 51) #[] #[.pointer (some ⟨C, 0, none⟩)])) ⟨HM1.out.st.bs.cell, HM1.out.st.bi.cell, HM1.out.st.ba.cell⟩ (fun hHeld => ?_)
            refine wpAnyH_take (i := 0) (v := ?_) rfl (by kernel_rfl) (by kernel_rfl) (by kernel_rfl) (fun _ _ _ h => h) (Or.inl ⟨by rfl, ?_⟩) (by assumption) ?_
            rotate_left 1
            · (intro w hSw; (try dsimp only at hSw); go_simp) <;> with_reducible rfl
            refine wpAnyH_take (i := 2) (v := ?_) rfl (by kernel_rfl) (by kernel_rfl) (by kernel_rfl) (fun _ _ _ h => h) (Or.inl ⟨by rfl, ?_⟩) (by assumption) ?_
            rotate_left 1
            · (intro w hSw; (try dsimp only at hSw); go_simp) <;> with_reducible rfl
            refine wpAnyH_take (i := 3) (v := ?_) rfl (by kernel_rfl) (by kernel_rfl) (by kernel_rfl) (fun _ _ _ h => h) (Or.inl ⟨by rfl, ?_⟩) (by assumption) ?_
            rotate_left 1
            · (intro w hSw; (try dsimp only at hSw); go_simp) <;> with_reducible rfl
            refine wpAnyH_take (i := 4) (v := ?_) rfl (by kernel_rfl) (by kernel_rfl) (by kernel_rfl) (fun _ _ _ h => h) (Or.inl ⟨by rfl, ?_⟩) (by assumption) ?_
            rotate_left 1
            · (intro w hSw; (try dsimp only at hSw); go_simp) <;> with_reducible rfl
            refine wpAnyH_take (i := 5) (v := ?_) rfl (by kernel_rfl) (by kernel_rfl) (by kernel_rfl) (fun _ _ _ h => h) (Or.inl ⟨by rfl, ?_⟩) (by assumption) ?_
            rotate_left 1
            · (intro w hSw; (try dsimp only at hSw); go_simp) <;> with_reducible rfl
            refine wpAnyH_take (i := 6) (v := ?_) rfl (by kernel_rfl) (by kernel_rfl) (by kernel_rfl) (fun _ _ _ h => h) (Or.inl ⟨by rfl, ?_⟩) (by assumption) ?_
            rotate_left 1
            · (intro w hSw; (try dsimp only at hSw); go_simp) <;> with_reducible rfl
            refine wpAnyH_take (i := 7) (v := ?_) rfl (by kernel_rfl) (by kernel_rfl) (by kernel_rfl) (fun _ _ _ h => h) (Or.inl ⟨by rfl, ?_⟩) (by assumption) ?_
            rotate_left 1
            · (intro w hSw; (try dsimp only at hSw); go_simp) <;> with_reducible rfl
            refine wpAnyH_ready (rs := [1, 8, 10]) (by kernel_rfl) (by simp) ?_
            refine AllReadyH.cons rfl (fun K hK => ?_) (AllReadyH.cons rfl (fun K hK => ?_) (AllReadyH.cons rfl (fun K hK => ?_) AllReadyH.nil))
            · have l7 : (W1.drew).cell? ⟨G, 7, none⟩ = some (.slice ka ks.length kc) := HMD.out.st.bp.p7
              go_simp
              refine hK.out _ _ hHeld (fun hHeld => ?_)
              clear hK K
              clear l7
              refine wpAnyH_take (i := 9) (v := ?_) rfl (by kernel_rfl) (by kernel_rfl) (by kernel_rfl) (fun _ _ _ h => h) (Or.inl ⟨by rfl, ?_⟩) (by assumption) ?_
              rotate_left 1
              · (intro w hSw; (try dsimp only at hSw); go_simp) <;> with_reducible rfl
              refine wpAnyH_ready (rs := [8, 10]) (by kernel_rfl) (by simp) ?_
              refine AllReadyH.cons rfl (fun K hK => ?_) (AllReadyH.cons rfl (fun K hK => ?_) AllReadyH.nil)
              · go_simp
                refine (HVAL.out (W1.drew) HMD.out.st.st HMD.out.cnt (by have := HSZ1.out.1; simp; omega)).mono ?_
                rintro e' W3 ⟨d0, d1, d2, d3, d4, d5, d6, d7, rfl, hpart, hst3, v2, hbx3, hcn3⟩
                obtain ⟨x0, a1, l1, m1, x2, x3, x4, x5, x6, a7, l7, m7, rfl, rfl, rfl, rfl, rfl, rfl, rfl, rfl⟩ := part_forms hpart
                have HM3 := Lib.hid (HMD.out.count hst3 hbx3)
                have HP3 := Lib.hid hpart
                have HS3 := Lib.hid (And.intro hst3 hcn3)
                clear hpart hst3 hbx3 hcn3
                go_wp2_with fail
                refine hK.out _ _ ⟨HM3.out.st.bs.cell, HM3.out.st.bi.cell, HM3.out.st.ba.cell⟩ (fun hHeld => ?_)
                clear hK K
                refine wpAnyH_ready (rs := [10]) (by kernel_rfl) (by simp) ?_
                refine AllReadyH.cons rfl (fun K hK => ?_) AllReadyH.nil
                have HM4 := Lib.hid (HM3.out.count ((Step.refl C W3).alloc (.cells #[.string ⟨#[]⟩, .slice none 0 0, .string ⟨#[]⟩, .bool false, .int .i64 0, .int .i64 0, .int .i64 0, .slice none 0 0] 42)) (HM3.out.cnt.alloc _))
                have HP4 := Lib.hid (HP3.out.keep (kept_below ((Below.refl _ W3).alloc (Nat.le_refl _) (.cells #[.string ⟨#[]⟩, .slice none 0 0, .string ⟨#[]⟩, .bool false, .int .i64 0, .int .i64 0, .int .i64 0, .slice none 0 0] 42))))
                go_simp
                refine hK.out _ _ ⟨HM4.out.st.bs.cell, HM4.out.st.bi.cell, HM4.out.st.ba.cell⟩ (fun hHeld => ?_)
                clear hK K
                refine wpAnyH_ready (rs := [11]) (by kernel_rfl) (by simp) ?_
                refine AllReadyH.cons rfl (fun K hK => ?_) AllReadyH.nil
                have hblk : (W3.alloc (.cells #[.string ⟨#[]⟩, .slice none 0 0, .string ⟨#[]⟩, .bool false, .int .i64 0, .int .i64 0, .int .i64 0, .slice none 0 0] 42)).heap[W3.heap.size]? = some (.cells zeroC.toArray 42 (0, 0)) := Kit.fresh_block W3 _ _
                
                refine Kids.stepZ rfl (.tmp 93) (.tmp 102) rfl w17.heap.size _ (.slice ka ks.length kc) ks HM4.out.kids W3.heap.size 1 (0, 0) hblk rfl rfl hkl HM4.out.size ?_
                intro g c W5 hz hgr hat
                have HK4 : Hid (KeepsFrom w17.heap.size W1 (W3.alloc (.cells #[.string ⟨#[]⟩, .slice none 0 0, .string ⟨#[]⟩, .bool false, .int .i64 0, .int .i64 0, .int .i64 0, .slice none 0 0] 42))) := Lib.hid ((((Step.refl C W1).drew.trans HS3.out.1).alloc _).keeps (by have := HCW.out; have := HM1.out.st.hC; have := HZ.out; omega))
                have HA := Lib.hid (HM4.out.app HP4.out (by have := HSZ1.out.2; simp; omega) (fun r e => by have := HROW.out r e; simp; omega) hz hgr hat)
                have HAK := Lib.hid (app_keeps (B := w17.heap.size) HM4.out.kids hgr g (ks.length * 8) G (.string x0) (.slice a1 l1 m1) (.string x2) (.bool x3) (.int .i64 x4) (.int .i64 x5) (.int .i64 x6) (.slice a7 l7 m7) (.slice (some ⟨g, 0, none⟩) (ks.length + 1) c))
                have HZA := Lib.hid hz.at
                have HG1 : Hid (G < w17.heap.size ∧ w17.heap.size ≤ g) := Lib.hid ⟨by have := HZ.out; omega, hz.at.1⟩
                clear hz hgr hat hblk
                refine hK.out _ _ ⟨HA.out.2.2.1.bs.cell, HA.out.2.2.1.bi.cell, HA.out.2.2.1.ba.cell⟩ (fun hHeld => ?_)
                clear hK K
                refine wpAnyH_take (i := 12) (v := ?_) rfl (by kernel_rfl) (by kernel_rfl) (by kernel_rfl) (fun _ _ _ h => h) (Or.inl ⟨by rfl, ?_⟩) (by assumption) ?_
                rotate_left 1
                · (intro w hSw; (try dsimp only at hSw); go_simp) <;> with_reducible rfl
                refine wpAnyH_take (i := 14) (v := ?_) rfl (by kernel_rfl) (by kernel_rfl) (by kernel_rfl) (fun _ _ _ h => h) (Or.inl ⟨by rfl, ?_⟩) (by assumption) ?_
                rotate_left 1
                · (intro w hSw; (try dsimp only at hSw); go_simp) <;> with_reducible rfl
                refine wpAnyH_ready (rs := [13, 15]) (by kernel_rfl) (by simp) ?_
                refine AllReadyH.cons rfl (fun K hK => ?_) (AllReadyH.cons rfl (fun K hK => ?_) AllReadyH.nil)
                · have HSP1 := Lib.hid (HA.out.2.2.1.grown (put8_grown W5 g (ks.length * 8) (.string x0) (.slice a1 l1 m1) (.string x2) (.bool x3) (.int .i64 x4) (.int .i64 x5) (.int .i64 x6) (.slice a7 l7 m7)) (fun r e => by cases e; have := HG1.out; have := HZ.out; omega))
                  refine step_put8 rfl 104 100 rfl rfl _ g (ks.length * 8) x0 a1 l1 m1 x2 x3 x4 x5 x6 a7 l7 m7 rfl rfl HZA.out.2 ?_
                  refine hK.out _ _ ⟨HSP1.out.bs.cell, HSP1.out.bi.cell, HSP1.out.ba.cell⟩ (fun hHeld => ?_)
                  clear hK K
                  refine wpAnyH_ready (rs := [15]) (by kernel_rfl) (by simp) ?_
                  refine AllReadyH.cons rfl (fun K hK => ?_) AllReadyH.nil
                  have l7 := HSP1.out.bp.p7
                  have l8 := HSP1.out.bp.free 7
                  go_simp
                  refine hK.out _ _ ⟨HA.out.1.st.bs.cell, HA.out.1.st.bi.cell, HA.out.1.st.ba.cell⟩ (fun hHeld => ?_)
                  clear hK K
                  refine wpAnyH_done (by kernel_rfl) ?_ _
                  refine ⟨(HK1.out.2.trans HK4.out).trans HAK.out.1, fun _ => HA.out.1.box, ks ++ [RK.1], RK.2, v2, _, HNX.out, HS3.out.2, by rw [List.length_append]; have := HRC.out; simp; omega, HA.out.1⟩
                · have l7 := HA.out.2.2.1.bp.p7
                  have l8 := HA.out.2.2.1.bp.free 7
                  have HSP1 := Lib.hid (HA.out.2.2.1.setG 7 (.slice (some ⟨g, 0, none⟩) (ks.length + 1) c) (HA.out.2.2.1.bp.set7 _))
                  go_simp
                  refine hK.out _ _ ⟨HSP1.out.bs.cell, HSP1.out.bi.cell, HSP1.out.ba.cell⟩ (fun hHeld => ?_)
                  clear hK K
                  clear l7 l8
                  refine wpAnyH_ready (rs := [13]) (by kernel_rfl) (by simp) ?_
                  refine AllReadyH.cons rfl (fun K hK => ?_) AllReadyH.nil
                  refine step_put8 rfl 104 100 rfl rfl _ g (ks.length * 8) x0 a1 l1 m1 x2 x3 x4 x5 x6 a7 l7 m7 rfl rfl (fun j hj => ⟨(World.cell?_setCell_far W5 ⟨G, 7, none⟩ ⟨g, ks.length * 8 + j, none⟩ _ (by show G ≠ g; have := HG1.out; omega)).trans (HZA.out.2 j hj).1, (frozen_far W5 G 7 g _ _ (by have := HG1.out; omega)).trans (HZA.out.2 j hj).2⟩) ?_
                  refine hK.out _ _ ⟨HA.out.2.1.st.bs.cell, HA.out.2.1.st.bi.cell, HA.out.2.1.st.ba.cell⟩ (fun hHeld => ?_)
                  clear hK K
                  refine wpAnyH_done (by kernel_rfl) ?_ _
                  refine ⟨(HK1.out.2.trans HK4.out).trans HAK.out.2, fun _ => HA.out.2.1.box, ks ++ [RK.1], RK.2, v2, _, HNX.out, HS3.out.2, by rw [List.length_append]; have := HRC.out; simp; omega, HA.out.2.1⟩
              · go_simp
                refine hK.out _ _ ⟨HMA.out.st.bs.cell, HMA.out.st.bi.cell, HMA.out.st.ba.cell⟩ (fun hHeld => ?_)
                clear hK K
                refine wpAnyH_ready (rs := [8]) (by kernel_rfl) (by simp) ?_
                refine AllReadyH.cons rfl (fun K hK => ?_) AllReadyH.nil
                go_simp
                refine (HVAL.out (W1.drew.alloc (.cells #[.string ⟨#[]⟩, .slice none 0 0, .string ⟨#[]⟩, .bool false, .int .i64 0, .int .i64 0, .int .i64 0, .slice none 0 0] 42)) HMA.out.st.st HMA.out.cnt (by have := HSZ1.out.1; simp; omega)).mono ?_
                rintro e' W3 ⟨d0, d1, d2, d3, d4, d5, d6, d7, rfl, hpart, hst3, v2, hbx3, hcn3⟩
                obtain ⟨x0, a1, l1, m1, x2, x3, x4, x5, x6, a7, l7, m7, rfl, rfl, rfl, rfl, rfl, rfl, rfl, rfl⟩ := part_forms hpart
                have HM3 := Lib.hid (HMA.out.count hst3 hbx3)
                have HP3 := Lib.hid hpart
                have HS3 := Lib.hid (And.intro hst3 hcn3)
                clear hpart hst3 hbx3 hcn3
                go_wp2_with fail
                refine hK.out _ _ ⟨HM3.out.st.bs.cell, HM3.out.st.bi.cell, HM3.out.st.ba.cell⟩ (fun hHeld => ?_)
                clear hK K
                refine wpAnyH_ready (rs := [11]) (by kernel_rfl) (by simp) ?_
                refine AllReadyH.cons rfl (fun K hK => ?_) AllReadyH.nil
                have hblk : W3.heap[W1.heap.size]? = some (.cells zeroC.toArray 42 (0, 0)) := (HS3.out.1.block W1.heap.size (by simp) (by have := HCW.out; omega)).trans (Kit.fresh_block W1.drew _ _)
                
                refine Kids.stepZ rfl (.tmp 93) (.tmp 102) rfl w17.heap.size _ (.slice ka ks.length kc) ks HM3.out.kids W1.heap.size 1 (0, 0) hblk rfl rfl hkl HM3.out.size ?_
                intro g c W5 hz hgr hat
                have HK4 : Hid (KeepsFrom w17.heap.size W1 (W3)) := Lib.hid (((((Step.refl C W1).drew.alloc _).trans HS3.out.1)).keeps (by have := HM1.out.st.hC; have := HZ.out; omega))
                have HA := Lib.hid (HM3.out.app HP3.out (by have := HSZ1.out.2; simp; omega) (fun r e => by have := HROW.out r e; simp; omega) hz hgr hat)
                have HAK := Lib.hid (app_keeps (B := w17.heap.size) HM3.out.kids hgr g (ks.length * 8) G (.string x0) (.slice a1 l1 m1) (.string x2) (.bool x3) (.int .i64 x4) (.int .i64 x5) (.int .i64 x6) (.slice a7 l7 m7) (.slice (some ⟨g, 0, none⟩) (ks.length + 1) c))
                have HZA := Lib.hid hz.at
                have HG1 : Hid (G < w17.heap.size ∧ w17.heap.size ≤ g) := Lib.hid ⟨by have := HZ.out; omega, hz.at.1⟩
                clear hz hgr hat hblk
                refine hK.out _ _ ⟨HA.out.2.2.1.bs.cell, HA.out.2.2.1.bi.cell, HA.out.2.2.1.ba.cell⟩ (fun hHeld => ?_)
                clear hK K
                refine wpAnyH_take (i := 12) (v := ?_) rfl (by kernel_rfl) (by kernel_rfl) (by kernel_rfl) (fun _ _ _ h => h) (Or.inl ⟨by rfl, ?_⟩) (by assumption) ?_
                rotate_left 1
                · (intro w hSw; (try dsimp only at hSw); go_simp) <;> with_reducible rfl
                refine wpAnyH_take (i := 14) (v := ?_) rfl (by kernel_rfl) (by kernel_rfl) (by kernel_rfl) (fun _ _ _ h => h) (Or.inl ⟨by rfl, ?_⟩) (by assumption) ?_
                rotate_left 1
                · (intro w hSw; (try dsimp only at hSw); go_simp) <;> with_reducible rfl
                refine wpAnyH_ready (rs := [13, 15]) (by kernel_rfl) (by simp) ?_
                refine AllReadyH.cons rfl (fun K hK => ?_) (AllReadyH.cons rfl (fun K hK => ?_) AllReadyH.nil)
                · have HSP1 := Lib.hid (HA.out.2.2.1.grown (put8_grown W5 g (ks.length * 8) (.string x0) (.slice a1 l1 m1) (.string x2) (.bool x3) (.int .i64 x4) (.int .i64 x5) (.int .i64 x6) (.slice a7 l7 m7)) (fun r e => by cases e; have := HG1.out; have := HZ.out; omega))
                  refine step_put8 rfl 104 100 rfl rfl _ g (ks.length * 8) x0 a1 l1 m1 x2 x3 x4 x5 x6 a7 l7 m7 rfl rfl HZA.out.2 ?_
                  refine hK.out _ _ ⟨HSP1.out.bs.cell, HSP1.out.bi.cell, HSP1.out.ba.cell⟩ (fun hHeld => ?_)
                  clear hK K
                  refine wpAnyH_ready (rs := [15]) (by kernel_rfl) (by simp) ?_
                  refine AllReadyH.cons rfl (fun K hK => ?_) AllReadyH.nil
                  have l7 := HSP1.out.bp.p7
                  have l8 := HSP1.out.bp.free 7
                  go_simp
                  refine hK.out _ _ ⟨HA.out.1.st.bs.cell, HA.out.1.st.bi.cell, HA.out.1.st.ba.cell⟩ (fun hHeld => ?_)
                  clear hK K
                  refine wpAnyH_done (by kernel_rfl) ?_ _
                  refine ⟨(HK1.out.2.trans HK4.out).trans HAK.out.1, fun _ => HA.out.1.box, ks ++ [RK.1], RK.2, v2, _, HNX.out, HS3.out.2, by rw [List.length_append]; have := HRC.out; simp; omega, HA.out.1⟩
                · have l7 := HA.out.2.2.1.bp.p7
                  have l8 := HA.out.2.2.1.bp.free 7
                  have HSP1 := Lib.hid (HA.out.2.2.1.setG 7 (.slice (some ⟨g, 0, none⟩) (ks.length + 1) c) (HA.out.2.2.1.bp.set7 _))
                  go_simp
                  refine hK.out _ _ ⟨HSP1.out.bs.cell, HSP1.out.bi.cell, HSP1.out.ba.cell⟩ (fun hHeld => ?_)
                  clear hK K
                  clear l7 l8
                  refine wpAnyH_ready (rs := [13]) (by kernel_rfl) (by simp) ?_
                  refine AllReadyH.cons rfl (fun K hK => ?_) AllReadyH.nil
                  refine step_put8 rfl 104 100 rfl rfl _ g (ks.length * 8) x0 a1 l1 m1 x2 x3 x4 x5 x6 a7 l7 m7 rfl rfl (fun j hj => ⟨(World.cell?_setCell_far W5 ⟨G, 7, none⟩ ⟨g, ks.length * 8 + j, none⟩ _ (by show G ≠ g; have := HG1.out; omega)).trans (HZA.out.2 j hj).1, (frozen_far W5 G 7 g _ _ (by have := HG1.out; omega)).trans (HZA.out.2 j hj).2⟩) ?_
                  refine hK.out _ _ ⟨HA.out.2.1.st.bs.cell, HA.out.2.1.st.bi.cell, HA.out.2.1.st.ba.cell⟩ (fun hHeld => ?_)
                  clear hK K
                  refine wpAnyH_done (by kernel_rfl) ?_ _
                  refine ⟨(HK1.out.2.trans HK4.out).trans HAK.out.2, fun _ => HA.out.2.1.box, ks ++ [RK.1], RK.2, v2, _, HNX.out, HS3.out.2, by rw [List.length_append]; have := HRC.out; simp; omega, HA.out.2.1⟩
            · go_simp
              refine (HVAL.out (W1.drew) HMD.out.st.st HMD.out.cnt (by have := HSZ1.out.1; simp; omega)).mono ?_
              rintro e' W3 ⟨d0, d1, d2, d3, d4, d5, d6, d7, rfl, hpart, hst3, v2, hbx3, hcn3⟩
              obtain ⟨x0, a1, l1, m1, x2, x3, x4, x5, x6, a7, l7, m7, rfl, rfl, rfl, rfl, rfl, rfl, rfl, rfl⟩ := part_forms hpart
              have HM3 := Lib.hid (HMD.out.count hst3 hbx3)
              have HP3 := Lib.hid hpart
              have HS3 := Lib.hid (And.intro hst3 hcn3)
              clear hpart hst3 hbx3 hcn3
              go_wp2_with fail
              refine hK.out _ _ ⟨HM3.out.st.bs.cell, HM3.out.st.bi.cell, HM3.out.st.ba.cell⟩ (fun hHeld => ?_)
              clear hK K
              refine wpAnyH_ready (rs := [1, 10]) (by kernel_rfl) (by simp) ?_
              refine AllReadyH.cons rfl (fun K hK => ?_) (AllReadyH.cons rfl (fun K hK => ?_) AllReadyH.nil)
              · have l7 : (W3).cell? ⟨G, 7, none⟩ = some (.slice ka ks.length kc) := HM3.out.st.bp.p7
                go_simp
                refine hK.out _ _ hHeld (fun hHeld => ?_)
                clear hK K
                clear l7
                refine wpAnyH_take (i := 9) (v := ?_) rfl (by kernel_rfl) (by kernel_rfl) (by kernel_rfl) (fun _ _ _ h => h) (Or.inl ⟨by rfl, ?_⟩) (by assumption) ?_
                rotate_left 1
                · (intro w hSw; (try dsimp only at hSw); go_simp) <;> with_reducible rfl
                refine wpAnyH_ready (rs := [10]) (by kernel_rfl) (by simp) ?_
                refine AllReadyH.cons rfl (fun K hK => ?_) AllReadyH.nil
                have HM4 := Lib.hid (HM3.out.count ((Step.refl C W3).alloc (.cells #[.string ⟨#[]⟩, .slice none 0 0, .string ⟨#[]⟩, .bool false, .int .i64 0, .int .i64 0, .int .i64 0, .slice none 0 0] 42)) (HM3.out.cnt.alloc _))
                have HP4 := Lib.hid (HP3.out.keep (kept_below ((Below.refl _ W3).alloc (Nat.le_refl _) (.cells #[.string ⟨#[]⟩, .slice none 0 0, .string ⟨#[]⟩, .bool false, .int .i64 0, .int .i64 0, .int .i64 0, .slice none 0 0] 42))))
                go_simp
                refine hK.out _ _ ⟨HM4.out.st.bs.cell, HM4.out.st.bi.cell, HM4.out.st.ba.cell⟩ (fun hHeld => ?_)
                clear hK K
                refine wpAnyH_ready (rs := [11]) (by kernel_rfl) (by simp) ?_
                refine AllReadyH.cons rfl (fun K hK => ?_) AllReadyH.nil
                have hblk : (W3.alloc (.cells #[.string ⟨#[]⟩, .slice none 0 0, .string ⟨#[]⟩, .bool false, .int .i64 0, .int .i64 0, .int .i64 0, .slice none 0 0] 42)).heap[W3.heap.size]? = some (.cells zeroC.toArray 42 (0, 0)) := Kit.fresh_block W3 _ _
                
                refine Kids.stepZ rfl (.tmp 93) (.tmp 102) rfl w17.heap.size _ (.slice ka ks.length kc) ks HM4.out.kids W3.heap.size 1 (0, 0) hblk rfl rfl hkl HM4.out.size ?_
                intro g c W5 hz hgr hat
                have HK4 : Hid (KeepsFrom w17.heap.size W1 (W3.alloc (.cells #[.string ⟨#[]⟩, .slice none 0 0, .string ⟨#[]⟩, .bool false, .int .i64 0, .int .i64 0, .int .i64 0, .slice none 0 0] 42))) := Lib.hid ((((Step.refl C W1).drew.trans HS3.out.1).alloc _).keeps (by have := HCW.out; have := HM1.out.st.hC; have := HZ.out; omega))
                have HA := Lib.hid (HM4.out.app HP4.out (by have := HSZ1.out.2; simp; omega) (fun r e => by have := HROW.out r e; simp; omega) hz hgr hat)
                have HAK := Lib.hid (app_keeps (B := w17.heap.size) HM4.out.kids hgr g (ks.length * 8) G (.string x0) (.slice a1 l1 m1) (.string x2) (.bool x3) (.int .i64 x4) (.int .i64 x5) (.int .i64 x6) (.slice a7 l7 m7) (.slice (some ⟨g, 0, none⟩) (ks.length + 1) c))
                have HZA := Lib.hid hz.at
                have HG1 : Hid (G < w17.heap.size ∧ w17.heap.size ≤ g) := Lib.hid ⟨by have := HZ.out; omega, hz.at.1⟩
                clear hz hgr hat hblk
                refine hK.out _ _ ⟨HA.out.2.2.1.bs.cell, HA.out.2.2.1.bi.cell, HA.out.2.2.1.ba.cell⟩ (fun hHeld => ?_)
                clear hK K
                refine wpAnyH_take (i := 12) (v := ?_) rfl (by kernel_rfl) (by kernel_rfl) (by kernel_rfl) (fun _ _ _ h => h) (Or.inl ⟨by rfl, ?_⟩) (by assumption) ?_
                rotate_left 1
                · (intro w hSw; (try dsimp only at hSw); go_simp) <;> with_reducible rfl
                refine wpAnyH_take (i := 14) (v := ?_) rfl (by kernel_rfl) (by kernel_rfl) (by kernel_rfl) (fun _ _ _ h => h) (Or.inl ⟨by rfl, ?_⟩) (by assumption) ?_
                rotate_left 1
                · (intro w hSw; (try dsimp only at hSw); go_simp) <;> with_reducible rfl
                refine wpAnyH_ready (rs := [13, 15]) (by kernel_rfl) (by simp) ?_
                refine AllReadyH.cons rfl (fun K hK => ?_) (AllReadyH.cons rfl (fun K hK => ?_) AllReadyH.nil)
                · have HSP1 := Lib.hid (HA.out.2.2.1.grown (put8_grown W5 g (ks.length * 8) (.string x0) (.slice a1 l1 m1) (.string x2) (.bool x3) (.int .i64 x4) (.int .i64 x5) (.int .i64 x6) (.slice a7 l7 m7)) (fun r e => by cases e; have := HG1.out; have := HZ.out; omega))
                  refine step_put8 rfl 104 100 rfl rfl _ g (ks.length * 8) x0 a1 l1 m1 x2 x3 x4 x5 x6 a7 l7 m7 rfl rfl HZA.out.2 ?_
                  refine hK.out _ _ ⟨HSP1.out.bs.cell, HSP1.out.bi.cell, HSP1.out.ba.cell⟩ (fun hHeld => ?_)
                  clear hK K
                  refine wpAnyH_ready (rs := [15]) (by kernel_rfl) (by simp) ?_
                  refine AllReadyH.cons rfl (fun K hK => ?_) AllReadyH.nil
                  have l7 := HSP1.out.bp.p7
                  have l8 := HSP1.out.bp.free 7
                  go_simp
                  refine hK.out _ _ ⟨HA.out.1.st.bs.cell, HA.out.1.st.bi.cell, HA.out.1.st.ba.cell⟩ (fun hHeld => ?_)
                  clear hK K
                  refine wpAnyH_done (by kernel_rfl) ?_ _
                  refine ⟨(HK1.out.2.trans HK4.out).trans HAK.out.1, fun _ => HA.out.1.box, ks ++ [RK.1], RK.2, v2, _, HNX.out, HS3.out.2, by rw [List.length_append]; have := HRC.out; simp; omega, HA.out.1⟩
                · have l7 := HA.out.2.2.1.bp.p7
                  have l8 := HA.out.2.2.1.bp.free 7
                  have HSP1 := Lib.hid (HA.out.2.2.1.setG 7 (.slice (some ⟨g, 0, none⟩) (ks.length + 1) c) (HA.out.2.2.1.bp.set7 _))
                  go_simp
                  refine hK.out _ _ ⟨HSP1.out.bs.cell, HSP1.out.bi.cell, HSP1.out.ba.cell⟩ (fun hHeld => ?_)
                  clear hK K
                  clear l7 l8
                  refine wpAnyH_ready (rs := [13]) (by kernel_rfl) (by simp) ?_
                  refine AllReadyH.cons rfl (fun K hK => ?_) AllReadyH.nil
                  refine step_put8 rfl 104 100 rfl rfl _ g (ks.length * 8) x0 a1 l1 m1 x2 x3 x4 x5 x6 a7 l7 m7 rfl rfl (fun j hj => ⟨(World.cell?_setCell_far W5 ⟨G, 7, none⟩ ⟨g, ks.length * 8 + j, none⟩ _ (by show G ≠ g; have := HG1.out; omega)).trans (HZA.out.2 j hj).1, (frozen_far W5 G 7 g _ _ (by have := HG1.out; omega)).trans (HZA.out.2 j hj).2⟩) ?_
                  refine hK.out _ _ ⟨HA.out.2.1.st.bs.cell, HA.out.2.1.st.bi.cell, HA.out.2.1.st.ba.cell⟩ (fun hHeld => ?_)
                  clear hK K
                  refine wpAnyH_done (by kernel_rfl) ?_ _
                  refine ⟨(HK1.out.2.trans HK4.out).trans HAK.out.2, fun _ => HA.out.2.1.box, ks ++ [RK.1], RK.2, v2, _, HNX.out, HS3.out.2, by rw [List.length_append]; have := HRC.out; simp; omega, HA.out.2.1⟩
              · have HM4 := Lib.hid (HM3.out.count ((Step.refl C W3).alloc (.cells #[.string ⟨#[]⟩, .slice none 0 0, .string ⟨#[]⟩, .bool false, .int .i64 0, .int .i64 0, .int .i64 0, .slice none 0 0] 42)) (HM3.out.cnt.alloc _))
                have HP4 := Lib.hid (HP3.out.keep (kept_below ((Below.refl _ W3).alloc (Nat.le_refl _) (.cells #[.string ⟨#[]⟩, .slice none 0 0, .string ⟨#[]⟩, .bool false, .int .i64 0, .int .i64 0, .int .i64 0, .slice none 0 0] 42))))
                go_simp
                refine hK.out _ _ ⟨HM4.out.st.bs.cell, HM4.out.st.bi.cell, HM4.out.st.ba.cell⟩ (fun hHeld => ?_)
                clear hK K
                refine wpAnyH_ready (rs := [1]) (by kernel_rfl) (by simp) ?_
                refine AllReadyH.cons rfl (fun K hK => ?_) AllReadyH.nil
                have l7 : (W3.alloc (.cells #[.string ⟨#[]⟩, .slice none 0 0, .string ⟨#[]⟩, .bool false, .int .i64 0, .int .i64 0, .int .i64 0, .slice none 0 0] 42)).cell? ⟨G, 7, none⟩ = some (.slice ka ks.length kc) := HM4.out.st.bp.p7
                go_simp
                refine hK.out _ _ hHeld (fun hHeld => ?_)
                clear hK K
                clear l7
                refine wpAnyH_take (i := 9) (v := ?_) rfl (by kernel_rfl) (by kernel_rfl) (by kernel_rfl) (fun _ _ _ h => h) (Or.inl ⟨by rfl, ?_⟩) (by assumption) ?_
                rotate_left 1
                · (intro w hSw; (try dsimp only at hSw); go_simp) <;> with_reducible rfl
                refine wpAnyH_ready (rs := [11]) (by kernel_rfl) (by simp) ?_
                refine AllReadyH.cons rfl (fun K hK => ?_) AllReadyH.nil
                have hblk : (W3.alloc (.cells #[.string ⟨#[]⟩, .slice none 0 0, .string ⟨#[]⟩, .bool false, .int .i64 0, .int .i64 0, .int .i64 0, .slice none 0 0] 42)).heap[W3.heap.size]? = some (.cells zeroC.toArray 42 (0, 0)) := Kit.fresh_block W3 _ _
                
                refine Kids.stepZ rfl (.tmp 93) (.tmp 102) rfl w17.heap.size _ (.slice ka ks.length kc) ks HM4.out.kids W3.heap.size 1 (0, 0) hblk rfl rfl hkl HM4.out.size ?_
                intro g c W5 hz hgr hat
                have HK4 : Hid (KeepsFrom w17.heap.size W1 (W3.alloc (.cells #[.string ⟨#[]⟩, .slice none 0 0, .string ⟨#[]⟩, .bool false, .int .i64 0, .int .i64 0, .int .i64 0, .slice none 0 0] 42))) := Lib.hid ((((Step.refl C W1).drew.trans HS3.out.1).alloc _).keeps (by have := HCW.out; have := HM1.out.st.hC; have := HZ.out; omega))
                have HA := Lib.hid (HM4.out.app HP4.out (by have := HSZ1.out.2; simp; omega) (fun r e => by have := HROW.out r e; simp; omega) hz hgr hat)
                have HAK := Lib.hid (app_keeps (B := w17.heap.size) HM4.out.kids hgr g (ks.length * 8) G (.string x0) (.slice a1 l1 m1) (.string x2) (.bool x3) (.int .i64 x4) (.int .i64 x5) (.int .i64 x6) (.slice a7 l7 m7) (.slice (some ⟨g, 0, none⟩) (ks.length + 1) c))
                have HZA := Lib.hid hz.at
                have HG1 : Hid (G < w17.heap.size ∧ w17.heap.size ≤ g) := Lib.hid ⟨by have := HZ.out; omega, hz.at.1⟩
                clear hz hgr hat hblk
                refine hK.out _ _ ⟨HA.out.2.2.1.bs.cell, HA.out.2.2.1.bi.cell, HA.out.2.2.1.ba.cell⟩ (fun hHeld => ?_)
                clear hK K
                refine wpAnyH_take (i := 12) (v := ?_) rfl (by kernel_rfl) (by kernel_rfl) (by kernel_rfl) (fun _ _ _ h => h) (Or.inl ⟨by rfl, ?_⟩) (by assumption) ?_
                rotate_left 1
                · (intro w hSw; (try dsimp only at hSw); go_simp) <;> with_reducible rfl
                refine wpAnyH_take (i := 14) (v := ?_) rfl (by kernel_rfl) (by kernel_rfl) (by kernel_rfl) (fun _ _ _ h => h) (Or.inl ⟨by rfl, ?_⟩) (by assumption) ?_
                rotate_left 1
                · (intro w hSw; (try dsimp only at hSw); go_simp) <;> with_reducible rfl
                refine wpAnyH_ready (rs := [13, 15]) (by kernel_rfl) (by simp) ?_
                refine AllReadyH.cons rfl (fun K hK => ?_) (AllReadyH.cons rfl (fun K hK => ?_) AllReadyH.nil)
                · have HSP1 := Lib.hid (HA.out.2.2.1.grown (put8_grown W5 g (ks.length * 8) (.string x0) (.slice a1 l1 m1) (.string x2) (.bool x3) (.int .i64 x4) (.int .i64 x5) (.int .i64 x6) (.slice a7 l7 m7)) (fun r e => by cases e; have := HG1.out; have := HZ.out; omega))
                  refine step_put8 rfl 104 100 rfl rfl _ g (ks.length * 8) x0 a1 l1 m1 x2 x3 x4 x5 x6 a7 l7 m7 rfl rfl HZA.out.2 ?_
                  refine hK.out _ _ ⟨HSP1.out.bs.cell, HSP1.out.bi.cell, HSP1.out.ba.cell⟩ (fun hHeld => ?_)
                  clear hK K
                  refine wpAnyH_ready (rs := [15]) (by kernel_rfl) (by simp) ?_
                  refine AllReadyH.cons rfl (fun K hK => ?_) AllReadyH.nil
                  have l7 := HSP1.out.bp.p7
                  have l8 := HSP1.out.bp.free 7
                  go_simp
                  refine hK.out _ _ ⟨HA.out.1.st.bs.cell, HA.out.1.st.bi.cell, HA.out.1.st.ba.cell⟩ (fun hHeld => ?_)
                  clear hK K
                  refine wpAnyH_done (by kernel_rfl) ?_ _
                  refine ⟨(HK1.out.2.trans HK4.out).trans HAK.out.1, fun _ => HA.out.1.box, ks ++ [RK.1], RK.2, v2, _, HNX.out, HS3.out.2, by rw [List.length_append]; have := HRC.out; simp; omega, HA.out.1⟩
                · have l7 := HA.out.2.2.1.bp.p7
                  have l8 := HA.out.2.2.1.bp.free 7
                  have HSP1 := Lib.hid (HA.out.2.2.1.setG 7 (.slice (some ⟨g, 0, none⟩) (ks.length + 1) c) (HA.out.2.2.1.bp.set7 _))
                  go_simp
                  refine hK.out _ _ ⟨HSP1.out.bs.cell, HSP1.out.bi.cell, HSP1.out.ba.cell⟩ (fun hHeld => ?_)
                  clear hK K
                  clear l7 l8
                  refine wpAnyH_ready (rs := [13]) (by kernel_rfl) (by simp) ?_
                  refine AllReadyH.cons rfl (fun K hK => ?_) AllReadyH.nil
                  refine step_put8 rfl 104 100 rfl rfl _ g (ks.length * 8) x0 a1 l1 m1 x2 x3 x4 x5 x6 a7 l7 m7 rfl rfl (fun j hj => ⟨(World.cell?_setCell_far W5 ⟨G, 7, none⟩ ⟨g, ks.length * 8 + j, none⟩ _ (by show G ≠ g; have := HG1.out; omega)).trans (HZA.out.2 j hj).1, (frozen_far W5 G 7 g _ _ (by have := HG1.out; omega)).trans (HZA.out.2 j hj).2⟩) ?_
                  refine hK.out _ _ ⟨HA.out.2.1.st.bs.cell, HA.out.2.1.st.bi.cell, HA.out.2.1.st.ba.cell⟩ (fun hHeld => ?_)
                  clear hK K
                  refine wpAnyH_done (by kernel_rfl) ?_ _
                  refine ⟨(HK1.out.2.trans HK4.out).trans HAK.out.2, fun _ => HA.out.2.1.box, ks ++ [RK.1], RK.2, v2, _, HNX.out, HS3.out.2, by rw [List.length_append]; have := HRC.out; simp; omega, HA.out.2.1⟩
            · go_simp
              refine hK.out _ _ ⟨HMA.out.st.bs.cell, HMA.out.st.bi.cell, HMA.out.st.ba.cell⟩ (fun hHeld => ?_)
              clear hK K
              refine wpAnyH_ready (rs := [1, 8]) (by kernel_rfl) (by simp) ?_
              refine AllReadyH.cons rfl (fun K hK => ?_) (AllReadyH.cons rfl (fun K hK => ?_) AllReadyH.nil)
              · refine step_load rfl 92 rfl rfl _ ⟨G, 7, none⟩ ka ks.length kc rfl HMA.out.st.bp.p7 ?_
                refine hK.out _ _ hHeld (fun hHeld => ?_)
                clear hK K
                refine wpAnyH_take (i := 9) (v := ?_) rfl (by kernel_rfl) (by kernel_rfl) (by kernel_rfl) (fun _ _ _ h => h) (Or.inl ⟨by rfl, ?_⟩) (by assumption) ?_
                rotate_left 1
                · (intro w hSw; (try dsimp only at hSw); go_simp) <;> with_reducible rfl
                refine wpAnyH_ready (rs := [8]) (by kernel_rfl) (by simp) ?_
                refine AllReadyH.cons rfl (fun K hK => ?_) AllReadyH.nil
                go_simp
                refine (HVAL.out (W1.drew.alloc (.cells #[.string ⟨#[]⟩, .slice none 0 0, .string ⟨#[]⟩, .bool false, .int .i64 0, .int .i64 0, .int .i64 0, .slice none 0 0] 42)) HMA.out.st.st HMA.out.cnt (by have := HSZ1.out.1; simp; omega)).mono ?_
                rintro e' W3 ⟨d0, d1, d2, d3, d4, d5, d6, d7, rfl, hpart, hst3, v2, hbx3, hcn3⟩
                obtain ⟨x0, a1, l1, m1, x2, x3, x4, x5, x6, a7, l7, m7, rfl, rfl, rfl, rfl, rfl, rfl, rfl, rfl⟩ := part_forms hpart
                have HM3 := Lib.hid (HMA.out.count hst3 hbx3)
                have HP3 := Lib.hid hpart
                have HS3 := Lib.hid (And.intro hst3 hcn3)
                clear hpart hst3 hbx3 hcn3
                go_wp2_with fail
                refine hK.out _ _ ⟨HM3.out.st.bs.cell, HM3.out.st.bi.cell, HM3.out.st.ba.cell⟩ (fun hHeld => ?_)
                clear hK K
                refine wpAnyH_ready (rs := [11]) (by kernel_rfl) (by simp) ?_
                refine AllReadyH.cons rfl (fun K hK => ?_) AllReadyH.nil
                have hblk : W3.heap[W1.heap.size]? = some (.cells zeroC.toArray 42 (0, 0)) := (HS3.out.1.block W1.heap.size (by simp) (by have := HCW.out; omega)).trans (Kit.fresh_block W1.drew _ _)
                
                refine Kids.stepZ rfl (.tmp 93) (.tmp 102) rfl w17.heap.size _ (.slice ka ks.length kc) ks HM3.out.kids W1.heap.size 1 (0, 0) hblk rfl rfl hkl HM3.out.size ?_
                intro g c W5 hz hgr hat
                have HK4 : Hid (KeepsFrom w17.heap.size W1 (W3)) := Lib.hid (((((Step.refl C W1).drew.alloc _).trans HS3.out.1)).keeps (by have := HM1.out.st.hC; have := HZ.out; omega))
                have HA := Lib.hid (HM3.out.app HP3.out (by have := HSZ1.out.2; simp; omega) (fun r e => by have := HROW.out r e; simp; omega) hz hgr hat)
                have HAK := Lib.hid (app_keeps (B := w17.heap.size) HM3.out.kids hgr g (ks.length * 8) G (.string x0) (.slice a1 l1 m1) (.string x2) (.bool x3) (.int .i64 x4) (.int .i64 x5) (.int .i64 x6) (.slice a7 l7 m7) (.slice (some ⟨g, 0, none⟩) (ks.length + 1) c))
                have HZA := Lib.hid hz.at
                have HG1 : Hid (G < w17.heap.size ∧ w17.heap.size ≤ g) := Lib.hid ⟨by have := HZ.out; omega, hz.at.1⟩
                clear hz hgr hat hblk
                refine hK.out _ _ ⟨HA.out.2.2.1.bs.cell, HA.out.2.2.1.bi.cell, HA.out.2.2.1.ba.cell⟩ (fun hHeld => ?_)
                clear hK K
                refine wpAnyH_take (i := 12) (v := ?_) rfl (by kernel_rfl) (by kernel_rfl) (by kernel_rfl) (fun _ _ _ h => h) (Or.inl ⟨by rfl, ?_⟩) (by assumption) ?_
                rotate_left 1
                · (intro w hSw; (try dsimp only at hSw); go_simp) <;> with_reducible rfl
                refine wpAnyH_take (i := 14) (v := ?_) rfl (by kernel_rfl) (by kernel_rfl) (by kernel_rfl) (fun _ _ _ h => h) (Or.inl ⟨by rfl, ?_⟩) (by assumption) ?_
                rotate_left 1
                · (intro w hSw; (try dsimp only at hSw); go_simp) <;> with_reducible rfl
                refine wpAnyH_ready (rs := [13, 15]) (by kernel_rfl) (by simp) ?_
                refine AllReadyH.cons rfl (fun K hK => ?_) (AllReadyH.cons rfl (fun K hK => ?_) AllReadyH.nil)
                · have HSP1 := Lib.hid (HA.out.2.2.1.grown (put8_grown W5 g (ks.length * 8) (.string x0) (.slice a1 l1 m1) (.string x2) (.bool x3) (.int .i64 x4) (.int .i64 x5) (.int .i64 x6) (.slice a7 l7 m7)) (fun r e => by cases e; have := HG1.out; have := HZ.out; omega))
                  refine step_put8 rfl 104 100 rfl rfl _ g (ks.length * 8) x0 a1 l1 m1 x2 x3 x4 x5 x6 a7 l7 m7 rfl rfl HZA.out.2 ?_
                  refine hK.out _ _ ⟨HSP1.out.bs.cell, HSP1.out.bi.cell, HSP1.out.ba.cell⟩ (fun hHeld => ?_)
                  clear hK K
                  refine wpAnyH_ready (rs := [15]) (by kernel_rfl) (by simp) ?_
                  refine AllReadyH.cons rfl (fun K hK => ?_) AllReadyH.nil
                  have l7 := HSP1.out.bp.p7
                  have l8 := HSP1.out.bp.free 7
                  go_simp
                  refine hK.out _ _ ⟨HA.out.1.st.bs.cell, HA.out.1.st.bi.cell, HA.out.1.st.ba.cell⟩ (fun hHeld => ?_)
                  clear hK K
                  refine wpAnyH_done (by kernel_rfl) ?_ _
                  refine ⟨(HK1.out.2.trans HK4.out).trans HAK.out.1, fun _ => HA.out.1.box, ks ++ [RK.1], RK.2, v2, _, HNX.out, HS3.out.2, by rw [List.length_append]; have := HRC.out; simp; omega, HA.out.1⟩
                · have l7 := HA.out.2.2.1.bp.p7
                  have l8 := HA.out.2.2.1.bp.free 7
                  have HSP1 := Lib.hid (HA.out.2.2.1.setG 7 (.slice (some ⟨g, 0, none⟩) (ks.length + 1) c) (HA.out.2.2.1.bp.set7 _))
                  go_simp
                  refine hK.out _ _ ⟨HSP1.out.bs.cell, HSP1.out.bi.cell, HSP1.out.ba.cell⟩ (fun hHeld => ?_)
                  clear hK K
                  clear l7 l8
                  refine wpAnyH_ready (rs := [13]) (by kernel_rfl) (by simp) ?_
                  refine AllReadyH.cons rfl (fun K hK => ?_) AllReadyH.nil
                  refine step_put8 rfl 104 100 rfl rfl _ g (ks.length * 8) x0 a1 l1 m1 x2 x3 x4 x5 x6 a7 l7 m7 rfl rfl (fun j hj => ⟨(World.cell?_setCell_far W5 ⟨G, 7, none⟩ ⟨g, ks.length * 8 + j, none⟩ _ (by show G ≠ g; have := HG1.out; omega)).trans (HZA.out.2 j hj).1, (frozen_far W5 G 7 g _ _ (by have := HG1.out; omega)).trans (HZA.out.2 j hj).2⟩) ?_
                  refine hK.out _ _ ⟨HA.out.2.1.st.bs.cell, HA.out.2.1.st.bi.cell, HA.out.2.1.st.ba.cell⟩ (fun hHeld => ?_)
                  clear hK K
                  refine wpAnyH_done (by kernel_rfl) ?_ _
                  refine ⟨(HK1.out.2.trans HK4.out).trans HAK.out.2, fun _ => HA.out.2.1.box, ks ++ [RK.1], RK.2, v2, _, HNX.out, HS3.out.2, by rw [List.length_append]; have := HRC.out; simp; omega, HA.out.2.1⟩
              · go_simp
                refine (HVAL.out (W1.drew.alloc (.cells #[.string ⟨#[]⟩, .slice none 0 0, .string ⟨#[]⟩, .bool false, .int .i64 0, .int .i64 0, .int .i64 0, .slice none 0 0] 42)) HMA.out.st.st HMA.out.cnt (by have := HSZ1.out.1; simp; omega)).mono ?_
                rintro e' W3 ⟨d0, d1, d2, d3, d4, d5, d6, d7, rfl, hpart, hst3, v2, hbx3, hcn3⟩
                obtain ⟨x0, a1, l1, m1, x2, x3, x4, x5, x6, a7, l7, m7, rfl, rfl, rfl, rfl, rfl, rfl, rfl, rfl⟩ := part_forms hpart
                have HM3 := Lib.hid (HMA.out.count hst3 hbx3)
                have HP3 := Lib.hid hpart
                have HS3 := Lib.hid (And.intro hst3 hcn3)
                clear hpart hst3 hbx3 hcn3
                go_wp2_with fail
                refine hK.out _ _ ⟨HM3.out.st.bs.cell, HM3.out.st.bi.cell, HM3.out.st.ba.cell⟩ (fun hHeld => ?_)
                clear hK K
                refine wpAnyH_ready (rs := [1]) (by kernel_rfl) (by simp) ?_
                refine AllReadyH.cons rfl (fun K hK => ?_) AllReadyH.nil
                have l7 : (W3).cell? ⟨G, 7, none⟩ = some (.slice ka ks.length kc) := HM3.out.st.bp.p7
                go_simp
                refine hK.out _ _ hHeld (fun hHeld => ?_)
                clear hK K
                clear l7
                refine wpAnyH_take (i := 9) (v := ?_) rfl (by kernel_rfl) (by kernel_rfl) (by kernel_rfl) (fun _ _ _ h => h) (Or.inl ⟨by rfl, ?_⟩) (by assumption) ?_
                rotate_left 1
                · (intro w hSw; (try dsimp only at hSw); go_simp) <;> with_reducible rfl
                refine wpAnyH_ready (rs := [11]) (by kernel_rfl) (by simp) ?_
                refine AllReadyH.cons rfl (fun K hK => ?_) AllReadyH.nil
                have hblk : W3.heap[W1.heap.size]? = some (.cells zeroC.toArray 42 (0, 0)) := (HS3.out.1.block W1.heap.size (by simp) (by have := HCW.out; omega)).trans (Kit.fresh_block W1.drew _ _)
                
                refine Kids.stepZ rfl (.tmp 93) (.tmp 102) rfl w17.heap.size _ (.slice ka ks.length kc) ks HM3.out.kids W1.heap.size 1 (0, 0) hblk rfl rfl hkl HM3.out.size ?_
                intro g c W5 hz hgr hat
                have HK4 : Hid (KeepsFrom w17.heap.size W1 (W3)) := Lib.hid (((((Step.refl C W1).drew.alloc _).trans HS3.out.1)).keeps (by have := HM1.out.st.hC; have := HZ.out; omega))
                have HA := Lib.hid (HM3.out.app HP3.out (by have := HSZ1.out.2; simp; omega) (fun r e => by have := HROW.out r e; simp; omega) hz hgr hat)
                have HAK := Lib.hid (app_keeps (B := w17.heap.size) HM3.out.kids hgr g (ks.length * 8) G (.string x0) (.slice a1 l1 m1) (.string x2) (.bool x3) (.int .i64 x4) (.int .i64 x5) (.int .i64 x6) (.slice a7 l7 m7) (.slice (some ⟨g, 0, none⟩) (ks.length + 1) c))
                have HZA := Lib.hid hz.at
                have HG1 : Hid (G < w17.heap.size ∧ w17.heap.size ≤ g) := Lib.hid ⟨by have := HZ.out; omega, hz.at.1⟩
                clear hz hgr hat hblk
                refine hK.out _ _ ⟨HA.out.2.2.1.bs.cell, HA.out.2.2.1.bi.cell, HA.out.2.2.1.ba.cell⟩ (fun hHeld => ?_)
                clear hK K
                refine wpAnyH_take (i := 12) (v := ?_) rfl (by kernel_rfl) (by kernel_rfl) (by kernel_rfl) (fun _ _ _ h => h) (Or.inl ⟨by rfl, ?_⟩) (by assumption) ?_
                rotate_left 1
                · (intro w hSw; (try dsimp only at hSw); go_simp) <;> with_reducible rfl
                refine wpAnyH_take (i := 14) (v := ?_) rfl (by kernel_rfl) (by kernel_rfl) (by kernel_rfl) (fun _ _ _ h => h) (Or.inl ⟨by rfl, ?_⟩) (by assumption) ?_
                rotate_left 1
                · (intro w hSw; (try dsimp only at hSw); go_simp) <;> with_reducible rfl
                refine wpAnyH_ready (rs := [13, 15]) (by kernel_rfl) (by simp) ?_
                refine AllReadyH.cons rfl (fun K hK => ?_) (AllReadyH.cons rfl (fun K hK => ?_) AllReadyH.nil)
                · have HSP1 := Lib.hid (HA.out.2.2.1.grown (put8_grown W5 g (ks.length * 8) (.string x0) (.slice a1 l1 m1) (.string x2) (.bool x3) (.int .i64 x4) (.int .i64 x5) (.int .i64 x6) (.slice a7 l7 m7)) (fun r e => by cases e; have := HG1.out; have := HZ.out; omega))
                  refine step_put8 rfl 104 100 rfl rfl _ g (ks.length * 8) x0 a1 l1 m1 x2 x3 x4 x5 x6 a7 l7 m7 rfl rfl HZA.out.2 ?_
                  refine hK.out _ _ ⟨HSP1.out.bs.cell, HSP1.out.bi.cell, HSP1.out.ba.cell⟩ (fun hHeld => ?_)
                  clear hK K
                  refine wpAnyH_ready (rs := [15]) (by kernel_rfl) (by simp) ?_
                  refine AllReadyH.cons rfl (fun K hK => ?_) AllReadyH.nil
                  have l7 := HSP1.out.bp.p7
                  have l8 := HSP1.out.bp.free 7
                  go_simp
                  refine hK.out _ _ ⟨HA.out.1.st.bs.cell, HA.out.1.st.bi.cell, HA.out.1.st.ba.cell⟩ (fun hHeld => ?_)
                  clear hK K
                  refine wpAnyH_done (by kernel_rfl) ?_ _
                  refine ⟨(HK1.out.2.trans HK4.out).trans HAK.out.1, fun _ => HA.out.1.box, ks ++ [RK.1], RK.2, v2, _, HNX.out, HS3.out.2, by rw [List.length_append]; have := HRC.out; simp; omega, HA.out.1⟩
                · have l7 := HA.out.2.2.1.bp.p7
                  have l8 := HA.out.2.2.1.bp.free 7
                  have HSP1 := Lib.hid (HA.out.2.2.1.setG 7 (.slice (some ⟨g, 0, none⟩) (ks.length + 1) c) (HA.out.2.2.1.bp.set7 _))
                  go_simp
                  refine hK.out _ _ ⟨HSP1.out.bs.cell, HSP1.out.bi.cell, HSP1.out.ba.cell⟩ (fun hHeld => ?_)
                  clear hK K
                  clear l7 l8
                  refine wpAnyH_ready (rs := [13]) (by kernel_rfl) (by simp) ?_
                  refine AllReadyH.cons rfl (fun K hK => ?_) AllReadyH.nil
                  refine step_put8 rfl 104 100 rfl rfl _ g (ks.length * 8) x0 a1 l1 m1 x2 x3 x4 x5 x6 a7 l7 m7 rfl rfl (fun j hj => ⟨(World.cell?_setCell_far W5 ⟨G, 7, none⟩ ⟨g, ks.length * 8 + j, none⟩ _ (by show G ≠ g; have := HG1.out; omega)).trans (HZA.out.2 j hj).1, (frozen_far W5 G 7 g _ _ (by have := HG1.out; omega)).trans (HZA.out.2 j hj).2⟩) ?_
                  refine hK.out _ _ ⟨HA.out.2.1.st.bs.cell, HA.out.2.1.st.bi.cell, HA.out.2.1.st.ba.cell⟩ (fun hHeld => ?_)
                  clear hK K
                  refine wpAnyH_done (by kernel_rfl) ?_ _
                  refine ⟨(HK1.out.2.trans HK4.out).trans HAK.out.2, fun _ => HA.out.2.1.box, ks ++ [RK.1], RK.2, v2, _, HNX.out, HS3.out.2, by rw [List.length_append]; have := HRC.out; simp; omega, HA.out.2.1⟩
          · have hm30 : ¬ m < 30 := by obtain ⟨h0, h | ⟨h, _, _⟩⟩ := HCN.out <;> omega
            have HCX : Hid (Cnt m (v + 1) d) := Lib.hid (by
              have := HD'.out
              obtain ⟨h0, h | ⟨h, h1, h2⟩⟩ := HCN.out
              · exact ⟨h0, Or.inr (by omega)⟩
              · exact ⟨h0, Or.inr (by omega)⟩)
            rw [decide_eq_false h30]
            gi_wp2_with fail
            refine ⟨HK1.out.2, rfl, ks, m, v + 1, _, fun rest => ?_, HCX.out, HM1.out⟩
            rw [List.map_append]
            exact HFD.out.stop (kf, ke) hm30 rest
        case done =>
          rintro D ys W hD hys ⟨ks, m, v, kv, hfd, hcnt, hksm, hms⟩ hK
          have HEQ : Hid (RD = (partL s.data.toList a b ks, m) ∧ Cnt m v d) := Lib.hid ⟨by
            have hh : hasL s.data.toList a b = some bd := by unfold hasL; rw [HH.out, HTY.out]; exact HMK2.out
            rw [← HRD.out, HD'.out, readL, hh, HH.out]
            dsimp only
            rw [← hys, hfd.all], by rw [HD'.out]; exact hcnt.more⟩
          clear hfd hcnt hksm hys
          obtain ⟨ka, kc, rfl⟩ := hms.kids.form
          have HFIN := Lib.hid (hms.fin hK)
          have HSTEP := Lib.hid (HFIN.out.2.2.1 hD)
          have p0 := hms.st.bp.p0
          have p1 := hms.st.bp.p1
          have p2 := hms.st.bp.p2
          have p3 := hms.st.bp.p3
          have p4 := hms.st.bp.p4
          have p5 := hms.st.bp.p5
          have p6 := hms.st.bp.p6
          have p7 := hms.st.bp.p7
          have q0 := hms.st.br.p0
          have q1 := hms.st.br.p1
          have q2 := hms.st.br.p2
          have q3 := hms.st.br.p3
          have q4 := hms.st.br.p4
          have q5 := hms.st.br.p5
          have q6 := hms.st.br.p6
          have q7 := hms.st.br.p7
          have e0 := hms.st.br.free 0
          have e1 := hms.st.br.free 1
          have e2 := hms.st.br.free 2
          have e3 := hms.st.br.free 3
          have e4 := hms.st.br.free 4
          have e5 := hms.st.br.free 5
          have e6 := hms.st.br.free 6
          have e7 := hms.st.br.free 7
          clear hms hK
          gi_wp2_with fail
          refine ⟨by simp, .inl ⟨_, _, rfl, run_takeDeferred HFIN.out.1, ?_⟩⟩
          refine ⟨.agg #[.string ⟨ty.toArray⟩, .slice pa ps.length pc, .string ⟨EN.toArray⟩, .bool ab, .int .i64 (a : Int), .int .i64 (body : Int), .int .i64 (b : Int), .slice ka ks.length kc], part_result rfl _ rfl HFIN.out.2.1, ?_⟩
          refine ⟨_, _, _, _, _, _, _, _, rfl, ?_, HSTEP.out, v, ?_, ?_⟩
          · rw [HEQ.out.1]
            show PartAt _ _ (partL s.data.toList a b ks) _
            unfold partL
            rw [HH.out, HTY.out, HEN.out, HAB.out]
            exact part_at HFIN.out.2.2.2.1 HFIN.out.2.2.2.2.1
          · exact HFIN.out.2.2.2.2.2
          · rw [HEQ.out.1]
            exact HEQ.out.2
        case stop =>
          rintro D c pre W hD hpx ⟨rfl, ks, m, v, kv, hfd, hcnt, hms⟩ hK
          have HEQ : Hid (RD = (partL s.data.toList a b ks, m) ∧ Cnt m v d) := Lib.hid ⟨by
            have hh : hasL s.data.toList a b = some bd := by unfold hasL; rw [HH.out, HTY.out]; exact HMK2.out
            obtain ⟨rest, hr⟩ := hpx
            rw [← HRD.out, HD'.out, readL, hh, HH.out]
            dsimp only
            rw [← hr, hfd rest], hcnt⟩
          clear hfd hcnt hpx
          obtain ⟨ka, kc, rfl⟩ := hms.kids.form
          have HFIN := Lib.hid (hms.fin hK)
          have HSTEP := Lib.hid (HFIN.out.2.2.1 hD)
          have p0 := hms.st.bp.p0
          have p1 := hms.st.bp.p1
          have p2 := hms.st.bp.p2
          have p3 := hms.st.bp.p3
          have p4 := hms.st.bp.p4
          have p5 := hms.st.bp.p5
          have p6 := hms.st.bp.p6
          have p7 := hms.st.bp.p7
          have q0 := hms.st.br.p0
          have q1 := hms.st.br.p1
          have q2 := hms.st.br.p2
          have q3 := hms.st.br.p3
          have q4 := hms.st.br.p4
          have q5 := hms.st.br.p5
          have q6 := hms.st.br.p6
          have q7 := hms.st.br.p7
          have e0 := hms.st.br.free 0
          have e1 := hms.st.br.free 1
          have e2 := hms.st.br.free 2
          have e3 := hms.st.br.free 3
          have e4 := hms.st.br.free 4
          have e5 := hms.st.br.free 5
          have e6 := hms.st.br.free 6
          have e7 := hms.st.br.free 7
          clear hms hK
          gi_wp2_with fail
          refine ⟨by simp, .inl ⟨_, _, rfl, run_takeDeferred HFIN.out.1, ?_⟩⟩
          refine ⟨.agg #[.string ⟨ty.toArray⟩, .slice pa ps.length pc, .string ⟨EN.toArray⟩, .bool ab, .int .i64 (a : Int), .int .i64 (body : Int), .int .i64 (b : Int), .slice ka ks.length kc], part_result rfl _ rfl HFIN.out.2.1, ?_⟩
          refine ⟨_, _, _, _, _, _, _, _, rfl, ?_, HSTEP.out, v, ?_, ?_⟩
          · rw [HEQ.out.1]
            show PartAt _ _ (partL s.data.toList a b ks) _
            unfold partL
            rw [HH.out, HTY.out, HEN.out, HAB.out]
            exact part_at HFIN.out.2.2.2.1 HFIN.out.2.2.2.2.1
          · exact HFIN.out.2.2.2.2.2
          · rw [HEQ.out.1]
            exact HEQ.out.2
end Go.Proofs.YtnnbbjdidbggmaaGreatDoor.Pt
