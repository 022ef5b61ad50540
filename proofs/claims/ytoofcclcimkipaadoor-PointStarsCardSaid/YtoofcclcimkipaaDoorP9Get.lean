/-
  The program's Get tells what the document's Point tells. Conditions: Tame, at most 2000 values; the library's tables and errors read as its text lays them.
-/
import Derived.Test.YtoofcclcimkipaaDoorP9Point
import Derived.Test.YtoofcclcimkipaaDoorP9Way
import Derived.Test.YtoofcclcimkipaaDoorP9Fresh
import Derived.Test.YtoofcclcimkipaaDoorJ8CRight
namespace Go.Proofs.YtoofcclcimkipaaDoor.J9
open Go Go.RowKit Go.Joins Kit J7 Nds J8

theorem PartsIn.below {w w' : World} {a : Option Addr} {cap : Nat} {l : List ByteArray} (h : PartsIn w a cap l) (hb : Below w.heap.size w w') : PartsIn w' a cap l := ⟨h.keys.below hb, h.room, h.top, h.few⟩
/-- What parts lead to is as tame as what they lead from. -/
theorem tame_flat {x : J} (h : Tame x) : ∀ k ∈ flatJ x, Tame k := by
  intro k hk
  unfold flatJ at hk
  split at hk
  · obtain ⟨i, hi, e⟩ := List.getElem_of_mem hk
    rw [← e]
    exact tame_kid h i hi
  · rw [List.mem_singleton.1 hk]
    exact h
theorem tame_collect {f : J → Option J} : ∀ {l ks : List J}, (∀ k ∈ l, ∀ x, f k = some x → Tame x) → collect f l = some ks → ∀ k ∈ ks, Tame k
  | [], ks, _, h => by
    rw [collect] at h
    injection h with h
    subst h
    exact fun k hk => by cases hk
  | j :: r, ks, hf, h => by
    rw [collect] at h
    cases hj : f j with
    | none => rw [hj] at h; cases h
    | some x =>
      rw [hj] at h
      cases hr : collect f r with
      | none => rw [hr] at h; cases h
      | some t =>
        rw [hr] at h
        injection h with h
        subst h
        intro k hk
        rcases List.mem_append.1 hk with hk | hk
        · exact tame_flat (hf j List.mem_cons_self x hj) k hk
        · exact tame_collect (fun q hq => hf q (List.mem_cons_of_mem _ hq)) hr k hk
theorem follow_tame {num : ByteArray → Option Nat} : ∀ {l : List ByteArray} {n x : J}, Tame n → cnt n ≤ 2000 → followP num l n = some x → Tame x
  | [], n, x, ht, _, h => by
    rw [followP] at h
    injection h with h
    subst h
    exact ht
  | p :: l, n, x, ht, hc, h => by
    have hle := follow_few h
    have hck : ∀ i (hi : i < n.kids.length), cnt n.kids[i] ≤ 2000 := fun i hi => by
      have h2 := cnt_get n.kids i hi
      have h3 := cnt_kids n
      omega
    rw [followP] at h
    by_cases h7 : n.kind = 7
    · rw [if_pos h7] at h
      cases hk : findP n p with
      | none => rw [hk] at h; cases h
      | some k =>
        rw [hk] at h
        unfold findP at hk
        split at hk
        · rename_i h0
          injection hk with hk
          subst hk
          exact follow_tame (tame_kid ht _ _) (hck _ _) h
        · cases hk
    · rw [if_neg h7] at h
      by_cases h6 : n.kind = 6
      · rw [if_pos h6] at h
        by_cases hs : p = starB
        · rw [if_pos hs] at h
          cases hcl : collect (followP num l) n.kids with
          | none => rw [hcl] at h; cases h
          | some ks =>
            rw [hcl] at h
            injection h with h
            subst h
            have hts := tame_collect (fun k hk x hx => by
              obtain ⟨i, hi, e⟩ := List.getElem_of_mem hk
              rw [← e] at hx
              exact follow_tame (tame_kid ht i hi) (hck i hi) hx) hcl
            have hlen : ks.length ≤ cnt n := hle
            exact Tame.mk 6 0 ⟨#[]⟩ [] ks (by decide) (by omega) (by decide) (fun q hq => absurd hq (Nat.not_lt_zero q)) (fun i hi => hts _ (List.getElem_mem hi))
        · rw [if_neg hs] at h
          cases hn : num p with
          | none => rw [hn] at h; cases h
          | some i =>
            rw [hn] at h
            simp only at h
            split at h
            · rename_i hi
              exact follow_tame (tame_kid ht i hi) (hck i hi) h
            · cases h
      · rw [if_neg h6] at h
        cases h
/-- What parts led to, beside a variable that is written. -/
theorem told_put {S M B g : Nat} {wb : World} {bb : Bool} {r : Option J} {v d0 d1 d2 d3 d4 : Value} (hS : S ≤ g) (hM : g < M) (hB : B ≤ M) (h : Hid ((bb = true → ∃ y, r = some y ∧ NodeAt (fun z => z < S ∨ M ≤ z) wb y v) ∧ (bb = false → r = none))) :
    Hid ((bb = true → ∃ y, r = some y ∧ NodeAt (fun z => z < S ∨ (B ≤ z ∧ z ≠ g)) (putN wb g d0 d1 d2 d3 d4) y v) ∧ (bb = false → r = none)) := Lib.hid ⟨fun hbb => by
      obtain ⟨y, hy, hat⟩ := h.out.1 hbb
      refine ⟨y, hy, hat.keep (fun z hz _ => ⟨?_, putN_block wb g _ _ _ _ _ z (by rcases hz with hz | hz <;> omega)⟩)⟩
      rcases hz with hz | hz
      · exact Or.inl hz
      · exact Or.inr ⟨by omega, by omega⟩, h.out.2⟩
theorem told_new {S M B : Nat} {wb : World} {bb : Bool} {r : Option J} {v d0 d1 d2 d3 d4 : Value} (hB : B ≤ M) (h : Hid ((bb = true → ∃ y, r = some y ∧ NodeAt (fun z => z < S ∨ M ≤ z) wb y v) ∧ (bb = false → r = none))) :
    Hid ((bb = true → ∃ y, r = some y ∧ NodeAt (fun z => z < S ∨ (B ≤ z ∧ z ≠ wb.heap.size)) (wb.alloc (.cells #[d0, d1, d2, d3, d4] 25)) y v) ∧ (bb = false → r = none)) := Lib.hid ⟨fun hbb => by
      obtain ⟨y, hy, hat⟩ := h.out.1 hbb
      refine ⟨y, hy, hat.keep (fun z hz hl => ⟨?_, Below.heap_alloc wb _ z hl⟩)⟩
      rcases hz with hz | hz
      · exact Or.inl hz
      · exact Or.inr ⟨by omega, by omega⟩, h.out.2⟩
set_option maxHeartbeats 8000000 in
set_option maxRecDepth 100000 in
theorem get9 (n : J) (ht : Tame n) (hcn : cnt n ≤ 2000) (x : ByteArray) (w : World) (hE : EnvP w) (c0 c1 c2 c3 c4 : Value) (hN : NodeIn w n (.agg #[c0, c1, c2, c3, c4])) :
    Calls Tryd.prog 10 #[.agg #[c0, c1, c2, c3, c4], .string x] w (PointLeft n x w) := by
  obtain ⟨xk, xn, xt, xa, xl, xc, xb, xm, xd, rfl, rfl, rfl, rfl, rfl⟩ := in_forms hN
  obtain ⟨W, hW⟩ : ∃ W, ((w.alloc (.cells #[.int .i64 xk, .int .i64 xn, .string xt, .slice xa xl xc, .slice xb xm xd] 25)).alloc (.cells #[.int .i64 0, .int .i64 0, .string ⟨#[]⟩, .slice none 0 0, .slice none 0 0] 25)) = W := ⟨_, rfl⟩
  have hb0 : Below w.heap.size w W := by rw [← hW]; exact ((Below.refl _ w).alloc (Nat.le_refl _) _).alloc (by simp) _
  have hA : Bx w.heap.size (.int .i64 xk) (.int .i64 xn) (.string xt) (.slice xa xl xc) (.slice xb xm xd) W := by rw [← hW]; exact (Bx.made w _ _ _ _ _).alloc _
  have hR : Bx (w.heap.size + 1) (.int .i64 0) (.int .i64 0) (.string ⟨#[]⟩) (.slice none 0 0) (.slice none 0 0) W := by
    rw [← hW]
    have h9 := Bx.made (w.alloc (.cells #[.int .i64 xk, .int .i64 xn, .string xt, .slice xa xl xc, .slice xb xm xd] 25)) (.int .i64 0) (.int .i64 0) (.string ⟨#[]⟩) (.slice none 0 0) (.slice none 0 0)
    simpa using h9
  have hrt := cRight_any ht (node_below hb0 hN)
  have HB := Lib.hid hb0
  have HN := Lib.hid hN
  have HT := Lib.hid ht
  have HCN := Lib.hid hcn
  have HE := Lib.hid hE
  obtain ⟨G, hG⟩ : ∃ G, w.heap.size = G := ⟨_, rfl⟩
  rw [hG] at hA hR
  have HG := Lib.hid hG
  have HW := Lib.hid hW
  have HR := Lib.hid hR
  have HA := Lib.hid hA
  have p0 := hA.p0
  have p1 := hA.p1
  have p2 := hA.p2
  have p3 := hA.p3
  have p4 := hA.p4
  have hGl := hR.lt
  obtain ⟨b, hb⟩ : ∃ b, rightP 0 n = b := ⟨_, rfl⟩
  rw [hb] at hrt
  have HRT := Lib.hid hb
  clear hN hb0 hW hA hR ht hcn hb hE
  go_enter Tryd.func10, Tryd.ntmps10
  go_upto_region 1 with fail
  rw [HW.out]
  (try rw [hG])
  go_wp2_with fail
  refine hrt.mono ?_
  rintro e w1 ⟨rfl, hb1⟩
  have hR1 := HR.out.same (hb1.block _ hGl)
  have HR1 := Lib.hid hR1
  have HB1 := Lib.hid (HB.out.trans (hb1.mono HB.out.size))
  have HE1 : Hid (EnvP w1) := Lib.hid (HE.out.next HB1.out)
  have hA1 := HA.out.same (hb1.block _ HA.out.lt)
  have HA1 := Lib.hid hA1
  have hw : w.heap.size ≤ G + 1 := by rw [hG]; exact Nat.le_succ _
  have HGL : Hid (G + 1 < w1.heap.size) := Lib.hid hR1.lt
  have f0 := hR1.free 0
  have f1 := hR1.free 1
  have f2 := hR1.free 2
  have f3 := hR1.free 3
  have f4 := hR1.free 4
  have q0 := hR1.p0
  have q1 := hR1.p1
  have q2 := hR1.p2
  have q3 := hR1.p3
  have q4 := hR1.p4
  cases b
  · clear hb1 hR1 hA1 p0 p1 p2 p3 p4 hrt
    go_wp2_with fail
    refine bodyPost_ret (point_result rfl _ rfl rfl (HR1.out.setAll _ _ _ _ _)) rfl ?_
    exact left_nil (point_1 HRT.out) (putN_below HB1.out hw _ _ _ _ _)
  have hpt := pointer9 x w1 HE1.out
  obtain ⟨o, ho⟩ : ∃ o, pathOk x = o := ⟨_, rfl⟩
  rw [ho] at hpt
  have HP := Lib.hid ho
  cases o
  · clear ho hb1 hR1 hA1 p0 p1 p2 p3 p4 hrt
    go_wp2_with fail
    refine hpt.mono ?_
    rintro e w2 ⟨rfl, rfl⟩
    go_wp2_with fail
    refine bodyPost_ret (point_result rfl _ rfl rfl (HR1.out.setAll _ _ _ _ _)) rfl ?_
    exact left_nil (point_3 HRT.out (path_bad HP.out)) (putN_below HB1.out hw _ _ _ _ _)
  obtain ⟨l, hl, -, -, -, -⟩ := path_start ho
  have HL := Lib.hid hl
  obtain ⟨L, hL⟩ : ∃ L, l.length = L := ⟨_, rfl⟩
  have HPT : Hid (∀ w', Below w1.heap.size w1 w' → Calls Tryd.prog 22 #[.string x] w' fun e w2 => ∃ al cap, e = .returned (.slice al L cap) ∧ Hid (PartsIn w2 al cap l ∧ ∀ p ∈ l, p.size ≤ 1000) ∧ Below w'.heap.size w' w2) := Lib.hid (fun w' hw' => (parts9 x ho w' (HE1.out.next hw')).mono fun e w2 ⟨l', al, cap, h1, h2, h3, h4, h5⟩ => by
    rw [hl] at h1
    injection h1 with h1
    subst h1
    exact ⟨al, cap, by rw [h3, hL], Lib.hid ⟨h4, h2⟩, h5⟩)
  have HFO : Hid (∀ (w' : World) (al : Option Addr) (cap : Nat), Below w1.heap.size w1 w' → (PartsIn w' al cap l ∧ ∀ p ∈ l, p.size ≤ 1000) → Calls Tryd.prog 21 #[.agg #[.int .i64 xk, .int .i64 xn, .string xt, .slice xa xl xc, .slice xb xm xd], .slice al L cap] w' fun e w2 => ∃ k n0 t a3 n3 m3 a4 n4 m4 b, e = .returned (.tuple #[.agg #[.int .i64 k, .int .i64 n0, .string t, .slice a3 n3 m3, .slice a4 n4 m4], .bool b]) ∧ Below w'.heap.size w' w2 ∧ Hid ((b = true → ∃ y, followP num9 l n = some y ∧ NodeAt (fun z => z < w.heap.size ∨ w'.heap.size ≤ z) w2 y (.agg #[.int .i64 k, .int .i64 n0, .string t, .slice a3 n3 m3, .slice a4 n4 m4])) ∧ (b = false → followP num9 l n = none))) := Lib.hid (fun w' al cap hw' hp => by
    have hbd : Below w.heap.size w w' := HB1.out.trans (hw'.mono HB1.out.size)
    rw [← hL]
    refine (cfollow_any l (fun g => g < w.heap.size) n 0 (right_of HRT.out) HT.out HCN.out w' _ _ _ _ _ al cap ((node_at HN.out).keep (fun g hg _ => ⟨hg, hbd.block g hg⟩)) hp.1.keys hp.2 (HE.out.next hbd) hp.1.few hp.1.room hp.1.top).mono ?_
    rintro e w2 ⟨h1, h2⟩
    cases hr : followP num9 l n with
    | none =>
      rw [hr] at h2
      exact ⟨_, _, _, _, _, _, _, _, _, _, h2, h1, Lib.hid ⟨fun h => (by cases h), fun _ => rfl⟩⟩
    | some y =>
      rw [hr] at h2
      obtain ⟨k, m, t, a3, n3, m3, a4, n4, m4, e2, hx⟩ := h2
      exact ⟨_, _, _, _, _, _, _, _, _, _, e2, h1, Lib.hid ⟨fun _ => ⟨y, rfl, hx⟩, fun h => (by cases h)⟩⟩)
  have v0 := hA1.p0
  have v1 := hA1.p1
  have v2 := hA1.p2
  have v3 := hA1.p3
  have v4 := hA1.p4
  clear ho hl hL hb1 hR1 hA1 p0 p1 p2 p3 p4 hrt q0 q1 q2 q3 q4 f0 f1 f2 f3 f4
  go_wp2_with fail
  refine hpt.mono ?_
  rintro e w2 ⟨rfl, rfl⟩
  clear hpt
  have hSof : Hid (∀ w', Below w1.heap.size w1 w' → (Below w1.heap.size w1 w' ∧ w'.cell? ⟨G, 0, none⟩ = some (.int .i64 xk) ∧ w'.cell? ⟨G, 1, none⟩ = some (.int .i64 xn) ∧ w'.cell? ⟨G, 2, none⟩ = some (.string xt) ∧ w'.cell? ⟨G, 3, none⟩ = some (.slice xa xl xc) ∧ w'.cell? ⟨G, 4, none⟩ = some (.slice xb xm xd))) := Lib.hid (fun w' h => ⟨h, (h.cell (p := ⟨G, 0, none⟩) (World.block_lt_of_cell? w1 _ v0)).trans v0, (h.cell (p := ⟨G, 1, none⟩) (World.block_lt_of_cell? w1 _ v1)).trans v1, (h.cell (p := ⟨G, 2, none⟩) (World.block_lt_of_cell? w1 _ v2)).trans v2, (h.cell (p := ⟨G, 3, none⟩) (World.block_lt_of_cell? w1 _ v3)).trans v3, (h.cell (p := ⟨G, 4, none⟩) (World.block_lt_of_cell? w1 _ v4)).trans v4⟩)
  have HS0 : Hid (Below w1.heap.size w1 w1.drew ∧ w1.drew.cell? ⟨G, 0, none⟩ = some (.int .i64 xk) ∧ w1.drew.cell? ⟨G, 1, none⟩ = some (.int .i64 xn) ∧ w1.drew.cell? ⟨G, 2, none⟩ = some (.string xt) ∧ w1.drew.cell? ⟨G, 3, none⟩ = some (.slice xa xl xc) ∧ w1.drew.cell? ⟨G, 4, none⟩ = some (.slice xb xm xd)) := Lib.hid (hSof.out _ ((Below.refl _ w1).drew))
  have HS1 : Hid (∀ w2 o, (Below w1.heap.size w1 w2 ∧ w2.cell? ⟨G, 0, none⟩ = some (.int .i64 xk) ∧ w2.cell? ⟨G, 1, none⟩ = some (.int .i64 xn) ∧ w2.cell? ⟨G, 2, none⟩ = some (.string xt) ∧ w2.cell? ⟨G, 3, none⟩ = some (.slice xa xl xc) ∧ w2.cell? ⟨G, 4, none⟩ = some (.slice xb xm xd)) → (Below w1.heap.size w1 (World.alloc w2 o) ∧ (World.alloc w2 o).cell? ⟨G, 0, none⟩ = some (.int .i64 xk) ∧ (World.alloc w2 o).cell? ⟨G, 1, none⟩ = some (.int .i64 xn) ∧ (World.alloc w2 o).cell? ⟨G, 2, none⟩ = some (.string xt) ∧ (World.alloc w2 o).cell? ⟨G, 3, none⟩ = some (.slice xa xl xc) ∧ (World.alloc w2 o).cell? ⟨G, 4, none⟩ = some (.slice xb xm xd))) := Lib.hid (fun w2 o h => hSof.out _ (h.1.alloc h.1.size _))
  have HS4 : Hid (∀ o, (Below w1.heap.size w1 (World.drew (World.alloc w1 o)) ∧ (World.drew (World.alloc w1 o)).cell? ⟨G, 0, none⟩ = some (.int .i64 xk) ∧ (World.drew (World.alloc w1 o)).cell? ⟨G, 1, none⟩ = some (.int .i64 xn) ∧ (World.drew (World.alloc w1 o)).cell? ⟨G, 2, none⟩ = some (.string xt) ∧ (World.drew (World.alloc w1 o)).cell? ⟨G, 3, none⟩ = some (.slice xa xl xc) ∧ (World.drew (World.alloc w1 o)).cell? ⟨G, 4, none⟩ = some (.slice xb xm xd))) := Lib.hid (fun o => hSof.out _ (((Below.refl _ w1).alloc (Nat.le_refl _) _).drew))
  have HS2 : Hid (∀ w2 w3, Below w2.heap.size w2 w3 → (Below w1.heap.size w1 w2 ∧ w2.cell? ⟨G, 0, none⟩ = some (.int .i64 xk) ∧ w2.cell? ⟨G, 1, none⟩ = some (.int .i64 xn) ∧ w2.cell? ⟨G, 2, none⟩ = some (.string xt) ∧ w2.cell? ⟨G, 3, none⟩ = some (.slice xa xl xc) ∧ w2.cell? ⟨G, 4, none⟩ = some (.slice xb xm xd)) → (Below w1.heap.size w1 w3 ∧ w3.cell? ⟨G, 0, none⟩ = some (.int .i64 xk) ∧ w3.cell? ⟨G, 1, none⟩ = some (.int .i64 xn) ∧ w3.cell? ⟨G, 2, none⟩ = some (.string xt) ∧ w3.cell? ⟨G, 3, none⟩ = some (.slice xa xl xc) ∧ w3.cell? ⟨G, 4, none⟩ = some (.slice xb xm xd))) := Lib.hid (fun w2 w3 hb h => hSof.out _ (h.1.trans (hb.mono h.1.size)))
  have HS3 : Hid (∀ (w2 : World) (N : Nat) (d0 d1 d2 d3 d4 : Value), (Below w1.heap.size w1 w2 ∧ w2.cell? ⟨G, 0, none⟩ = some (.int .i64 xk) ∧ w2.cell? ⟨G, 1, none⟩ = some (.int .i64 xn) ∧ w2.cell? ⟨G, 2, none⟩ = some (.string xt) ∧ w2.cell? ⟨G, 3, none⟩ = some (.slice xa xl xc) ∧ w2.cell? ⟨G, 4, none⟩ = some (.slice xb xm xd)) → w1.heap.size ≤ N → (Below w1.heap.size w1 (((((w2.setCell ⟨N, 0, none⟩ d0).setCell ⟨N, 1, none⟩ d1).setCell ⟨N, 2, none⟩ d2).setCell ⟨N, 3, none⟩ d3).setCell ⟨N, 4, none⟩ d4) ∧ (((((w2.setCell ⟨N, 0, none⟩ d0).setCell ⟨N, 1, none⟩ d1).setCell ⟨N, 2, none⟩ d2).setCell ⟨N, 3, none⟩ d3).setCell ⟨N, 4, none⟩ d4).cell? ⟨G, 0, none⟩ = some (.int .i64 xk) ∧ (((((w2.setCell ⟨N, 0, none⟩ d0).setCell ⟨N, 1, none⟩ d1).setCell ⟨N, 2, none⟩ d2).setCell ⟨N, 3, none⟩ d3).setCell ⟨N, 4, none⟩ d4).cell? ⟨G, 1, none⟩ = some (.int .i64 xn) ∧ (((((w2.setCell ⟨N, 0, none⟩ d0).setCell ⟨N, 1, none⟩ d1).setCell ⟨N, 2, none⟩ d2).setCell ⟨N, 3, none⟩ d3).setCell ⟨N, 4, none⟩ d4).cell? ⟨G, 2, none⟩ = some (.string xt) ∧ (((((w2.setCell ⟨N, 0, none⟩ d0).setCell ⟨N, 1, none⟩ d1).setCell ⟨N, 2, none⟩ d2).setCell ⟨N, 3, none⟩ d3).setCell ⟨N, 4, none⟩ d4).cell? ⟨G, 3, none⟩ = some (.slice xa xl xc) ∧ (((((w2.setCell ⟨N, 0, none⟩ d0).setCell ⟨N, 1, none⟩ d1).setCell ⟨N, 2, none⟩ d2).setCell ⟨N, 3, none⟩ d3).setCell ⟨N, 4, none⟩ d4).cell? ⟨G, 4, none⟩ = some (.slice xb xm xd))) := Lib.hid (fun w2 N d0 d1 d2 d3 d4 h hN => hSof.out _ (set5_below h.1 hN _ _ _ _ _))
  have HW0 : Hid (Below w1.heap.size w1 w1.drew) := Lib.hid ((Below.refl _ w1).drew)
  have HW4 : Hid (Below w1.heap.size w1 (World.drew (World.alloc w1 (.cells #[.int .i64 0, .int .i64 0, .string { data := #[] }, .slice none 0 0, .slice none 0 0] 25)))) := Lib.hid (((Below.refl _ w1).alloc (Nat.le_refl _) _).drew)
  clear v0 v1 v2 v3 v4
  go_upto_region 5 with fail
  go_cut [6, 7] from 16 (fun v b wx => ∃ (g : Nat) (k5 n5 : Int) (t5 : ByteArray) (a5 : Option Addr) (l5 m5 : Nat) (b5 : Option Addr) (o5 q5 : Nat) (bb : Bool), v = .pointer (some ⟨g, 0, none⟩) ∧ b = .bool bb ∧ Below w1.heap.size w1 wx ∧ w1.heap.size ≤ g ∧ Bx g (.int .i64 k5) (.int .i64 n5) (.string t5) (.slice a5 l5 m5) (.slice b5 o5 q5) wx ∧ Hid ((bb = true → ∃ y, followP num9 l n = some y ∧ NodeAt (fun z => z < w.heap.size ∨ (w1.heap.size ≤ z ∧ z ≠ g)) wx y (.agg #[.int .i64 k5, .int .i64 n5, .string t5, .slice a5 l5 m5, .slice b5 o5 q5])) ∧ (bb = false → followP num9 l n = none)))
  case first =>
    go_region_held3 (fun w' => Below w1.heap.size w1 w' ∧ w'.cell? ⟨G, 0, none⟩ = some (.int .i64 xk) ∧ w'.cell? ⟨G, 1, none⟩ = some (.int .i64 xn) ∧ w'.cell? ⟨G, 2, none⟩ = some (.string xt) ∧ w'.cell? ⟨G, 3, none⟩ = some (.slice xa xl xc) ∧ w'.cell? ⟨G, 4, none⟩ = some (.slice xb xm xd))
      (first | with_reducible exact HS0.out | with_reducible exact HS4.out _ | with_reducible exact HS2.out _ _ (by assumption) (HS4.out _) | with_reducible exact HS2.out _ _ (by assumption) (by assumption) | with_reducible exact HS2.out _ _ (by assumption) HS0.out | with_reducible exact HS2.out _ _ (by assumption) (HS1.out _ _ (by assumption)) | with_reducible exact HS1.out _ _ (by assumption) | with_reducible exact HS1.out _ _ HS0.out | with_reducible exact HS3.out _ _ _ _ _ _ _ (by assumption) (by assumption))
      (first
        | (with_reducible refine (HPT.out (w1.drew) HW0.out).mono ?_; rintro e wa ⟨al, cap, rfl, hpi, hba⟩; have HWA : Hid (Below w1.heap.size w1 wa) := Lib.hid (HW0.out.trans (hba.mono HW0.out.size)); have hla : w1.heap.size ≤ wa.heap.size := HWA.out.size; have hSa := hSof.out _ HWA.out)
        | (with_reducible refine (HPT.out (World.drew (World.alloc w1 (.cells #[.int .i64 0, .int .i64 0, .string { data := #[] }, .slice none 0 0, .slice none 0 0] 25))) HW4.out).mono ?_; rintro e wa ⟨al, cap, rfl, hpi, hba⟩; have HWA : Hid (Below w1.heap.size w1 wa) := Lib.hid (HW4.out.trans (hba.mono HW4.out.size)); have hla : w1.heap.size ≤ wa.heap.size := HWA.out.size; have hlb : w1.heap.size ≤ w1.heap.size := Nat.le_refl _; have hSa := hSof.out _ HWA.out; have hbx : Bx w1.heap.size (.int .i64 0) (.int .i64 0) (.string { data := #[] }) (.slice none 0 0) (.slice none 0 0) wa := ((newZ_bx w1).drew).same (hba.block _ (by simp)))
        | (with_reducible refine (HFO.out (World.alloc wa (.cells #[.int .i64 0, .int .i64 0, .string { data := #[] }, .slice none 0 0, .slice none 0 0] 25)) al cap (HWA.out.alloc hla _) ⟨hpi.out.1.below ((Below.refl _ wa).alloc (Nat.le_refl _) _), hpi.out.2⟩).mono ?_; rintro e wb ⟨k5, n5, t5, a5, l5, m5, b5, o5, q5, bb, rfl, hbb, hat⟩; have HWB : Hid (Below w1.heap.size w1 wb) := Lib.hid ((HWA.out.alloc hla _).trans (hbb.mono (HWA.out.alloc hla _).size)); have hSb := hSof.out _ HWB.out; have hbx2 : Bx wa.heap.size (.int .i64 0) (.int .i64 0) (.string { data := #[] }) (.slice none 0 0) (.slice none 0 0) wb := (newZ_bx wa).same (hbb.block _ (by simp)); have u0 := hbx2.p0; have u1 := hbx2.p1; have u2 := hbx2.p2; have u3 := hbx2.p3; have u4 := hbx2.p4; have k0 := hbx2.free 0; have k1 := hbx2.free 1; have k2 := hbx2.free 2; have k3 := hbx2.free 3; have k4 := hbx2.free 4)
        | (with_reducible refine (HFO.out wa al cap HWA.out hpi.out).mono ?_; rintro e wb ⟨k5, n5, t5, a5, l5, m5, b5, o5, q5, bb, rfl, hbb, hat⟩; have HWB : Hid (Below w1.heap.size w1 wb) := Lib.hid (HWA.out.trans (hbb.mono hla)); have hSb := hSof.out _ HWB.out; have hbx2 : Bx w1.heap.size (.int .i64 0) (.int .i64 0) (.string { data := #[] }) (.slice none 0 0) (.slice none 0 0) wb := hbx.same (hbb.block _ hbx.lt); have u0 := hbx2.p0; have u1 := hbx2.p1; have u2 := hbx2.p2; have u3 := hbx2.p3; have u4 := hbx2.p4; have k0 := hbx2.free 0; have k1 := hbx2.free 1; have k2 := hbx2.free 2; have k3 := hbx2.free 3; have k4 := hbx2.free 4)
        | (with_reducible refine (HFO.out wa al cap HWA.out hpi.out).mono ?_; rintro e wb ⟨k5, n5, t5, a5, l5, m5, b5, o5, q5, bb, rfl, hbb, hat⟩; have HWB : Hid (Below w1.heap.size w1 wb) := Lib.hid (HWA.out.trans (hbb.mono hla)); have hSb := hSof.out _ HWB.out)
       )
    all_goals
      go_wp2_with fail
      go_meet
      first
      | exact ⟨_, _, _, _, _, _, _, _, _, _, _, rfl, rfl, HWB.out.alloc HWB.out.size _, HWB.out.size, Bx.made wb _ _ _ _ _, told_new hla hat⟩
      | exact ⟨_, _, _, _, _, _, _, _, _, _, _, rfl, rfl, set5_below HWB.out (Nat.le_refl _) _ _ _ _ _, Nat.le_refl _, hbx2.setAll _ _ _ _ _, told_put HB1.out.size hbx.lt hla hat⟩
      | exact ⟨_, _, _, _, _, _, _, _, _, _, _, rfl, rfl, set5_below HWB.out hla _ _ _ _ _, hla, hbx2.setAll _ _ _ _ _, told_put (Nat.le_trans HB1.out.size hla) (by simp) (by simp; omega) hat⟩
  case rest =>
    obtain ⟨g, k5, n5, t5, a5, l5, m5, b5, o5, q5, bb, rfl, rfl, hbw, hgw, hbx, HAT⟩ := hcut
    have z0 := hbx.p0
    have z1 := hbx.p1
    have z2 := hbx.p2
    have z3 := hbx.p3
    have z4 := hbx.p4
    have hR2 := HR1.out.same (hbw.block _ HR1.out.lt)
    have HR2 := Lib.hid hR2
    have HB2 : Hid (Below w.heap.size w wc) := Lib.hid (HB1.out.trans (hbw.mono HB1.out.size))
    cases bb
    · have f0 := hR2.free 0
      have f1 := hR2.free 1
      have f2 := hR2.free 2
      have f3 := hR2.free 3
      have f4 := hR2.free 4
      have q0 := hR2.p0
      have q1 := hR2.p1
      have q2 := hR2.p2
      have q3 := hR2.p3
      have q4 := hR2.p4
      have HF := HAT.out.2 rfl
      have HPN := Lib.hid (point_7 HRT.out HL.out HF)
      clear HF hbw hgw hbx hR2 HAT
      go_wp2_with fail
      refine bodyPost_ret (point_result rfl _ rfl rfl (HR2.out.setAll _ _ _ _ _)) rfl ?_
      exact left_nil HPN.out (putN_below HB2.out hw _ _ _ _ _)
    · obtain ⟨y, hy, hat⟩ := HAT.out.1 rfl
      have HPN := Lib.hid (point_0 HRT.out HL.out hy)
      have hfr := fresh9 y (follow_tame HT.out HCN.out hy) wc _ _ _ _ _ (in_of_at hat)
      have HLT : Hid (G + 1 < wc.heap.size) := Lib.hid hR2.lt
      clear hbw hgw hbx hR2 HAT hat hy
      go_wp2_with fail
      refine hfr.mono ?_
      rintro e w3 ⟨d0, d1, d2, d3, d4, rfl, hin, hb3⟩
      obtain ⟨yk, yn, yt, ya, yl, yc, yb, ym, yd, rfl, rfl, rfl, rfl, rfl⟩ := node_forms hin
      have hR3 := HR2.out.same (hb3.block _ HR2.out.lt)
      have HR3 := Lib.hid hR3
      have HB3 := Lib.hid (HB2.out.trans (hb3.mono HB2.out.size))
      have HIN := Lib.hid hin
      have f0 := hR3.free 0
      have f1 := hR3.free 1
      have f2 := hR3.free 2
      have f3 := hR3.free 3
      have f4 := hR3.free 4
      have q0 := hR3.p0
      have q1 := hR3.p1
      have q2 := hR3.p2
      have q3 := hR3.p3
      have q4 := hR3.p4
      clear hb3 hR3 hin hfr z0 z1 z2 z3 z4
      go_wp2_with fail
      refine bodyPost_ret (point_result rfl _ rfl rfl (HR3.out.setAll _ _ _ _ _)) rfl ?_
      unfold PointLeft
      rw [HPN.out]
      exact ⟨_, _, _, _, _, rfl, in_of_at (HIN.out.keep (P' := fun _ => True) (fun q hq _ => ⟨trivial, putN_block _ (G + 1) _ _ _ _ _ q (by have : wc.heap.size ≤ q := hq; have := HLT.out; omega)⟩)), putN_below HB3.out hw _ _ _ _ _⟩
end Go.Proofs.YtoofcclcimkipaaDoor.J9
