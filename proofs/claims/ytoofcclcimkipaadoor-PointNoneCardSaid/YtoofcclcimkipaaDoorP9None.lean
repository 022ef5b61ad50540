/-
  The law PointNone returns true, of any two numbers. Condition: the library's tables and errors read as its text lays them.
-/
import Derived.Test.YtoofcclcimkipaaDoorP9Gets
import Derived.Test.YtoofcclcimkipaaDoorP9Nums
namespace Go.Proofs.YtoofcclcimkipaaDoor.J9
open Go Go.RowKit Go.Joins Kit J7 Nds J8

def lB : ByteArray := ⟨#[108]⟩
def xB9 : ByteArray := ⟨#[120]⟩
def mB9 : ByteArray := ⟨#[109]⟩
def zzB : ByteArray := ⟨#[48, 48]⟩
def ddB (p r : Nat) : ByteArray := ⟨[U8.b8 (53 + (p : Int)), U8.b8 (48 + (r : Int))].toArray⟩
def nnJ (k : Nat) : J := objK [lB] [arrK (numsJ k)]
theorem nn_right {k : Nat} (hk : k ≤ 49) : RightIn 0 (nnJ k) := right_objK (by decide) rfl (keys_one (by first | rfl | decide)) (fun x hx => by
  rw [mem_one hx]
  exact right_arrK (by decide) (nums_mem (fun i hi => right_num (by omega) (by omega))))
theorem nn_tame {k : Nat} (hk : k ≤ 49) : Tame (nnJ k) := tame_objK (by decide) (fun x hx => by rw [mem_one hx]; decide) (by show 1 ≤ 65536; decide) (fun x hx => by
  rw [mem_one hx]
  exact tame_arrK (by rw [nums_len]; omega) (nums_mem (fun i _ => tame_num _)))
theorem nn_cnt {k : Nat} (hk : k ≤ 49) : cnt (nnJ k) ≤ 2000 := by
  unfold nnJ objK arrK
  simp only [cnt, cnts, cnts_nums]
  omega
theorem nn_found (k : Nat) : J8.Found (nnJ k) lB 0 := ⟨rfl, by show 0 < 1; decide, by show 0 < 1; decide, rfl, fun j h => absurd h (Nat.not_lt_zero j)⟩
theorem nn_on (k : Nat) (l : List ByteArray) : followP num9 (lB :: l) (nnJ k) = followP num9 l (arrK (numsJ k)) := follow_key (nn_found k) l
theorem nn_nokey (k : Nat) {p : ByteArray} (h : p ≠ lB) (l : List ByteArray) : followP num9 (p :: l) (nnJ k) = none := follow_nokey rfl (fun i hf => by
  have h1 := hf.hk
  have h2 : i < 1 := h1
  have h3 : i = 0 := by omega
  subst h3
  exact h hf.eq.symm) l
theorem dd_bytes {p r : Nat} (hp : p ≤ 4) (hr : r ≤ 9) : (ddB p r).data.toList = Lib.decDigits (50 + 10 * p + r) := by
  rw [Lib.decDigits, dif_neg (by omega), Lib.decDigits_one (by omega)]
  show [U8.b8 (53 + (p : Int)), U8.b8 (48 + (r : Int))] = _
  unfold U8.b8
  rw [show (53 + (p : Int)).toNat = 48 + (50 + 10 * p + r) / 10 by omega, show (48 + (r : Int)).toNat = 48 + (50 + 10 * p + r) % 10 by omega]
  rfl
theorem dd_num {p r : Nat} (hp : p ≤ 4) (hr : r ≤ 9) : num9 (ddB p r) = some (50 + 10 * p + r) := by
  unfold num9
  rw [dd_bytes hp hr]
  exact Tx.num_digits (by omega)
theorem dd_star (p r : Nat) : ddB p r ≠ starB := fun e => by
  have h := congrArg (fun x : ByteArray => x.data.toList.length) e
  exact absurd (show 2 = 1 from h) (by decide)
theorem dd_esc {p r : Nat} (hp : p ≤ 4) (hr : r ≤ 9) : escL (ddB p r).data.toList = (ddB p r).data.toList := by
  rw [dd_bytes hp hr]
  refine esc_plain _ (fun c hc => ?_)
  have h := digits_dig (50 + 10 * p + r + 1) _ (Nat.lt_succ_self _) c hc
  refine ⟨fun e => ?_, fun e => ?_⟩
  · rw [e] at h
    exact absurd h.2 (by decide)
  · rw [e] at h
    exact absurd h.1 (by decide)
def atB (p r : Nat) : ByteArray := ⟨[47, 108, 47, U8.b8 (53 + (p : Int)), U8.b8 (48 + (r : Int))].toArray⟩
theorem at_path {p r : Nat} (hp : p ≤ 4) (hr : r ≤ 9) : (atB p r).data.toList = pathL [lB, ddB p r] := by
  rw [pathL_cons, pathL_cons, dd_esc hp hr]
  rfl
section
variable {k : Nat} (hk : k ≤ 49)
include hk
theorem nn_none {x : ByteArray} {ls : List ByteArray} (hx : x.data.toList = pathL ls) (hz : x.size ≤ 1000) (hf : followP num9 ls (nnJ k) = none) : pointP (nnJ k) x = (.mk 0 0 ⟨#[]⟩ [] [], 7) := point_7 (rightP_yes (nn_right hk)) (partsP_path hx hz) hf
theorem nn_form {x : ByteArray} (hx : partsP x = none) : pointP (nnJ k) x = (.mk 0 0 ⟨#[]⟩ [] [], 3) := point_3 (rightP_yes (nn_right hk)) hx
theorem nn_e {p r : Nat} (hp : p ≤ 4) (hr : r ≤ 9) : pointP (nnJ k) (atB p r) = (.mk 0 0 ⟨#[]⟩ [] [], 7) := nn_none hk (at_path hp hr) (by show 5 ≤ 1000; decide) (by
  rw [nn_on]
  refine follow_n2 rfl (dd_star p r) (dd_num hp hr) ?_
  show ¬ _ < (numsJ k).length
  rw [nums_len]
  omega)
theorem nn_f : pointP (nnJ k) ⟨#[47, 109]⟩ = (.mk 0 0 ⟨#[]⟩ [] [], 7) := nn_none hk (ls := [mB9]) rfl (by decide) (nn_nokey k (by decide) [])
theorem nn_g : pointP (nnJ k) ⟨#[47, 108, 47, 48, 47, 120]⟩ = (.mk 0 0 ⟨#[]⟩ [] [], 7) := nn_none hk (ls := [lB, zB, xB9]) rfl (by decide) (by
  rw [nn_on]
  by_cases h0 : 0 < k
  · rw [follow_n1 (i := 0) rfl (by decide) num_zero (by show 0 < (numsJ k).length; rw [nums_len]; exact h0)]
    exact (congrArg (fun x => followP num9 [xB9] x) (nums_get h0)).trans (follow_leaf0 (by show ¬ (4 : Int) = 7; decide) (by show ¬ (4 : Int) = 6; decide) [])
  · refine follow_n2 rfl (by decide) num_zero ?_
    show ¬ 0 < (numsJ k).length
    rw [nums_len]
    exact h0)
theorem nn_h : pointP (nnJ k) ⟨#[108]⟩ = (.mk 0 0 ⟨#[]⟩ [] [], 3) := nn_form hk (by rfl)
theorem nn_i : pointP (nnJ k) ⟨#[47, 108, 126, 50]⟩ = (.mk 0 0 ⟨#[]⟩ [] [], 3) := nn_form hk (by rfl)
theorem nn_j : pointP (nnJ k) ⟨#[47, 108, 47, 48, 48]⟩ = (.mk 0 0 ⟨#[]⟩ [] [], 7) := nn_none hk (ls := [lB, zzB]) rfl (by decide) (by
  rw [nn_on]
  exact follow_n0 rfl (by decide) (by rfl))
theorem nn_m : pointP (nnJ k) ⟨#[47, 42]⟩ = (.mk 0 0 ⟨#[]⟩ [] [], 7) := nn_none hk (ls := [starB]) rfl (by decide) (nn_nokey k (by decide) [])
end
theorem at_lit (d e : Int) (d0 : 0 ≤ d) (d1 : d < 256) (e0 : 0 ≤ e) (e1 : e < 256) (W : World) :
    (convert 36 9 (.slice (some ⟨W.heap.size, 0, none⟩) 5 5)).run Tryd.prog (W.alloc (Obj.cells #[Value.int IntKind.u8 47, Value.int IntKind.u8 108, Value.int IntKind.u8 47, Value.int IntKind.u8 d, Value.int IntKind.u8 e] 5)) = .ok (.string ⟨[47, 108, 47, U8.b8 d, U8.b8 e].toArray⟩) (W.alloc (Obj.cells #[Value.int IntKind.u8 47, Value.int IntKind.u8 108, Value.int IntKind.u8 47, Value.int IntKind.u8 d, Value.int IntKind.u8 e] 5)) :=
  U8.run_lit [47, 108, 47, U8.b8 d, U8.b8 e] #[Value.int IntKind.u8 47, Value.int IntKind.u8 108, Value.int IntKind.u8 47, Value.int IntKind.u8 d, Value.int IntKind.u8 e] W 5 (by simp [Lib.byteCells, U8.b8_toNat d0 d1, U8.b8_toNat e0 e1])

set_option maxHeartbeats 16000000 in
set_option maxRecDepth 100000 in
theorem pointNone_walk (n more : Int) (n0 : 0 ≤ n) (n1 : n ≤ 255) (m0 : 0 ≤ more) (_m1 : more ≤ 255) (w : World) (hE : EnvP w) :
    Calls Tryd.prog 6 #[.int .u8 n, .int .u8 more] w fun e w' => e = .returned (.bool true) ∧ Below w.heap.size w w' := by
  obtain ⟨k, hk⟩ : ∃ k : Nat, n % 50 = (k : Int) := ⟨(n % 50).toNat, by omega⟩
  obtain ⟨p, hp⟩ : ∃ p : Nat, more % 5 = (p : Int) := ⟨(more % 5).toNat, by omega⟩
  obtain ⟨r, hr⟩ : ∃ r : Nat, more % 10 = (r : Int) := ⟨(more % 10).toNat, by omega⟩
  have hk9 : k ≤ 49 := by omega
  have hp4 : p ≤ 4 := by omega
  have hr9 : r ≤ 9 := by omega
  have er : n.tmod 50 = (k : Int) := by rw [IntWalk.rem_in _ _ n0]; exact hk
  have ep : more.tmod 5 = (p : Int) := by rw [IntWalk.rem_in _ _ m0]; exact hp
  have ew : more.tmod 10 = (r : Int) := by rw [IntWalk.rem_in _ _ m0]; exact hr
  have gk : (k : Int) ≤ 49 := by omega
  have gp : (p : Int) ≤ 4 := by omega
  have gr : (r : Int) ≤ 9 := by omega
  have HK9 := Lib.hid hk9
  have HP0 := Lib.hid (nn_e hk9 hp4 hr9)
  have HP1 := Lib.hid (nn_f hk9)
  have HP2 := Lib.hid (nn_g hk9)
  have HP3 := Lib.hid (nn_h hk9)
  have HP4 := Lib.hid (nn_i hk9)
  have HP5 := Lib.hid (nn_j hk9)
  have HP6 := Lib.hid (nn_m hk9)
  have HT := Lib.hid (nn_tame hk9)
  have HCN := Lib.hid (nn_cnt hk9)
  have HE0 := Lib.hid hE
  have hlit := fun W : World => at_lit (53 + (p : Int)) (48 + (r : Int)) (by omega) (by omega) (by omega) (by omega) W
  have HLIT := Lib.hid hlit
  obtain ⟨W, hW, hbW, hsW, hbx⟩ := bx_later w (.int .i64 6) (.int .i64 0) (.string ⟨#[]⟩) (.slice none 0 0) (.slice none 0 0)
  have hbx0 := hbx W (Below.refl _ _)
  have HW := Lib.hid hW
  obtain ⟨G, hG⟩ : ∃ G, w.heap.size = G := ⟨_, rfl⟩
  have hb0 : Below G w W := by rw [← hG]; exact hbW
  rw [hG] at hbx0
  have HG := Lib.hid hG
  clear hW hbW hsW hbx hE hk9 hp4 hr9 hk hp hr hG hlit
  go_enter Tryd.func6, Tryd.ntmps6
  go_upto_region 3 with fail
  rw [HW.out]
  (try rw [HG.out])
  go_wp2_with fail
  go_loopg [7] k (fun m i wr => ∃ (q : Nat) (v : Value), m = k - q ∧ q ≤ k ∧ i = .int .i64 q ∧ Bx G (.int .i64 6) (.int .i64 0) (.string ⟨#[]⟩) (.slice none 0 0) v wr ∧ KidsR (G + 1) v (numsJ q) wr ∧ Below G w wr)
  case atStart => exact ⟨0, _, rfl, Nat.zero_le _, rfl, hbx0, KidsR.new _ _, hb0⟩
  case round =>
    clear hbx0 hb0
    obtain ⟨q, v, rfl, hq, rfl, hbx, hkd, hb⟩ := hrel
    by_cases hlt : q < k
    · have g1 : (q : Int) < (k : Int) := by omega
      have hBs : G + 1 ≤ wr.heap.size := hbx.lt
      have l4 : wr.drew.cell? ⟨G, 4, none⟩ = some v := hbx.p4
      go_upto_region 6 with fail
      refine wp_region_any (by kernel_rfl) ?_
      try (change wpAny _ _ _ _ _ _ _ (World.drew _))
      refine wpAny_take (i := 0) (v := ?_) rfl (by kernel_rfl) (by kernel_rfl) (by kernel_rfl) (fun _ _ _ h => h) (Or.inl ⟨by rfl, ?_⟩) ?_
      rotate_left 1
      · (intro w; go_simp) <;> with_reducible rfl
      refine wpAny_take (i := 2) (v := ?_) rfl (by kernel_rfl) (by kernel_rfl) (by kernel_rfl) (fun _ _ _ h => h) (Or.inl ⟨by rfl, ?_⟩) ?_
      rotate_left 1
      · (intro w; go_simp) <;> with_reducible rfl
      refine wpAny_ready (rs := [1, 3]) (by kernel_rfl) (by simp) ?_
      refine AllReady.cons rfl (fun K hK => ?_) (AllReady.cons rfl (fun K hK => ?_) AllReady.nil)
      · go_simp
        refine hK _ _ ?_
        clear hK K
        refine wpAny_ready (rs := [3]) (by kernel_rfl) (by simp) ?_
        refine AllReady.cons rfl (fun K hK => ?_) AllReady.nil
        go_simp
        go_wp2_with fail
        refine (num9c (q : Int) _).mono ?_
        rintro e w4 ⟨rfl, hb4'⟩
        have hb4 : Below wr.heap.size wr w4 := ((Below.refl _ wr).drew).trans hb4'
        have hbx4 := hbx.same (hb4.block _ hbx.lt)
        have hkd4 : KidsR (G + 1) v (numsJ q) w4 := KidsR.same hkd (fun g _ hl => hb4.block g hl)
        have hb04 : Below G w w4 := hb.trans (hb4.mono (Nat.le_of_lt hbx.lt))
        have hBs4 : G + 1 ≤ w4.heap.size := hbx4.lt
        have m4 := hbx4.p4
        have m5 : (w4.alloc (Obj.cells #[.int .i64 4, .int .i64 (q : Int), .string { data := #[] }, .slice none 0 0, .slice none 0 0] 25)).cell? ⟨G, 4, none⟩ = some v := (hbx4.alloc _).p4
        go_wp2_with fail
        refine wpAny_ready (rs := [4]) (by kernel_rfl) (by simp) ?_
        refine AllReady.cons rfl (fun K hK => ?_) AllReady.nil
        go_simp
        refine hK _ _ ?_
        clear hK K
        refine wpAny_ready (rs := [5]) (by kernel_rfl) (by simp) ?_
        refine AllReady.cons rfl (fun K hK => ?_) AllReady.nil
        refine KidsR.step rfl (.tmp 34) (.tmp 37) rfl (G + 1) _ v (numsJ q) (KidsR.same hkd4 (fun g _ hl => Below.heap_alloc w4 _ g hl)) (numJ (q : Int)) _ _ _ _ _ w4.heap.size (num_new _ _ _) hBs4 (fun g hg => (KidsR.lt hkd4 hg).2) w4.heap.size _ (0, 0) (Kit.fresh_block w4 _ _) (by first | rfl | simp [Act.eval, Act.put]) (by first | rfl | simp [Act.eval, Act.put]) (by rw [nums_len]; omega) (by simp; omega) ?_
        intro g5 cap5 w5 hkd5 hgr5 hat5
        have hold5 : ∀ g, g < w4.heap.size → v.ownBlock ≠ some g → w5.heap[g]? = w4.heap[g]? := fun g hg hn => (hgr5.block g (by simp; omega) (fun e => hn e.symm)).trans (Below.heap_alloc w4 _ g hg)
        have hbx5 := hbx4.same (hold5 G hbx4.lt (fun e => by have := (KidsR.lt hkd4 e).1; omega))
        have hb05 : Below G w w5 := ⟨hgr5.os.trans hb04.os, hgr5.tape.trans hb04.tape, hgr5.output.trans hb04.output, by have := hgr5.size; have := hb04.size; simp at *; omega, fun g hg => (hold5 g (by omega) (fun e => by have := (KidsR.lt hkd4 e).1; omega)).trans (hb04.block g hg)⟩
        have hkd6 : KidsR (G + 1) (.slice (some ⟨g5, 0, none⟩) ((numsJ q).length + 1) cap5) (numsJ (q + 1)) w5 := by rw [nums_next]; exact hkd5
        have m6 := hbx5.p4
        have m7 := hbx5.free 4
        refine hK _ _ ?_
        clear hK K
        refine wpAny_take (i := 6) (v := ?_) rfl (by kernel_rfl) (by kernel_rfl) (by kernel_rfl) (fun _ _ _ h => h) (Or.inl ⟨by rfl, ?_⟩) ?_
        rotate_left 1
        · (intro w; go_simp) <;> with_reducible rfl
        refine wpAny_ready (rs := [7]) (by kernel_rfl) (by simp) ?_
        refine AllReady.cons rfl (fun K hK => ?_) AllReady.nil
        go_simp
        refine hK _ _ ?_
        clear hK K
        refine wpAny_done (by kernel_rfl) ?_ _
        go_wp2_with fail
        go_roundg (k - (q + 1))
        case measure => omega
        case rel => exact ⟨q + 1, _, rfl, by omega, by go_num, hbx5.set4 _, KidsR.same hkd6 (fun g hg hl => Below.heap_setCell _ _ _ _ (by show g ≠ G; omega)), hb05.setCell (p := ⟨G, 4, none⟩) (Nat.le_refl _) _⟩
      · go_simp
        go_wp2_with fail
        refine (num9c (q : Int) _).mono ?_
        rintro e w4 ⟨rfl, hb4'⟩
        have hb4 : Below wr.heap.size wr w4 := ((Below.refl _ wr).drew).trans hb4'
        have hbx4 := hbx.same (hb4.block _ hbx.lt)
        have hkd4 : KidsR (G + 1) v (numsJ q) w4 := KidsR.same hkd (fun g _ hl => hb4.block g hl)
        have hb04 : Below G w w4 := hb.trans (hb4.mono (Nat.le_of_lt hbx.lt))
        have hBs4 : G + 1 ≤ w4.heap.size := hbx4.lt
        have m4 := hbx4.p4
        have m5 : (w4.alloc (Obj.cells #[.int .i64 4, .int .i64 (q : Int), .string { data := #[] }, .slice none 0 0, .slice none 0 0] 25)).cell? ⟨G, 4, none⟩ = some v := (hbx4.alloc _).p4
        go_wp2_with fail
        refine wpAny_ready (rs := [1, 4]) (by kernel_rfl) (by simp) ?_
        refine AllReady.cons rfl (fun K hK => ?_) (AllReady.cons rfl (fun K hK => ?_) AllReady.nil)
        · go_simp
          refine hK _ _ ?_
          clear hK K
          refine wpAny_ready (rs := [4]) (by kernel_rfl) (by simp) ?_
          refine AllReady.cons rfl (fun K hK => ?_) AllReady.nil
          go_simp
          refine hK _ _ ?_
          clear hK K
          refine wpAny_ready (rs := [5]) (by kernel_rfl) (by simp) ?_
          refine AllReady.cons rfl (fun K hK => ?_) AllReady.nil
          refine KidsR.step rfl (.tmp 34) (.tmp 37) rfl (G + 1) _ v (numsJ q) (KidsR.same hkd4 (fun g _ hl => Below.heap_alloc w4 _ g hl)) (numJ (q : Int)) _ _ _ _ _ w4.heap.size (num_new _ _ _) hBs4 (fun g hg => (KidsR.lt hkd4 hg).2) w4.heap.size _ (0, 0) (Kit.fresh_block w4 _ _) (by first | rfl | simp [Act.eval, Act.put]) (by first | rfl | simp [Act.eval, Act.put]) (by rw [nums_len]; omega) (by simp; omega) ?_
          intro g5 cap5 w5 hkd5 hgr5 hat5
          have hold5 : ∀ g, g < w4.heap.size → v.ownBlock ≠ some g → w5.heap[g]? = w4.heap[g]? := fun g hg hn => (hgr5.block g (by simp; omega) (fun e => hn e.symm)).trans (Below.heap_alloc w4 _ g hg)
          have hbx5 := hbx4.same (hold5 G hbx4.lt (fun e => by have := (KidsR.lt hkd4 e).1; omega))
          have hb05 : Below G w w5 := ⟨hgr5.os.trans hb04.os, hgr5.tape.trans hb04.tape, hgr5.output.trans hb04.output, by have := hgr5.size; have := hb04.size; simp at *; omega, fun g hg => (hold5 g (by omega) (fun e => by have := (KidsR.lt hkd4 e).1; omega)).trans (hb04.block g hg)⟩
          have hkd6 : KidsR (G + 1) (.slice (some ⟨g5, 0, none⟩) ((numsJ q).length + 1) cap5) (numsJ (q + 1)) w5 := by rw [nums_next]; exact hkd5
          have m6 := hbx5.p4
          have m7 := hbx5.free 4
          refine hK _ _ ?_
          clear hK K
          refine wpAny_take (i := 6) (v := ?_) rfl (by kernel_rfl) (by kernel_rfl) (by kernel_rfl) (fun _ _ _ h => h) (Or.inl ⟨by rfl, ?_⟩) ?_
          rotate_left 1
          · (intro w; go_simp) <;> with_reducible rfl
          refine wpAny_ready (rs := [7]) (by kernel_rfl) (by simp) ?_
          refine AllReady.cons rfl (fun K hK => ?_) AllReady.nil
          go_simp
          refine hK _ _ ?_
          clear hK K
          refine wpAny_done (by kernel_rfl) ?_ _
          go_wp2_with fail
          go_roundg (k - (q + 1))
          case measure => omega
          case rel => exact ⟨q + 1, _, rfl, by omega, by go_num, hbx5.set4 _, KidsR.same hkd6 (fun g hg hl => Below.heap_setCell _ _ _ _ (by show g ≠ G; omega)), hb05.setCell (p := ⟨G, 4, none⟩) (Nat.le_refl _) _⟩
        · go_simp
          refine hK _ _ ?_
          clear hK K
          refine wpAny_ready (rs := [1]) (by kernel_rfl) (by simp) ?_
          refine AllReady.cons rfl (fun K hK => ?_) AllReady.nil
          go_simp
          refine hK _ _ ?_
          clear hK K
          refine wpAny_ready (rs := [5]) (by kernel_rfl) (by simp) ?_
          refine AllReady.cons rfl (fun K hK => ?_) AllReady.nil
          refine KidsR.step rfl (.tmp 34) (.tmp 37) rfl (G + 1) _ v (numsJ q) (KidsR.same hkd4 (fun g _ hl => Below.heap_alloc w4 _ g hl)) (numJ (q : Int)) _ _ _ _ _ w4.heap.size (num_new _ _ _) hBs4 (fun g hg => (KidsR.lt hkd4 hg).2) w4.heap.size _ (0, 0) (Kit.fresh_block w4 _ _) (by first | rfl | simp [Act.eval, Act.put]) (by first | rfl | simp [Act.eval, Act.put]) (by rw [nums_len]; omega) (by simp; omega) ?_
          intro g5 cap5 w5 hkd5 hgr5 hat5
          have hold5 : ∀ g, g < w4.heap.size → v.ownBlock ≠ some g → w5.heap[g]? = w4.heap[g]? := fun g hg hn => (hgr5.block g (by simp; omega) (fun e => hn e.symm)).trans (Below.heap_alloc w4 _ g hg)
          have hbx5 := hbx4.same (hold5 G hbx4.lt (fun e => by have := (KidsR.lt hkd4 e).1; omega))
          have hb05 : Below G w w5 := ⟨hgr5.os.trans hb04.os, hgr5.tape.trans hb04.tape, hgr5.output.trans hb04.output, by have := hgr5.size; have := hb04.size; simp at *; omega, fun g hg => (hold5 g (by omega) (fun e => by have := (KidsR.lt hkd4 e).1; omega)).trans (hb04.block g hg)⟩
          have hkd6 : KidsR (G + 1) (.slice (some ⟨g5, 0, none⟩) ((numsJ q).length + 1) cap5) (numsJ (q + 1)) w5 := by rw [nums_next]; exact hkd5
          have m6 := hbx5.p4
          have m7 := hbx5.free 4
          refine hK _ _ ?_
          clear hK K
          refine wpAny_take (i := 6) (v := ?_) rfl (by kernel_rfl) (by kernel_rfl) (by kernel_rfl) (fun _ _ _ h => h) (Or.inl ⟨by rfl, ?_⟩) ?_
          rotate_left 1
          · (intro w; go_simp) <;> with_reducible rfl
          refine wpAny_ready (rs := [7]) (by kernel_rfl) (by simp) ?_
          refine AllReady.cons rfl (fun K hK => ?_) AllReady.nil
          go_simp
          refine hK _ _ ?_
          clear hK K
          refine wpAny_done (by kernel_rfl) ?_ _
          go_wp2_with fail
          go_roundg (k - (q + 1))
          case measure => omega
          case rel => exact ⟨q + 1, _, rfl, by omega, by go_num, hbx5.set4 _, KidsR.same hkd6 (fun g hg hl => Below.heap_setCell _ _ _ _ (by show g ≠ G; omega)), hb05.setCell (p := ⟨G, 4, none⟩) (Nat.le_refl _) _⟩
    · have hqk : q = k := by omega
      have g1 : ¬ (q : Int) < (k : Int) := by omega
      obtain ⟨ao, cp, rfl⟩ := KidsR.form hkd
      rw [nums_len] at hbx hkd
      rw [hqk] at hbx hkd
      have hsr : G + 1 ≤ wr.heap.size := hbx.lt
      have HB := Lib.hid hb
      obtain ⟨V, hV, hbV, hsV, k1, k2, k3⟩ := three_new wr #[.string ⟨#[108]⟩] #[.int .i64 6, .int .i64 0, .string ⟨#[]⟩, .slice none 0 0, .slice ao k cp] #[.int .i64 7, .int .i64 0, .string ⟨#[]⟩, .slice (some ⟨wr.heap.size, 0, none⟩) 1 1, .slice (some ⟨wr.heap.size + 1, 0, none⟩) 1 1] 9 25 25
      have hkdV : KidsR (G + 1) (.slice ao k cp) (numsJ k) V := KidsR.same hkd (fun g _ hl => hbV.block g hl)
      have hat : NodeAt (fun _ => True) V (nnJ k) (.agg #[.int .i64 7, .int .i64 0, .string ⟨#[]⟩, .slice (some ⟨wr.heap.size, 0, none⟩) 1 1, .slice (some ⟨wr.heap.size + 1, 0, none⟩) 1 1]) :=
        node_made (cells_block k1 rfl) (cells_block k2 rfl) (kids_single (KidsR.arr hkdV))
      have hB : Bx (wr.heap.size + 2) (.int .i64 7) (.int .i64 0) (.string ⟨#[]⟩) (.slice (some ⟨wr.heap.size, 0, none⟩) 1 1) (.slice (some ⟨wr.heap.size + 1, 0, none⟩) 1 1) V := ⟨k3⟩
      have hS := hbx.alloc (.cells #[.string ⟨#[108]⟩] 9)
      have o0 := hS.p0
      have o1 := hS.p1
      have o2 := hS.p2
      have o3 := hS.p3
      have o4 := hS.p4
      have HV := Lib.hid hV
      have hbw : Below w.heap.size w V := by rw [HG.out]; exact hb.trans (hbV.mono (by omega))
      obtain ⟨T, hT⟩ : ∃ T, V.alloc (.cells #[.int .u8 47, .int .u8 108, .int .u8 47, .int .u8 (53 + (p : Int)), .int .u8 (48 + (r : Int))] 5) = T := ⟨_, rfl⟩
      have hlit : (convert 36 9 (.slice (some ⟨V.heap.size, 0, none⟩) 5 5)).run Tryd.prog T = .ok (.string (atB p r)) T := by
        rw [← hT]
        exact HLIT.out V
      have hbVT : Below V.heap.size V T := by rw [← hT]; exact (Below.refl _ V).alloc (Nat.le_refl _) _
      have HT2 := Lib.hid hT
      obtain ⟨AT, hAT⟩ : ∃ AT, atB p r = AT := ⟨_, rfl⟩
      rw [hAT] at hlit HP0
      have hbwT : Below w.heap.size w T := hbw.trans (hbVT.mono hbw.size)
      have HBW : Hid (∀ w', Below T.heap.size T w' → Below w.heap.size w w') := Lib.hid (fun w' h => hbwT.trans (h.mono hbwT.size))
      have HE : Hid (∀ w', Below T.heap.size T w' → EnvP w') := Lib.hid (fun w' h => (HE0.out.next hbwT).next h)
      have hatT := in_of_at (at_below hat hbVT)
      have hBT := hB.same (hbVT.block _ hB.lt)
      obtain ⟨H, hH⟩ : ∃ H, wr.heap.size = H := ⟨_, rfl⟩
      rw [hH] at hBT hatT
      have HH := Lib.hid hH
      have HNN : Hid (∀ w', Below T.heap.size T w' → NodeIn w' (nnJ k) (.agg #[.int .i64 7, .int .i64 0, .string ⟨#[]⟩, .slice (some ⟨H, 0, none⟩) 1 1, .slice (some ⟨H + 1, 0, none⟩) 1 1]) ∧ Bx (H + 2) (.int .i64 7) (.int .i64 0) (.string ⟨#[]⟩) (.slice (some ⟨H, 0, none⟩) 1 1) (.slice (some ⟨H + 1, 0, none⟩) 1 1) w') := Lib.hid (fun w' h => ⟨node_below h hatT, hBT.same (h.block _ hBT.lt)⟩)
      have HLT := Lib.hid hlit
      clear hH hatT hBT hlit hAT hbwT hbVT hT hbw hS hB hat hkdV k1 k2 k3 hsV hbV hV hsr hqk hbx hkd hb hq hlt HLIT
      go_upto_region 8 with fail
      rw [HV.out]
      (try rw [HH.out])
      clear o0 o1 o2 o3 o4
      have hlit := HLT.out
      rw [← HT2.out] at hlit
      go_upto_region 9 with fail
      rw [HT2.out]
      (try rw [HH.out])
      clear hlit
      have hbU : Below T.heap.size T T := Below.refl _ _
      have hg := get_shape HP0.out HT.out HCN.out T (HE.out T hbU) (HNN.out T hbU).1
      have h0 := (HNN.out T hbU).2
      have p0 := h0.p0
      have p1 := h0.p1
      have p2 := h0.p2
      have p3 := h0.p3
      have p4 := h0.p4
      clear h0 hbU
      go_wp2_with fail
      refine hg.mono ?_
      rintro e u0 ⟨a3, m3, a4, m4, rfl, hb⟩
      obtain ⟨V0, hV, hbV, hsV, hbxV⟩ := bx_later u0 (.int .i64 0) (.int .i64 0) (.string ⟨#[]⟩) (.slice a3 0 m3) (.slice a4 0 m4)
      obtain ⟨G0, hG0⟩ : ∃ G, u0.heap.size = G := ⟨_, rfl⟩
      rw [hG0] at hbxV
      have HV0 := Lib.hid hV
      have HBX0 := Lib.hid hbxV
      have HBV0 : Hid (∀ w', Below V0.heap.size V0 w' → Below T.heap.size T w') := Lib.hid (fun w' h => hb.trans ((hbV.trans (h.mono hbV.size)).mono hb.size))
      have HTW0 : Hid (∀ w', Below V0.heap.size V0 w' → Below T.heap.size T w') := Lib.hid (fun w' h => HBV0.out w' h)
      clear hg hb hV hbV hsV hbxV p0 p1 p2 p3 p4
      go_upto_region 10 with fail
      rw [HV0.out]
      (try rw [hG0])
      clear hG0
      have hbU : Below T.heap.size T V0 := HTW0.out _ (Below.refl _ _)
      have hg := get_shape HP1.out HT.out HCN.out V0 (HE.out V0 hbU) (HNN.out V0 hbU).1
      have h0 := (HNN.out V0 hbU).2
      have p0 := h0.p0
      have p1 := h0.p1
      have p2 := h0.p2
      have p3 := h0.p3
      have p4 := h0.p4
      clear h0 hbU
      go_wp2_with fail
      refine hg.mono ?_
      rintro e u1 ⟨a3, m3, a4, m4, rfl, hb⟩
      obtain ⟨V1, hV, hbV, hsV, hbxV⟩ := bx_later u1 (.int .i64 0) (.int .i64 0) (.string ⟨#[]⟩) (.slice a3 0 m3) (.slice a4 0 m4)
      obtain ⟨G1, hG1⟩ : ∃ G, u1.heap.size = G := ⟨_, rfl⟩
      rw [hG1] at hbxV
      have HV1 := Lib.hid hV
      have HBX1 := Lib.hid hbxV
      have HBV1 : Hid (∀ w', Below V1.heap.size V1 w' → Below V0.heap.size V0 w') := Lib.hid (fun w' h => hb.trans ((hbV.trans (h.mono hbV.size)).mono hb.size))
      have HTW1 : Hid (∀ w', Below V1.heap.size V1 w' → Below T.heap.size T w') := Lib.hid (fun w' h => HTW0.out w' (HBV1.out w' h))
      clear hg hb hV hbV hsV hbxV p0 p1 p2 p3 p4
      go_upto_region 11 with fail
      rw [HV1.out]
      (try rw [hG1])
      clear hG1
      have hbU : Below T.heap.size T V1 := HTW1.out _ (Below.refl _ _)
      have hg := get_shape HP2.out HT.out HCN.out V1 (HE.out V1 hbU) (HNN.out V1 hbU).1
      have h0 := (HNN.out V1 hbU).2
      have p0 := h0.p0
      have p1 := h0.p1
      have p2 := h0.p2
      have p3 := h0.p3
      have p4 := h0.p4
      clear h0 hbU
      go_wp2_with fail
      refine hg.mono ?_
      rintro e u2 ⟨a3, m3, a4, m4, rfl, hb⟩
      obtain ⟨V2, hV, hbV, hsV, hbxV⟩ := bx_later u2 (.int .i64 0) (.int .i64 0) (.string ⟨#[]⟩) (.slice a3 0 m3) (.slice a4 0 m4)
      obtain ⟨G2, hG2⟩ : ∃ G, u2.heap.size = G := ⟨_, rfl⟩
      rw [hG2] at hbxV
      have HV2 := Lib.hid hV
      have HBX2 := Lib.hid hbxV
      have HBV2 : Hid (∀ w', Below V2.heap.size V2 w' → Below V1.heap.size V1 w') := Lib.hid (fun w' h => hb.trans ((hbV.trans (h.mono hbV.size)).mono hb.size))
      have HTW2 : Hid (∀ w', Below V2.heap.size V2 w' → Below T.heap.size T w') := Lib.hid (fun w' h => HTW1.out w' (HBV2.out w' h))
      clear hg hb hV hbV hsV hbxV p0 p1 p2 p3 p4
      go_upto_region 12 with fail
      rw [HV2.out]
      (try rw [hG2])
      clear hG2
      have hbU : Below T.heap.size T V2 := HTW2.out _ (Below.refl _ _)
      have hg := get_shape HP3.out HT.out HCN.out V2 (HE.out V2 hbU) (HNN.out V2 hbU).1
      have h0 := (HNN.out V2 hbU).2
      have p0 := h0.p0
      have p1 := h0.p1
      have p2 := h0.p2
      have p3 := h0.p3
      have p4 := h0.p4
      clear h0 hbU
      go_wp2_with fail
      refine hg.mono ?_
      rintro e u3 ⟨a3, m3, a4, m4, rfl, hb⟩
      obtain ⟨V3, hV, hbV, hsV, hbxV⟩ := bx_later u3 (.int .i64 0) (.int .i64 0) (.string ⟨#[]⟩) (.slice a3 0 m3) (.slice a4 0 m4)
      obtain ⟨G3, hG3⟩ : ∃ G, u3.heap.size = G := ⟨_, rfl⟩
      rw [hG3] at hbxV
      have HV3 := Lib.hid hV
      have HBX3 := Lib.hid hbxV
      have HBV3 : Hid (∀ w', Below V3.heap.size V3 w' → Below V2.heap.size V2 w') := Lib.hid (fun w' h => hb.trans ((hbV.trans (h.mono hbV.size)).mono hb.size))
      have HTW3 : Hid (∀ w', Below V3.heap.size V3 w' → Below T.heap.size T w') := Lib.hid (fun w' h => HTW2.out w' (HBV3.out w' h))
      clear hg hb hV hbV hsV hbxV p0 p1 p2 p3 p4
      go_upto_region 13 with fail
      rw [HV3.out]
      (try rw [hG3])
      clear hG3
      have hbU : Below T.heap.size T V3 := HTW3.out _ (Below.refl _ _)
      have hg := get_shape HP4.out HT.out HCN.out V3 (HE.out V3 hbU) (HNN.out V3 hbU).1
      have h0 := (HNN.out V3 hbU).2
      have p0 := h0.p0
      have p1 := h0.p1
      have p2 := h0.p2
      have p3 := h0.p3
      have p4 := h0.p4
      clear h0 hbU
      go_wp2_with fail
      refine hg.mono ?_
      rintro e u4 ⟨a3, m3, a4, m4, rfl, hb⟩
      obtain ⟨V4, hV, hbV, hsV, hbxV⟩ := bx_later u4 (.int .i64 0) (.int .i64 0) (.string ⟨#[]⟩) (.slice a3 0 m3) (.slice a4 0 m4)
      obtain ⟨G4, hG4⟩ : ∃ G, u4.heap.size = G := ⟨_, rfl⟩
      rw [hG4] at hbxV
      have HV4 := Lib.hid hV
      have HBX4 := Lib.hid hbxV
      have HBV4 : Hid (∀ w', Below V4.heap.size V4 w' → Below V3.heap.size V3 w') := Lib.hid (fun w' h => hb.trans ((hbV.trans (h.mono hbV.size)).mono hb.size))
      have HTW4 : Hid (∀ w', Below V4.heap.size V4 w' → Below T.heap.size T w') := Lib.hid (fun w' h => HTW3.out w' (HBV4.out w' h))
      clear hg hb hV hbV hsV hbxV p0 p1 p2 p3 p4
      go_upto_region 14 with fail
      rw [HV4.out]
      (try rw [hG4])
      clear hG4
      have hbU : Below T.heap.size T V4 := HTW4.out _ (Below.refl _ _)
      have hg := get_shape HP5.out HT.out HCN.out V4 (HE.out V4 hbU) (HNN.out V4 hbU).1
      have h0 := (HNN.out V4 hbU).2
      have p0 := h0.p0
      have p1 := h0.p1
      have p2 := h0.p2
      have p3 := h0.p3
      have p4 := h0.p4
      clear h0 hbU
      go_wp2_with fail
      refine hg.mono ?_
      rintro e u5 ⟨a3, m3, a4, m4, rfl, hb⟩
      obtain ⟨V5, hV, hbV, hsV, hbxV⟩ := bx_later u5 (.int .i64 0) (.int .i64 0) (.string ⟨#[]⟩) (.slice a3 0 m3) (.slice a4 0 m4)
      obtain ⟨G5, hG5⟩ : ∃ G, u5.heap.size = G := ⟨_, rfl⟩
      rw [hG5] at hbxV
      have HV5 := Lib.hid hV
      have HBX5 := Lib.hid hbxV
      have HBV5 : Hid (∀ w', Below V5.heap.size V5 w' → Below V4.heap.size V4 w') := Lib.hid (fun w' h => hb.trans ((hbV.trans (h.mono hbV.size)).mono hb.size))
      have HTW5 : Hid (∀ w', Below V5.heap.size V5 w' → Below T.heap.size T w') := Lib.hid (fun w' h => HTW4.out w' (HBV5.out w' h))
      clear hg hb hV hbV hsV hbxV p0 p1 p2 p3 p4
      go_upto_region 15 with fail
      rw [HV5.out]
      (try rw [hG5])
      clear hG5
      have hbU : Below T.heap.size T V5 := HTW5.out _ (Below.refl _ _)
      have hg := get_shape HP6.out HT.out HCN.out V5 (HE.out V5 hbU) (HNN.out V5 hbU).1
      have h0 := (HNN.out V5 hbU).2
      have p0 := h0.p0
      have p1 := h0.p1
      have p2 := h0.p2
      have p3 := h0.p3
      have p4 := h0.p4
      clear h0 hbU
      go_wp2_with fail
      refine hg.mono ?_
      rintro e u6 ⟨a3, m3, a4, m4, rfl, hb⟩
      obtain ⟨V6, hV, hbV, hsV, hbxV⟩ := bx_later u6 (.int .i64 0) (.int .i64 0) (.string ⟨#[]⟩) (.slice a3 0 m3) (.slice a4 0 m4)
      obtain ⟨G6, hG6⟩ : ∃ G, u6.heap.size = G := ⟨_, rfl⟩
      rw [hG6] at hbxV
      have HV6 := Lib.hid hV
      have HBX6 := Lib.hid hbxV
      have HBV6 : Hid (∀ w', Below V6.heap.size V6 w' → Below V5.heap.size V5 w') := Lib.hid (fun w' h => hb.trans ((hbV.trans (h.mono hbV.size)).mono hb.size))
      have HTW6 : Hid (∀ w', Below V6.heap.size V6 w' → Below T.heap.size T w') := Lib.hid (fun w' h => HTW5.out w' (HBV6.out w' h))
      clear hg hb hV hbV hsV hbxV p0 p1 p2 p3 p4
      go_upto_region 16 with fail
      rw [HV6.out]
      (try rw [hG6])
      clear hG6
      clear HP0 HP1 HP2 HP3 HP4 HP5 HP6 HT HCN
      go_wp2_with fail
      refine (L3.num_any 7 _).mono ?_
      rintro e t1 ⟨rfl, rfl⟩
      go_wp2_with fail
      refine (L3.num_any 7 _).mono ?_
      rintro e t1 ⟨rfl, rfl⟩
      go_wp2_with fail
      refine (L3.num_any 7 _).mono ?_
      rintro e t1 ⟨rfl, rfl⟩
      go_wp2_with fail
      refine (L3.num_any 3 _).mono ?_
      rintro e t1 ⟨rfl, rfl⟩
      go_wp2_with fail
      refine (L3.num_any 3 _).mono ?_
      rintro e t1 ⟨rfl, rfl⟩
      go_wp2_with fail
      refine (L3.num_any 7 _).mono ?_
      rintro e t1 ⟨rfl, rfl⟩
      go_wp2_with fail
      refine (L3.num_any 7 _).mono ?_
      rintro e t1 ⟨rfl, rfl⟩
      go_wp2_with fail
      refine (awake9 (HE.out V6 (HTW6.out _ (Below.refl _ _)))).mono ?_
      rintro e t2 ⟨rfl, hb6⟩
      go_wp2_with fail
      go_ret
      (try rw [← HG.out])
      exact ⟨rfl, HBW.out t2 (HTW6.out _ hb6)⟩
end Go.Proofs.YtoofcclcimkipaaDoor.J9
