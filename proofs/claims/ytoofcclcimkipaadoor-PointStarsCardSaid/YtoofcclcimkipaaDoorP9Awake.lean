/-
  The statements' own example over package point is awake. Condition: the library's tables and errors read as its text lays them.
-/
import Derived.Test.YtoofcclcimkipaaDoorP9Vals
import Derived.Test.YtoofcclcimkipaaDoorP9WayP
import Derived.Test.YtoofcclcimkipaaDoorL3Num
namespace Go.Proofs.YtoofcclcimkipaaDoor.J9
open Go Go.RowKit Go.Joins Kit J7 Nds J8

def aB : ByteArray := ⟨#[97]⟩
def zB : ByteArray := ⟨#[48]⟩
def exJ : J := objK [aB] [arrK [numJ 7]]
theorem mem_one {α : Type} {a k : α} (h : k ∈ [a]) : k = a := List.mem_singleton.1 h
theorem ex_right : RightIn 0 exJ := right_objK (by decide) rfl (keys_one (by first | rfl | decide)) (fun k hk => by
  rw [mem_one hk]
  exact right_arrK (by decide) (fun k hk => by
    rw [mem_one hk]
    exact right_num (by decide) (by decide)))
theorem ex_tame : Tame exJ := tame_objK (by decide) (fun k hk => by rw [mem_one hk]; decide) (by decide) (fun k hk => by
  rw [mem_one hk]
  exact tame_arrK (by decide) (fun k hk => by rw [mem_one hk]; exact tame_num 7))
theorem num_zero : num9 zB = some 0 := by
  unfold num9
  have h := Tx.num_digits (u := 0) (by decide)
  rw [Lib.decDigits_one (by decide)] at h
  exact h
theorem ex_point : pointP exJ ⟨#[47, 97, 47, 48]⟩ = (numJ 7, 0) := by
  refine point_0 (rightP_yes ex_right) (partsP_path (ls := [aB, zB]) rfl (by decide)) ?_
  have hf : J8.Found exJ aB 0 := ⟨rfl, by show 0 < 1; decide, by show 0 < 1; decide, rfl, fun j h => absurd h (Nat.not_lt_zero j)⟩
  rw [follow_key hf]
  show followP num9 [zB] (arrK [numJ 7]) = _
  rw [follow_n1 (i := 0) rfl (by decide) num_zero (by show 0 < 1; decide), followP]
  rfl
theorem ex_cnt : cnt exJ ≤ 2000 := by
  unfold exJ objK arrK numJ
  simp only [cnt, cnts]
  decide

set_option maxHeartbeats 2000000 in
set_option maxRecDepth 100000 in
theorem awake9 {w : World} (hE : EnvP w) :
    Calls Tryd.prog 9 #[] w fun e w' => e = .returned (.bool true) ∧ Below w.heap.size w w' := by
  have hb1 : Below w.heap.size w (w.alloc (.cells #[.string ⟨#[97]⟩] 9)) := (Below.refl _ w).alloc (Nat.le_refl _) _
  have HB1 := Lib.hid hb1
  have HK1 := Lib.hid (Kit.fresh_block w #[.string ⟨#[97]⟩] 9)
  have HE := Lib.hid hE
  clear hb1 hE
  go_enter Tryd.func9, Tryd.ntmps9
  go_wp2_with fail
  refine (num9c 7 _).mono ?_
  rintro e w2 ⟨rfl, hb2⟩
  have HB2 := Lib.hid (HB1.out.trans (hb2.mono HB1.out.size))
  have HK2 : Hid (w2.heap[w.heap.size]? = some (.cells #[.string ⟨#[97]⟩] 9 (0, 0))) := Lib.hid ((hb2.block _ (by simp)).trans HK1.out)
  obtain ⟨W, hW, hbW, hsz, k1, k2, k3⟩ := three_new w2 #[.int .i64 4, .int .i64 7, .string ⟨#[]⟩, .slice none 0 0, .slice none 0 0] #[.int .i64 6, .int .i64 0, .string ⟨#[]⟩, .slice none 0 0, .slice (some ⟨w2.heap.size, 0, none⟩) 1 1] #[.int .i64 7, .int .i64 0, .string ⟨#[]⟩, .slice (some ⟨w.heap.size, 0, none⟩) 1 1, .slice (some ⟨w2.heap.size + 1, 0, none⟩) 1 1] 25 25 25
  have hlt : w.heap.size < w2.heap.size := by
    have h := hb2.size
    simp at h
    omega
  have hat : NodeAt (fun _ => True) W exJ (.agg #[.int .i64 7, .int .i64 0, .string ⟨#[]⟩, .slice (some ⟨w.heap.size, 0, none⟩) 1 1, .slice (some ⟨w2.heap.size + 1, 0, none⟩) 1 1]) :=
    node_made (cells_block ((hbW.block _ hlt).trans HK2.out) rfl) (cells_block k2 rfl) (kids_single (node_made cells_none (cells_block k1 rfl) (kids_single (num_at W 7))))
  have hB : Bx (w2.heap.size + 2) (.int .i64 7) (.int .i64 0) (.string ⟨#[]⟩) (.slice (some ⟨w.heap.size, 0, none⟩) 1 1) (.slice (some ⟨w2.heap.size + 1, 0, none⟩) 1 1) W := ⟨k3⟩
  have hbw : Below w.heap.size w W := HB2.out.trans (hbW.mono HB2.out.size)
  have hg := get_is ex_point ex_tame ex_cnt W (HE.out.next hbw) (in_of_at hat)
  have HW := Lib.hid hW
  have HBW := Lib.hid hbw
  obtain ⟨H, hH⟩ : ∃ H, w2.heap.size = H := ⟨_, rfl⟩
  obtain ⟨G, hG⟩ : ∃ G, w.heap.size = G := ⟨_, rfl⟩
  have HG := Lib.hid hG
  have HH := Lib.hid hH
  rw [hH, hG] at hB hg
  have p0 := hB.p0
  have p1 := hB.p1
  have p2 := hB.p2
  have p3 := hB.p3
  have p4 := hB.p4
  clear hb2 hW hbW hsz k1 k2 k3 hlt hat hB hbw hH hG
  go_upto_region 2 with fail
  rw [HW.out]
  (try rw [HH.out])
  (try rw [HG.out])
  go_wp2_with fail
  refine hg.mono ?_
  rintro e w3 ⟨a3, m3, a4, m4, he, -, hb3⟩
  have he' : e = .returned (.tuple #[.agg #[.int .i64 4, .int .i64 7, .string ⟨#[]⟩, .slice a3 0 m3, .slice a4 0 m4], .int .i64 0]) := he
  subst he'
  clear hg he p0 p1 p2 p3 p4
  have HB3 := Lib.hid (HBW.out.trans (hb3.mono HBW.out.size))
  have hb4 : Below w.heap.size w (w3.alloc (.cells #[.int .i64 4, .int .i64 7, .string ⟨#[]⟩, .slice a3 0 m3, .slice a4 0 m4] 25)) := HB3.out.alloc HB3.out.size _
  have hq := (Bx.made w3 (.int .i64 4) (.int .i64 7) (.string ⟨#[]⟩) (.slice a3 0 m3) (.slice a4 0 m4)).p1
  have HB4 := Lib.hid hb4
  clear hb3 hb4
  go_wp2_with fail
  refine (L3.num_any 0 _).mono ?_
  rintro e w5 ⟨rfl, rfl⟩
  go_wp2_with fail
  go_ret
  (try rw [← HG.out])
  exact ⟨rfl, HB4.out⟩
end Go.Proofs.YtoofcclcimkipaaDoor.J9
