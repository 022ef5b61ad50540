/-
  Several texts in one: TxEnv TxRow PtTop B6Loose Q4Dec Q4Decode Buf LkMem WdOneP WdBits BldB WdSwap WdEnds WdMean WdVis WdNext WdTrim WdDec PtTree Own AdMem AdBld AdAng AdWord AdTell AdTold AdTake AdList AdAt TxNum TxStr. Conditions: each theorem's own.
-/
import Derived.Test.YtnnbbjdidbggmaaGreatDoorTxFold
import Derived.Test.YtnnbbjdidbggmaaGreatDoorPtIv
import Derived.Test.YtnnbbjdidbggmaaGreatDoorEnv
import Derived.Test.YtnnbbjdidbggmaaGreatDoorB6Kit
import Derived.Test.YtnnbbjdidbggmaaGreatDoorShelf
import Derived.Test.YtnnbbjdidbggmaaGreatDoorQ4Plain
import Derived.Test.YtnnbbjdidbggmaaGreatDoorBld
import Derived.Test.YtnnbbjdidbggmaaGreatDoorKit
import Derived.Test.YtnnbbjdidbggmaaGreatDoorF0Mem
import Derived.Test.YtnnbbjdidbggmaaGreatDoorWdPlain
import Derived.Test.YtnnbbjdidbggmaaGreatDoorU8Kit
import Derived.Test.YtnnbbjdidbggmaaGreatDoorU8Put
import Derived.Test.YtnnbbjdidbggmaaGreatDoorU8Valid
import Derived.Test.YtnnbbjdidbggmaaGreatDoorPtRall
import Derived.Test.YtnnbbjdidbggmaaGreatDoorAdPlain
import Derived.Lib.AppendIntMem
import Derived.WalkSmall
import Derived.Lib.LaidTab
import Derived.LaidSub
import Derived.Shelf.Vars
import Derived.Lib.IndexBytes
import Derived.IntWalk
import Derived.LoopN
import Derived.Deep.RegionWith
import Derived.Deep.CutRange
import Derived.Lib.AppendStr
import Derived.Lib.OthersKept
import Derived.Lib.BufferKept
import Derived.Lib.Replace
import Derived.Deep.LoopGhost
import Derived.Lib.SlTrimSet
import Derived.Shelf.Strings.SlTrimAscii
import Derived.Deep.AppendLies
import Derived.BigQuiet
import Derived.Shelf.Strings.LastIndex
import Derived.Shelf.Strings.OnBuilder
import Derived.Lib.SmallJoins
namespace Go.Proofs.YtnnbbjdidbggmaaGreatDoor.Tx
open Go Go.RowKit Go.Sort

/-- The library's tables read as the program's text lays them, in this world and in every one that keeps what was there. -/
structure Env (w : World) : Prop where
  tab : ∀ w', Below w.heap.size w w' → Lib.TabIs Tryz.prog w' "internal/strconv.uint64pow10" .u64 Lib.pow10Tab
  max : ∀ w', Below w.heap.size w w' → ∃ m : Int, w'.cell? ⟨2, 0, none⟩ = some (.int .i64 m)

theorem Env.next {w w1 : World} (h : Env w) (hb : Below w.heap.size w w1) : Env w1 where
  tab := fun w' hb' => h.tab w' (hb.trans (hb'.mono hb.size))
  max := fun w' hb' => h.max w' (hb.trans (hb'.mono hb.size))

theorem below_grow {B : Nat} {w : World} (os : Array Obj) (h : B ≤ w.heap.size) : Below B w (grow w os) :=
  ⟨rfl, rfl, rfl, by simp, fun k hk => by simp only [grow]; rw [Array.getElem?_append_left (by omega)]⟩

theorem itoa_any (n : Int) (h0 : -9223372036854775808 ≤ n) (h1 : n ≤ 9223372036854775807) (w : World) (hE : Env w) :
    Calls Tryz.prog 121 #[.int .i64 n] w fun e w' => e = .returned (.string ⟨(Lib.itoa n).toArray⟩) ∧ Below w.heap.size w w' := by
  refine (Tryz.strconv_Itoa n h0 h1 w (hE.tab _ (Below.refl _ _))).mono ?_
  rintro e w' ⟨rfl, k, os, rfl⟩
  exact ⟨rfl, (below_drewN (Below.refl _ _) k).trans (below_grow os (Nat.le_refl _))⟩

theorem itoa_max (n : Int) : Lib.itoa (max n 0) = Lib.decDigits n.toNat := by
  unfold Lib.itoa
  rw [if_neg (by omega)]
  congr 1
  omega

set_option maxHeartbeats 400000 in
theorem digits_any (n : Int) (h0 : -9223372036854775808 ≤ n) (h1 : n ≤ 9223372036854775807) (w : World) (hE : Env w) :
    Calls Tryz.prog 78 #[.int .i64 n] w fun e w' => e = .returned (.string ⟨(Lib.decDigits n.toNat).toArray⟩) ∧ Below w.heap.size w w' := by
  go_enter Tryz.func78, Tryz.ntmps78
  go_wp2_with fail
  refine (itoa_any (max n 0) (by omega) (by omega) w hE).mono ?_
  rintro e w' ⟨rfl, hb⟩
  go_wp2
  go_ret
  exact ⟨ret_str (itoa_max n), hb⟩
end Go.Proofs.YtnnbbjdidbggmaaGreatDoor.Tx
namespace Go.Proofs.YtnnbbjdidbggmaaGreatDoor.Tx
open Go Go.RowKit

theorem own : ownKnob Tryz.prog.godebug = none := by kernel_rfl
theorem gTab : Tryz.prog.globalNamed "internal/strconv.uint64pow10" = some 3 := by kernel_rfl
theorem gTabType : (Tryz.prog.globals[3]?).map (·.type) = some 172 := by kernel_rfl
theorem cellsTab : Tryz.prog.cellsOf 172 = 20 := by kernel_rfl
theorem cellsU64 : Tryz.prog.cellsOf 166 = 1 := by kernel_rfl

theorem cell_lt {W : World} {g o : Nat} {v : Value} (h : W.cell? ⟨g, o, none⟩ = some v) : g < W.heap.size := by
  rcases Nat.lt_or_ge g W.heap.size with h' | h'
  · exact h'
  · simp [World.cell?, Array.getElem?_eq_none h'] at h

theorem max_cell {W : World} (h : W.ShapedOpen Tryz.prog) : ∃ m : Int, W.cell? ⟨2, 0, none⟩ = some (.int .i64 m) :=
  Go.Proofs.cell_of_shapedOpen_int (zero := #[.int .i64 0]) (t := 3) h (of_decide_eq_true (by kernel_rfl)) (by kernel_rfl) rfl (by kernel_rfl) (by kernel_rfl) Tryz.underlying3

theorem env_of {l : List (String × DataW Unit)} {W : World} (h : laidMet Tryz.prog l W) (_hsh : W.ShapedOpen Tryz.prog)
    (hl : (l.filter fun x => x.1 == "internal/strconv.uint64pow10") = [("internal/strconv.uint64pow10", Lib.tabData .u64 Lib.pow10Tab)]) : Env W := by
  have h1 := h.filter (fun x => x.1 == "internal/strconv.uint64pow10")
  rw [hl] at h1
  have ht := Lib.tabIs_of_head (rest := []) gTab gTabType Tryz.underlying172 Tryz.underlying166 cellsU64 cellsTab h1
  obtain ⟨m, hm⟩ := max_cell _hsh
  exact {
    tab := fun w' hb => Lib.tabBelow_of_tabIs ht w' hb
    max := fun w' hb => ⟨m, by rw [hb.cell (p := ⟨2, 0, none⟩) (cell_lt hm)]; exact hm⟩
  }
end Go.Proofs.YtnnbbjdidbggmaaGreatDoor.Tx
namespace Go.Proofs.YtnnbbjdidbggmaaGreatDoor.Pt
open Go Go.RowKit Go.Joins Kit F0

/-- What read answers, asked of Tree's closure. -/
def ReadTop (s : ByteArray) (w0 : World) : Prop := ∀ (b C : Nat) (w : World), b ≤ s.size → Boxed w C 3 (.int .i64 ((1 : Nat) : Int)) → w0.heap.size ≤ C → C < w.heap.size → Below w0.heap.size w0 w →
  Calls Tryz.prog 52 #[.string s, .int .i64 ((0 : Nat) : Int), .int .i64 (b : Int), .int .i64 (6 - ((6 : Nat) : Int)), anoV C] w fun e w' =>
    ∃ c0 c1 c2 c3 c4 c5 c6 c7, e = .returned (.agg #[c0, c1, c2, c3, c4, c5, c6, c7]) ∧ PartAt (fun g => w.heap.size ≤ g) w' (readL s.data.toList 6 0 b 1).1 (.agg #[c0, c1, c2, c3, c4, c5, c6, c7]) ∧ Step C w w'

set_option maxHeartbeats 4000000 in
set_option maxRecDepth 100000 in
theorem tree_of (s : ByteArray) (w : World) (hR : ReadTop s w) :
    Calls Tryz.prog 29 #[.string s] w fun e w' => ∃ c0 c1 c2 c3 c4 c5 c6 c7, e = .returned (.agg #[c0, c1, c2, c3, c4, c5, c6, c7]) ∧ PartAt (fun g => w.heap.size ≤ g) w' (treeL s.data.toList) (.agg #[c0, c1, c2, c3, c4, c5, c6, c7]) ∧ Below w.heap.size w w' := by
  have HR := Lib.hid hR
  have HTL : Hid (treeL s.data.toList = (readL s.data.toList 6 0 s.size 1).1) := Lib.hid (by unfold treeL; rw [Lib.size_eq])
  clear hR
  go_enter Tryz.func29, Tryz.ntmps29
  go_wp2_with fail
  have hbox : Boxed ((w.alloc (.cells #[.string ⟨#[]⟩, .slice none 0 0, .string ⟨#[]⟩, .bool false, .int .i64 0, .int .i64 0, .int .i64 0, .slice none 0 0] 42)).alloc (.cells #[.int .i64 1] 3)) (w.heap.size + 1) 3 (.int .i64 ((1 : Nat) : Int)) := box_at (by simp) _ _
  have hbr : Bx w.heap.size zS zL zS zB zI zI zI zL ((w.alloc (.cells #[.string ⟨#[]⟩, .slice none 0 0, .string ⟨#[]⟩, .bool false, .int .i64 0, .int .i64 0, .int .i64 0, .slice none 0 0] 42)).alloc (.cells #[.int .i64 1] 3)) := (Bx.made w zS zL zS zB zI zI zI zL).same (Below.heap_alloc _ _ _ (by simp))
  have hb2 : Below w.heap.size w ((w.alloc (.cells #[.string ⟨#[]⟩, .slice none 0 0, .string ⟨#[]⟩, .bool false, .int .i64 0, .int .i64 0, .int .i64 0, .slice none 0 0] 42)).alloc (.cells #[.int .i64 1] 3)) := ((Below.refl _ w).alloc (Nat.le_refl _) _).alloc (by simp) _
  have hsz : ((w.alloc (.cells #[.string ⟨#[]⟩, .slice none 0 0, .string ⟨#[]⟩, .bool false, .int .i64 0, .int .i64 0, .int .i64 0, .slice none 0 0] 42)).alloc (.cells #[.int .i64 1] 3)).heap.size = w.heap.size + 2 := by simp
  have HC := HR.out s.size (w.heap.size + 1) _ (Nat.le_refl _) hbox (by omega) (by omega) hb2
  generalize ((w.alloc (.cells #[.string ⟨#[]⟩, .slice none 0 0, .string ⟨#[]⟩, .bool false, .int .i64 0, .int .i64 0, .int .i64 0, .slice none 0 0] 42)).alloc (.cells #[.int .i64 1] 3)) = W at *
  unfold anoV at HC
  refine HC.mono ?_
  rintro e w2 ⟨c0, c1, c2, c3, c4, c5, c6, c7, rfl, hp, hst⟩
  obtain ⟨x0, a1, l1, m1, x2, x3, x4, x5, x6, a7, l7, m7, rfl, rfl, rfl, rfl, rfl, rfl, rfl, rfl⟩ := part_forms hp
  have hbr2 := hbr.keep hst (by omega)
  have q0 := hbr2.p0
  have q1 := hbr2.p1
  have q2 := hbr2.p2
  have q3 := hbr2.p3
  have q4 := hbr2.p4
  have q5 := hbr2.p5
  have q6 := hbr2.p6
  have q7 := hbr2.p7
  have e0 := hbr2.free 0
  have e1 := hbr2.free 1
  have e2 := hbr2.free 2
  have e3 := hbr2.free 3
  have e4 := hbr2.free 4
  have e5 := hbr2.free 5
  have e6 := hbr2.free 6
  have e7 := hbr2.free 7
  have HFIN := Lib.hid (And.intro (hbr2.setAll (.string x0) (.slice a1 l1 m1) (.string x2) (.bool x3) (.int .i64 x4) (.int .i64 x5) (.int .i64 x6) (.slice a7 l7 m7)) (And.intro (PartAt.keep (finW_kept (Q' := fun g => w.heap.size ≤ g) w2 w.heap.size (.string x0) (.slice a1 l1 m1) (.string x2) (.bool x3) (.int .i64 x4) (.int .i64 x5) (.int .i64 x6) (.slice a7 l7 m7) (fun g hg => ⟨by omega, by omega⟩)) hp) ((((((((((hst.below hb2 (by omega) hb2.size).setCell (p := ⟨w.heap.size, 0, none⟩) (Nat.le_refl _) (.string x0)).setCell (p := ⟨w.heap.size, 1, none⟩) (Nat.le_refl _) (.slice a1 l1 m1)).setCell (p := ⟨w.heap.size, 2, none⟩) (Nat.le_refl _) (.string x2)).setCell (p := ⟨w.heap.size, 3, none⟩) (Nat.le_refl _) (.bool x3)).setCell (p := ⟨w.heap.size, 4, none⟩) (Nat.le_refl _) (.int .i64 x4)).setCell (p := ⟨w.heap.size, 5, none⟩) (Nat.le_refl _) (.int .i64 x5)).setCell (p := ⟨w.heap.size, 6, none⟩) (Nat.le_refl _) (.int .i64 x6)).setCell (p := ⟨w.heap.size, 7, none⟩) (Nat.le_refl _) (.slice a7 l7 m7)))))
  unfold zS zL zB zI at *
  clear hbr hbr2 hp hst hbox hsz hb2 HC
  go_wp2_with fail
  refine ⟨rfl, .agg #[.string x0, .slice a1 l1 m1, .string x2, .bool x3, .int .i64 x4, .int .i64 x5, .int .i64 x6, .slice a7 l7 m7], part_result rfl _ rfl HFIN.out.1, ?_⟩
  refine ⟨_, _, _, _, _, _, _, _, rfl, ?_, HFIN.out.2.2⟩
  rw [HTL.out]
  exact HFIN.out.2.1
/-- What Tree answers, asked of by the laws. -/
def TreeOk : Prop := ∀ (s : ByteArray) (w : World), s.size ≤ 32768 → Srch.Env w →
    Calls Tryz.prog 29 #[.string s] w fun e w' => ∃ c0 c1 c2 c3 c4 c5 c6 c7, e = .returned (.agg #[c0, c1, c2, c3, c4, c5, c6, c7]) ∧ PartAt (fun g => w.heap.size ≤ g) w' (treeL s.data.toList) (.agg #[c0, c1, c2, c3, c4, c5, c6, c7]) ∧ Below w.heap.size w w'
theorem awake_tree : (treeL [65, 58, 32, 98, 13, 10, 13, 10, 120]).ty = plainT ∧ (treeL [65, 58, 32, 98, 13, 10, 13, 10, 120]).enc = bit7 ∧ (treeL [65, 58, 32, 98, 13, 10, 13, 10, 120]).fm = 8 ∧ (treeL [65, 58, 32, 98, 13, 10, 13, 10, 120]).to = 9 := by decide +kernel

end Go.Proofs.YtnnbbjdidbggmaaGreatDoor.Pt
namespace Go.Proofs.YtnnbbjdidbggmaaGreatDoor.B6
open Go Go.RowKit Go.Joins Kit

/-- The bound of the library's search is some number, in this world and in every one that keeps what was there. -/
structure Env (w : World) : Prop where
  max : ∀ w', Below w.heap.size w w' → ∃ m : Int, w'.cell? ⟨2, 0, none⟩ = some (.int .i64 m)
theorem Env.next {w w1 : World} (h : Env w) (hb : Below w.heap.size w w1) : Env w1 where
  max := fun w' hb' => h.max w' (hb.trans (hb'.mono hb.size))
theorem max_cell {W : World} (h : W.ShapedOpen Tryz.prog) : ∃ m : Int, W.cell? ⟨2, 0, none⟩ = some (.int .i64 m) :=
  Go.Proofs.cell_of_shapedOpen_int (zero := #[.int .i64 0]) (t := 3) h (of_decide_eq_true (by kernel_rfl)) (by kernel_rfl) rfl (by kernel_rfl) (by kernel_rfl) Tryz.underlying3
theorem env_of {W : World} (h : W.ShapedOpen Tryz.prog) : Env W := by
  obtain ⟨m, hm⟩ := max_cell h
  exact { max := fun w' hb => ⟨m, by rw [hb.cell (p := ⟨2, 0, none⟩) (cell_lt hm)]; exact hm⟩ }
/-! ### The library's calls -/
theorem ahead_index : ∀ (l : List UInt8), (if 0 ≤ Lib.indexByte l 61 then l.take (Lib.indexByte l 61).toNat else l) = ahead l
  | [] => by simp [ahead]
  | c :: r => by
    have ih := ahead_index r
    have hge := Lib.indexByte_ge r 61
    unfold ahead at ih ⊢
    by_cases h : c = 61
    · subst h
      have e : Lib.indexByte (61 :: r) 61 = 0 := by rw [Lib.indexByte]; simp
      rw [e]
      simp
    · rw [List.takeWhile_cons_of_pos (by simpa using h), ← ih]
      by_cases hr : Lib.indexByte r 61 = -1
      · have e : Lib.indexByte (c :: r) 61 = -1 := by rw [Lib.indexByte, hr]; simp [h]
        rw [e, hr]
        simp
      · have e : Lib.indexByte (c :: r) 61 = Lib.indexByte r 61 + 1 := by rw [Lib.indexByte]; simp [h, hr]
        rw [e, if_pos (by omega), if_pos (by omega), show (Lib.indexByte r 61 + 1).toNat = (Lib.indexByte r 61).toNat + 1 by omega]
        rfl
theorem cut_ahead (l : List UInt8) : (Lib.cut l [61]).1 = ahead l := by
  unfold Lib.cut
  rw [Lib.index_one, ← ahead_index]
  split <;> rfl
theorem cut_any (s : ByteArray) (w : World) (hs : s.size < 4294967281) (hE : Env w) :
    Calls Tryz.prog 76 #[.string s, .string ⟨#[61]⟩] w fun e w' => ∃ y b, e = .returned (.tuple #[.string (aheadB s), .string y, .bool b]) ∧ Below w.heap.size w w' := by
  obtain ⟨m, hm⟩ := hE.max w (Below.refl _ _)
  refine (Tryz.strings_Cut s ⟨#[61]⟩ m w hs hm).mono ?_
  rintro e w' ⟨rfl, n, rfl⟩
  rw [show (ByteArray.mk #[61]).data.toList = [61] from rfl, cut_ahead]
  exact ⟨_, _, rfl, below_drewN (Below.refl _ _) n⟩
theorem idx_byte (c : UInt8) (w : World) :
    Calls Tryz.prog 98 #[.string ⟨#[65, 66, 67, 68, 69, 70, 71, 72, 73, 74, 75, 76, 77, 78, 79, 80, 81, 82, 83, 84, 85, 86, 87, 88, 89, 90, 97, 98, 99, 100, 101, 102, 103, 104, 105, 106, 107, 108, 109, 110, 111, 112, 113, 114, 115, 116, 117, 118, 119, 120, 121, 122, 48, 49, 50, 51, 52, 53, 54, 55, 56, 57, 43, 47]⟩, .int .u8 (c.toNat : Int)] w fun e w' => e = .returned (.int .i64 (Lib.indexByte alphaL c)) ∧ w = w' := by
  refine (Tryz.strings_IndexByte _ _ w).mono ?_
  rintro e w' ⟨rfl, rfl⟩
  refine ⟨?_, rfl⟩
  rw [show ((c.toNat : Int).toNat.toUInt8) = c by simp]
  rfl
theorem idx_none {c : UInt8} (h : val c = none) (w : World) :
    Calls Tryz.prog 98 #[.string ⟨#[65, 66, 67, 68, 69, 70, 71, 72, 73, 74, 75, 76, 77, 78, 79, 80, 81, 82, 83, 84, 85, 86, 87, 88, 89, 90, 97, 98, 99, 100, 101, 102, 103, 104, 105, 106, 107, 108, 109, 110, 111, 112, 113, 114, 115, 116, 117, 118, 119, 120, 121, 122, 48, 49, 50, 51, 52, 53, 54, 55, 56, 57, 43, 47]⟩, .int .u8 (c.toNat : Int)] w fun e w' => e = .returned (.int .i64 (-1)) ∧ w = w' := by
  have := idx_byte c w
  rwa [val_none h] at this
theorem idx_some {c : UInt8} {v : Nat} (h : val c = some v) (w : World) :
    Calls Tryz.prog 98 #[.string ⟨#[65, 66, 67, 68, 69, 70, 71, 72, 73, 74, 75, 76, 77, 78, 79, 80, 81, 82, 83, 84, 85, 86, 87, 88, 89, 90, 97, 98, 99, 100, 101, 102, 103, 104, 105, 106, 107, 108, 109, 110, 111, 112, 113, 114, 115, 116, 117, 118, 119, 120, 121, 122, 48, 49, 50, 51, 52, 53, 54, 55, 56, 57, 43, 47]⟩, .int .u8 (c.toNat : Int)] w fun e w' => e = .returned (.int .i64 (v : Int)) ∧ w = w' := by
  have := idx_byte c w
  rwa [val_some h] at this
set_option maxHeartbeats 2000000 in
set_option maxRecDepth 100000 in
theorem loose_any (s : ByteArray) (w : World) (hs : s.size ≤ 1099511627) (hE : Env w) :
    Calls Tryz.prog 59 #[.string s] w fun e w' => e = .returned (.string ⟨(looseL s.data.toList).toArray⟩) ∧ Below w.heap.size w w' := by
  go_enter Tryz.func59, Tryz.ntmps59
  go_wp2_with fail
  refine (cut_any s w (by omega) hE).mono ?_
  rintro e w0 ⟨y, b, rfl, hb0⟩
  have hst : Hid (runH 0 0 (vals (aheadB s).data.toList) = looseL s.data.toList) := by
    show _ = _
    rw [aheadB_data, runH_unsix _ (vals_lt _)]
    rfl
  have hts := aheadB_size s
  generalize aheadB s = t at hst hts ⊢
  go_wp2_with fail
  refine (Tryz.Builder_Grow_fresh w0.heap.size w0.heap.size (t.size / 4 * 3 + 2) _ (Nat.le_refl _) (fresh_block w0 _ _) (by simp) (by omega)).mono ?_
  rintro e w1 ⟨rfl, hI, hb1⟩
  have hb1' : Below w.heap.size w w1 := hb0.trans ((((Below.refl _ w0).alloc (Nat.le_refl _) _).trans hb1).mono hb0.size)
  have hsz0 : w0.heap.size ≤ w1.heap.size := (((Below.refl _ w0).alloc (Nat.le_refl _) _).trans hb1).size
  have hI0 : Lib.IsBuilder 87 5 w0.heap.size w0.heap.size (Lib.byteCells []) w1 := Or.inr hI
  have hle : w.heap.size ≤ w0.heap.size := hb0.size
  clear hI hb0 hb1
  generalize w0.heap.size = b0 at hI0 hsz0 hle ⊢
  go_wp2_with fail
  go_loopw [4, 5, 22] (fun v h i wr => ∃ (k B hv : Nat) (out : List UInt8), k ≤ t.size ∧ out.length ≤ k ∧ i = .int .i64 k ∧ v = .int .i64 B ∧ h = .int .i64 hv ∧ (hv = 0 ∨ hv = 2 ∨ hv = 4 ∨ hv = 6) ∧ Hid (B < 2 ^ hv) ∧ Hid (out ++ runH B hv (vals (t.data.toList.drop k)) = looseL s.data.toList) ∧ Lib.IsBuilder 87 5 b0 b0 (Lib.byteCells out) wr ∧ b0 ≤ wr.heap.size ∧ Below w.heap.size w wr) (fun _ _ i _ => t.size - (intOf i).toNat)
  case atStart => exact ⟨0, 0, 0, [], Nat.zero_le _, Nat.le_refl _, rfl, rfl, rfl, Or.inl rfl, (by show _ < _; decide), hst, hI0, hsz0, hb1'⟩
  case round =>
    clear hI0 hsz0 hb1' hst
    obtain ⟨k, B, hv, out, hk, hlo, rfl, rfl, rfl, hh, hB, hr, hI, hsz, hb⟩ := hrel
    have hlo' : (Lib.byteCells out).length + 1 ≤ 140737488355328 := by rw [Lib.byteCells_length]; omega
    by_cases hlt : k < t.size
    · have hdr := vals_drop t k hlt
      cases hvv : val t[k] with
      | none =>
        have hnx : Hid (out ++ runH B hv (vals (t.data.toList.drop (k + 1))) = looseL s.data.toList) := by
          show _ = _
          rw [← hr.out, hdr, hvv]
        have HV := Lib.hid hvv
        clear hvv hdr
        go_wp2_with fail
        refine (idx_none HV.out wr).mono ?_
        rintro e w2 ⟨rfl, rfl⟩
        go_wp2
        go_roundw
        case rel => exact ⟨k + 1, B, hv, out, by omega, by omega, by go_num, rfl, rfl, hh, hB, hnx, hI, hsz, hb⟩
        case measure => simp [intOf]; omega
      | some v =>
        have hv64 := val_lt hvv
        have HV := Lib.hid hvv
        have HST : Hid (vals (t.data.toList.drop k) = v :: vals (t.data.toList.drop (k + 1))) := by show _ = _; rw [hdr, hvv]
        clear hvv hdr
        rcases hh with rfl | rfl | rfl | rfl
        · have gB : B ≤ 0 := by have := hB.out; simp at this; omega
          have e1 := or6 (B * 64 : Int) v (by omega) (by omega) (by omega) (by omega) (by omega)
          have hnx : Hid (out ++ runH (B * 64 + v) 6 (vals (t.data.toList.drop (k + 1))) = looseL s.data.toList) := by show _ = _; rw [← hr.out, HST.out, runH_first]
          go_wp2_with fail
          refine (idx_some HV.out wr).mono ?_
          rintro e w2 ⟨rfl, rfl⟩
          go_wp2
          go_roundw
          case rel => exact ⟨k + 1, B * 64 + v, 6, out, by omega, by omega, by go_num, by go_num, rfl, by omega, by show _ < _; simp; omega, hnx, hI, hsz, hb⟩
          case measure => simp [intOf]; omega
        · have gB : B ≤ 3 := by have := hB.out; simp at this; omega
          have e1 := or6 (B * 64 : Int) v (by omega) (by omega) (by omega) (by omega) (by omega)
          have e2 := and0 ((B : Int) * 64 + v) (by omega) (by omega)
          have g3 : 0 ≤ (B : Int) * 64 + v := by omega
          have g4 : (B : Int) * 64 + v ≤ 255 := by omega
          have hnx : Hid ((out ++ [UInt8.ofNat (B * 64 + v)]) ++ runH (0) 0 (vals (t.data.toList.drop (k + 1))) = looseL s.data.toList) := by show _ = _; rw [← hr.out, HST.out, runH_two, List.append_assoc]; rfl
          have hcs : Hid (Lib.byteCells (out ++ [UInt8.ofNat (B * 64 + v)]) = Lib.byteCells out ++ [.int .u8 ((B : Int) * 64 + v)]) := by
            show _ = _
            rw [cells_snoc, ofNat_nat (by omega)]
            congr 1
          go_wp2_with fail
          refine (idx_some HV.out wr).mono ?_
          rintro e w2 ⟨rfl, rfl⟩
          go_wp2_with fail
          refine (Tryz.Builder_WriteByte b0 b0 _ _ _ hI hlo' hsz).mono ?_
          rintro e w2 ⟨rfl, h2, hb2⟩
          rw [← hcs.out] at h2
          go_wp2
          go_roundw
          case rel => exact ⟨k + 1, 0, 0, out ++ [UInt8.ofNat (B * 64 + v)], by omega, by rw [List.length_append]; simp; omega, by go_num, by go_num, rfl, by omega, by show _ < _; decide, hnx, Or.inr h2, Nat.le_trans hsz hb2.size, hb.trans (hb2.mono hle)⟩
          case measure => simp [intOf]; omega
        · have gB : B ≤ 15 := by have := hB.out; simp at this; omega
          have e1 := or6 (B * 64 : Int) v (by omega) (by omega) (by omega) (by omega) (by omega)
          have e2 := and3 ((B : Int) * 64 + v) (by omega) (by omega)
          have g3 : 0 ≤ ((B : Int) * 64 + v) / 4 := by omega
          have g4 : ((B : Int) * 64 + v) / 4 ≤ 255 := by omega
          have hnx : Hid ((out ++ [UInt8.ofNat ((B * 64 + v) / 4)]) ++ runH ((B * 64 + v) % 4) 2 (vals (t.data.toList.drop (k + 1))) = looseL s.data.toList) := by show _ = _; rw [← hr.out, HST.out, runH_four, List.append_assoc]; rfl
          have hcs : Hid (Lib.byteCells (out ++ [UInt8.ofNat ((B * 64 + v) / 4)]) = Lib.byteCells out ++ [.int .u8 (((B : Int) * 64 + v) / 4)]) := by
            show _ = _
            rw [cells_snoc, ofNat_nat (by omega)]
            congr 1
          go_wp2_with fail
          refine (idx_some HV.out wr).mono ?_
          rintro e w2 ⟨rfl, rfl⟩
          go_wp2_with fail
          refine (Tryz.Builder_WriteByte b0 b0 _ _ _ hI hlo' hsz).mono ?_
          rintro e w2 ⟨rfl, h2, hb2⟩
          rw [← hcs.out] at h2
          go_wp2
          go_roundw
          case rel => exact ⟨k + 1, (B * 64 + v) % 4, 2, out ++ [UInt8.ofNat ((B * 64 + v) / 4)], by omega, by rw [List.length_append]; simp; omega, by go_num, by go_num, rfl, by omega, by show _ < _; simp; omega, hnx, Or.inr h2, Nat.le_trans hsz hb2.size, hb.trans (hb2.mono hle)⟩
          case measure => simp [intOf]; omega
        · have gB : B ≤ 63 := by have := hB.out; simp at this; omega
          have e1 := or6 (B * 64 : Int) v (by omega) (by omega) (by omega) (by omega) (by omega)
          have e2 := and15 ((B : Int) * 64 + v) (by omega) (by omega)
          have g3 : 0 ≤ ((B : Int) * 64 + v) / 16 := by omega
          have g4 : ((B : Int) * 64 + v) / 16 ≤ 255 := by omega
          have hnx : Hid ((out ++ [UInt8.ofNat ((B * 64 + v) / 16)]) ++ runH ((B * 64 + v) % 16) 4 (vals (t.data.toList.drop (k + 1))) = looseL s.data.toList) := by show _ = _; rw [← hr.out, HST.out, runH_six, List.append_assoc]; rfl
          have hcs : Hid (Lib.byteCells (out ++ [UInt8.ofNat ((B * 64 + v) / 16)]) = Lib.byteCells out ++ [.int .u8 (((B : Int) * 64 + v) / 16)]) := by
            show _ = _
            rw [cells_snoc, ofNat_nat (by omega)]
            congr 1
          go_wp2_with fail
          refine (idx_some HV.out wr).mono ?_
          rintro e w2 ⟨rfl, rfl⟩
          go_wp2_with fail
          refine (Tryz.Builder_WriteByte b0 b0 _ _ _ hI hlo' hsz).mono ?_
          rintro e w2 ⟨rfl, h2, hb2⟩
          rw [← hcs.out] at h2
          go_wp2
          go_roundw
          case rel => exact ⟨k + 1, (B * 64 + v) % 16, 4, out ++ [UInt8.ofNat ((B * 64 + v) / 16)], by omega, by rw [List.length_append]; simp; omega, by go_num, by go_num, rfl, by omega, by show _ < _; simp; omega, hnx, Or.inr h2, Nat.le_trans hsz hb2.size, hb.trans (hb2.mono hle)⟩
          case measure => simp [intOf]; omega
    · have he : k = t.size := by omega
      subst he
      have hend : Hid (out = looseL s.data.toList) := by
        show _ = _
        rw [← hr.out, List.drop_of_length_le (by rw [← Lib.size_eq]; exact Nat.le_refl _)]
        simp [vals, runH]
      go_wp2_with fail
      refine (Tryz.Builder_String_any b0 b0 _ _ hI hsz).mono ?_
      rintro e w2 ⟨rfl, hb2⟩
      go_wp2
      go_ret
      exact ⟨ret_str hend.out, hb.trans (hb2.mono hle)⟩
end Go.Proofs.YtnnbbjdidbggmaaGreatDoor.B6
namespace Go.Proofs.YtnnbbjdidbggmaaGreatDoor.Q4
open Go Go.RowKit Go.Joins Kit

theorem value_any (c : UInt8) (w : World) :
    Calls Tryz.prog 134 #[.int .u8 (c.toNat : Int)] w fun e w' => e = .returned (.int .i64 (hv c)) ∧ w = w' := by
  have hc := c.toNat_lt
  by_cases h : 97 ≤ c.toNat ∧ c.toNat ≤ 102
  · have g1 : (97 : Int) ≤ c.toNat := by omega
    have g2 : (c.toNat : Int) ≤ 102 := by omega
    have hI : Hid (Lib.indexByte digL ((c.toNat : Int) - 32).toNat.toUInt8 = hv c) := by
      show _ = _
      rw [← idx_hv c, upN, if_pos h, show ((c.toNat : Int) - 32).toNat = c.toNat - 32 by omega]
    clear h
    go_enter Tryz.func134, Tryz.ntmps134
    go_wp2_with fail
    refine (Tryz.strings_IndexByte _ _ w).mono ?_
    rintro e w' ⟨rfl, rfl⟩
    go_wp2
    go_ret
    exact ⟨ret_int hI.out, rfl⟩
  · have hI : Hid (Lib.indexByte digL c = hv c) := by
      show _ = _
      rw [← idx_hv c, upN, if_neg h, u8_nat]
    rcases (show c.toNat < 97 ∨ 102 < c.toNat by omega) with g | g
    · have g1 : (c.toNat : Int) < 97 := by omega
      clear h
      go_enter Tryz.func134, Tryz.ntmps134
      go_wp2_with fail
      refine (Tryz.strings_IndexByte _ _ w).mono ?_
      rintro e w' ⟨rfl, rfl⟩
      go_wp2
      go_ret
      exact ⟨ret_int hI.out, rfl⟩
    · have g1 : 102 < (c.toNat : Int) := by omega
      clear h
      go_enter Tryz.func134, Tryz.ntmps134
      go_wp2_with fail
      refine (Tryz.strings_IndexByte _ _ w).mono ?_
      rintro e w' ⟨rfl, rfl⟩
      go_wp2
      go_ret
      exact ⟨ret_int hI.out, rfl⟩
theorem value_some {c : UInt8} {v : Nat} (h : hx c = some v) (w : World) :
    Calls Tryz.prog 134 #[.int .u8 (c.toNat : Int)] w fun e w' => e = .returned (.int .i64 (v : Int)) ∧ w = w' := by
  have := value_any c w
  rwa [hv_some h] at this
theorem value_none {c : UInt8} (h : hx c = none) (w : World) :
    Calls Tryz.prog 134 #[.int .u8 (c.toNat : Int)] w fun e w' => e = .returned (.int .i64 (-1)) ∧ w = w' := by
  have := value_any c w
  rwa [hv_none h] at this

theorem ext_drop (s : ByteArray) (k : Nat) : (s.extract k s.size).data.toList = s.data.toList.drop k := by
  rw [← Lib.toList_data, Lib.extract_toList, List.take_of_length_le (by rw [List.length_drop, ← Lib.size_eq]; exact Nat.le_refl _)]
theorem hv_in (c : UInt8) : -1 ≤ hv c ∧ hv c ≤ 15 := by
  cases h : hx c with
  | none => rw [hv_none h]; omega
  | some v => have := hx_lt h; rw [hv_some h]; omega

/-! ### What follows a sign of equality -/
def softB (s : ByteArray) : ByteArray := ⟨(soft s.data.toList).2.toArray⟩
theorem u8_or_low (a b : Nat) (ha : a < 16) (hb : b < 16) : bits .or .i64 ((a : Int) * 16) (b : Int) = (a : Int) * 16 + b :=
  bits_join .i64 62 (by decide) (fun n h0 h1 => by rw [IntKind.wrap_i64]; omega) 4 ((a : Int) * 16) (b : Int) (by omega) (by omega) (by omega) (by omega) (by omega) (by omega)
theorem byte_of {a b : Nat} (ha : a < 16) (hb : b < 16) : ((UInt8.ofNat (a * 16 + b)).toNat : Int) = (a : Int) * 16 + b := by simp; omega
theorem no_hasp {s : ByteArray} {p : List UInt8} (h : Lib.hasPrefix s.data.toList p = false) : Lib.trimPrefix s.data.toList p = s.data.toList := by rw [Lib.trimPrefix, h]; rfl
theorem lf_head (l : List UInt8) : Lib.hasPrefix l [10] = decide (l.head? = some 10) := by
  cases l with
  | nil => rfl
  | cons a r => simp [Lib.hasPrefix, List.isPrefixOf, eq_comm, Bool.beq_eq_decide_eq]
theorem crlf_head (l : List UInt8) : Lib.hasPrefix l [13, 10] = decide (l.take 2 = [13, 10]) := by
  rcases l with _ | ⟨a, _ | ⟨b, r⟩⟩
  · rfl
  · simp [Lib.hasPrefix, List.isPrefixOf]
  · by_cases h1 : a = 13
    · by_cases h2 : b = 10
      · simp [Lib.hasPrefix, List.isPrefixOf, h1, h2]
      · simp [Lib.hasPrefix, List.isPrefixOf, h1, h2, Ne.symm h2]
    · simp [Lib.hasPrefix, List.isPrefixOf, h1, Ne.symm h1]
/-- What strings.CutPrefix tells of the two ends of a line. -/
theorem cutLf {s : ByteArray} (w : World) : Calls Tryz.prog 107 #[.string s, .string ⟨#[10]⟩] w fun e w' => e = .returned (.tuple #[.string ⟨(Lib.trimPrefix s.data.toList [10]).toArray⟩, .bool (Lib.hasPrefix s.data.toList [10])]) ∧ w' = w := Tryz.strings_CutPrefix s ⟨#[10]⟩ w
theorem cutCrlf {s : ByteArray} (w : World) : Calls Tryz.prog 107 #[.string s, .string ⟨#[13, 10]⟩] w fun e w' => e = .returned (.tuple #[.string ⟨(Lib.trimPrefix s.data.toList [13, 10]).toArray⟩, .bool (Lib.hasPrefix s.data.toList [13, 10])]) ∧ w' = w := Tryz.strings_CutPrefix s ⟨#[13, 10]⟩ w

theorem soft_one {l : List UInt8} (h : l.head? = some 10) : Lib.hasPrefix l [10] = true ∧ Lib.trimPrefix l [10] = (soft l).2 ∧ (soft l).1 = [] := by
  have hp : Lib.hasPrefix l [10] = true := by rw [lf_head]; simpa using h
  refine ⟨hp, ?_, ?_⟩
  · rw [Lib.trimPrefix, hp, soft, if_pos h]; rfl
  · rw [soft, if_pos h]
theorem soft_two {l : List UInt8} (h : l.head? ≠ some 10) (h2 : l.take 2 = [13, 10]) : Lib.hasPrefix l [10] = false ∧ Lib.hasPrefix l [13, 10] = true ∧ Lib.trimPrefix l [13, 10] = (soft l).2 ∧ (soft l).1 = [] := by
  have hp : Lib.hasPrefix l [13, 10] = true := by rw [crlf_head]; simpa using h2
  refine ⟨by rw [lf_head]; simpa using h, hp, ?_, ?_⟩
  · rw [Lib.trimPrefix, hp, soft, if_neg h, if_pos h2]; rfl
  · rw [soft, if_neg h, if_pos h2]
theorem soft_none {l : List UInt8} (h : l.head? ≠ some 10) (h2 : l.take 2 ≠ [13, 10]) : Lib.hasPrefix l [10] = false ∧ Lib.hasPrefix l [13, 10] = false ∧ (soft l).2 = l ∧ (soft l).1 = [61] := by
  refine ⟨by rw [lf_head]; simpa using h, by rw [crlf_head]; simpa using h2, ?_, ?_⟩
  · rw [soft, if_neg h, if_neg h2]
  · rw [soft, if_neg h, if_neg h2]

set_option maxHeartbeats 400000 in
set_option maxRecDepth 100000 in
theorem next_any (B b : Nat) (l : List UInt8) (s : ByteArray) (w : World) (h : Lib.IsBuilderF 87 5 B b (Lib.byteCells l) w) (hl : l.length ≤ 8796093022208) (hBw : B ≤ w.heap.size) :
    Calls Tryz.prog 100 #[.pointer (some ⟨b, 0, none⟩), .string s] w fun e w' => e = .returned (.string ⟨(nextL s.data.toList).2.toArray⟩) ∧ (Lib.IsBuilderF 87 5 B b (Lib.byteCells (l ++ (nextL s.data.toList).1)) w' ∧ Below B w w') := by
  by_cases hs : s.size < 2
  · have g1 : (s.size : Int) < 2 := by omega
    have hn : Hid (nextL s.data.toList = soft s.data.toList) := by show _ = _; exact nextL_short (by rw [← Lib.size_eq]; exact hs)
    clear hs
    go_enter Tryz.func100, Tryz.ntmps100
    go_wp2_with fail
    by_cases h1 : s.data.toList.head? = some 10
    · have hso := soft_one h1
      have HP := Lib.hid hso.1
      have HT := Lib.hid hso.2.1
      have HE := Lib.hid hso.2.2
      clear hso h1
      refine wp_loop_rounds 1 ?_
      rw [rounds_succ]
      go_wp2_with fail
      refine (cutLf _).mono ?_
      rintro e w' ⟨rfl, rfl⟩
      rw [HP.out, HT.out]
      go_wp2
      go_ret
      rw [hn.out, HE.out, List.append_nil]
      exact ⟨rfl, h.alloc _, (Below.refl _ w).alloc hBw _⟩
    · by_cases h2 : s.data.toList.take 2 = [13, 10]
      · have hso := soft_two h1 h2
        have HP := Lib.hid hso.1
        have HQ := Lib.hid hso.2.1
        have HT := Lib.hid hso.2.2.1
        have HE := Lib.hid hso.2.2.2
        clear hso h1 h2
        refine wp_loop_rounds 2 ?_
        rw [rounds_succ]
        go_wp2_with fail
        refine (cutLf _).mono ?_
        rintro e w' ⟨rfl, rfl⟩
        rw [HP.out]
        go_wp2_with fail
        rw [rounds_succ]
        go_wp2_with fail
        refine (cutCrlf _).mono ?_
        rintro e w' ⟨rfl, rfl⟩
        rw [HQ.out, HT.out]
        go_wp2
        go_ret
        rw [hn.out, HE.out, List.append_nil]
        exact ⟨rfl, h.alloc _, (Below.refl _ w).alloc hBw _⟩
      · have hso := soft_none h1 h2
        have HP := Lib.hid hso.1
        have HQ := Lib.hid hso.2.1
        have HT := Lib.hid hso.2.2.1
        have HE := Lib.hid hso.2.2.2
        clear hso h1 h2
        refine wp_loop_rounds 3 ?_
        rw [rounds_succ]
        go_wp2_with fail
        refine (cutLf _).mono ?_
        rintro e w' ⟨rfl, rfl⟩
        rw [HP.out]
        go_wp2_with fail
        rw [rounds_succ]
        go_wp2_with fail
        refine (cutCrlf _).mono ?_
        rintro e w' ⟨rfl, rfl⟩
        rw [HQ.out]
        go_wp2_with fail
        rw [rounds_succ]
        go_wp2_with fail
        refine (Tryz.Builder_WriteByte_k B b _ _ _ (h.alloc _) (by rw [Lib.byteCells_length]; omega) (Nat.le_trans hBw (Nat.le_of_lt (lt_alloc w _)))).mono ?_
        rintro e w2 ⟨rfl, h2, hb2, _⟩
        go_wp2
        go_ret
        rw [hn.out, HE.out, HT.out]
        exact ⟨rfl, by rw [Kit.cells_snoc]; exact Or.inr h2, ((Below.refl _ w).alloc hBw _).trans hb2⟩
  · have g1 : (2 : Int) ≤ s.size := by omega
    have b0 : (0 : Int) < s.size := by omega
    have b1 : (1 : Int) < s.size := by omega
    obtain ⟨q, hq⟩ : ∃ q, s.data.toList = s[0] :: s[1] :: q := by
      have hl : s.data.toList.length = s.size := (Lib.size_eq s).symm
      refine ⟨s.data.toList.drop 2, ?_⟩
      rw [← byte_get s 0 (by omega), ← byte_get s 1 (by omega)]
      rw [← List.drop_eq_getElem_cons (by omega : 1 < s.data.toList.length), ← List.drop_eq_getElem_cons (by omega : 0 < s.data.toList.length)]
      rfl
    have c0 := s[0].toNat_lt
    have c1 := s[1].toNat_lt
    go_enter Tryz.func100, Tryz.ntmps100
    go_upto_region 2 with fail
    go_cut [5, 6] from 14 to 19 (fun x y wx => x = .int .i64 (hv s[0]) ∧ y = .int .i64 (hv s[1]) ∧ wx = w.drew)
    case first =>
      go_region_with ((go_at_call 134; refine (value_any _ _).mono ?_; rintro e w' ⟨rfl, rfl⟩))
      all_goals
        go_wp2_with fail
        go_meet
        exact ⟨rfl, rfl, rfl⟩
    case rest =>
      obtain ⟨rfl, rfl, rfl⟩ := hcut
      have hd : Lib.IsBuilderF 87 5 B b (Lib.byteCells l) w.drew := h
      have hbd : Below B w w.drew := (Below.refl _ w).drew
      have hBd : B ≤ w.drew.heap.size := hBw
      obtain ⟨wc, hwc⟩ : ∃ wc, w.drew = wc := ⟨_, rfl⟩
      rw [hwc] at hd hbd hBd ⊢
      clear hwc h hBw
      have v0 : -1 ≤ hv s[0] ∧ hv s[0] ≤ 15 := hv_in _
      have v1 : -1 ≤ hv s[1] ∧ hv s[1] ≤ 15 := hv_in _
      cases ha : hx s[0] with
      | none =>
        have hn : Hid (nextL s.data.toList = soft s.data.toList) := by show _ = _; rw [hq]; exact nextL_no1 ha _
        rw [hv_none ha]
        generalize hv s[1] = y1 at v1
        clear hq ha v0
        go_wp2_with fail
        by_cases h1 : s.data.toList.head? = some 10
        · have hso := soft_one h1
          have HP := Lib.hid hso.1
          have HT := Lib.hid hso.2.1
          have HE := Lib.hid hso.2.2
          clear hso h1
          refine wp_loop_rounds 1 ?_
          rw [rounds_succ]
          go_wp2_with fail
          refine (cutLf _).mono ?_
          rintro e w' ⟨rfl, rfl⟩
          rw [HP.out, HT.out]
          go_wp2
          go_ret
          rw [hn.out, HE.out, List.append_nil]
          exact ⟨rfl, hd.alloc _, hbd.alloc hBd _⟩
        · by_cases h2 : s.data.toList.take 2 = [13, 10]
          · have hso := soft_two h1 h2
            have HP := Lib.hid hso.1
            have HQ := Lib.hid hso.2.1
            have HT := Lib.hid hso.2.2.1
            have HE := Lib.hid hso.2.2.2
            clear hso h1 h2
            refine wp_loop_rounds 2 ?_
            rw [rounds_succ]
            go_wp2_with fail
            refine (cutLf _).mono ?_
            rintro e w' ⟨rfl, rfl⟩
            rw [HP.out]
            go_wp2_with fail
            rw [rounds_succ]
            go_wp2_with fail
            refine (cutCrlf _).mono ?_
            rintro e w' ⟨rfl, rfl⟩
            rw [HQ.out, HT.out]
            go_wp2
            go_ret
            rw [hn.out, HE.out, List.append_nil]
            exact ⟨rfl, hd.alloc _, hbd.alloc hBd _⟩
          · have hso := soft_none h1 h2
            have HP := Lib.hid hso.1
            have HQ := Lib.hid hso.2.1
            have HT := Lib.hid hso.2.2.1
            have HE := Lib.hid hso.2.2.2
            clear hso h1 h2
            refine wp_loop_rounds 3 ?_
            rw [rounds_succ]
            go_wp2_with fail
            refine (cutLf _).mono ?_
            rintro e w' ⟨rfl, rfl⟩
            rw [HP.out]
            go_wp2_with fail
            rw [rounds_succ]
            go_wp2_with fail
            refine (cutCrlf _).mono ?_
            rintro e w' ⟨rfl, rfl⟩
            rw [HQ.out]
            go_wp2_with fail
            rw [rounds_succ]
            go_wp2_with fail
            refine (Tryz.Builder_WriteByte_k B b _ _ _ (hd.alloc _) (by rw [Lib.byteCells_length]; omega) (Nat.le_trans hBd (Nat.le_of_lt (lt_alloc wc _)))).mono ?_
            rintro e w2 ⟨rfl, h2, hb2, _⟩
            go_wp2
            go_ret
            rw [hn.out, HE.out, HT.out]
            exact ⟨rfl, by rw [Kit.cells_snoc]; exact Or.inr h2, (hbd.alloc hBd _).trans hb2⟩
      | some a =>
        have a16 := hx_lt ha
        cases hb : hx s[1] with
        | none =>
          have hn : Hid (nextL s.data.toList = soft s.data.toList) := by show _ = _; rw [hq]; exact nextL_no2 hb _
          rw [hv_some ha, hv_none hb]
          clear hq ha hb v0 v1
          go_wp2_with fail
          by_cases h1 : s.data.toList.head? = some 10
          · have hso := soft_one h1
            have HP := Lib.hid hso.1
            have HT := Lib.hid hso.2.1
            have HE := Lib.hid hso.2.2
            clear hso h1
            refine wp_loop_rounds 1 ?_
            rw [rounds_succ]
            go_wp2_with fail
            refine (cutLf _).mono ?_
            rintro e w' ⟨rfl, rfl⟩
            rw [HP.out, HT.out]
            go_wp2
            go_ret
            rw [hn.out, HE.out, List.append_nil]
            exact ⟨rfl, hd.alloc _, hbd.alloc hBd _⟩
          · by_cases h2 : s.data.toList.take 2 = [13, 10]
            · have hso := soft_two h1 h2
              have HP := Lib.hid hso.1
              have HQ := Lib.hid hso.2.1
              have HT := Lib.hid hso.2.2.1
              have HE := Lib.hid hso.2.2.2
              clear hso h1 h2
              refine wp_loop_rounds 2 ?_
              rw [rounds_succ]
              go_wp2_with fail
              refine (cutLf _).mono ?_
              rintro e w' ⟨rfl, rfl⟩
              rw [HP.out]
              go_wp2_with fail
              rw [rounds_succ]
              go_wp2_with fail
              refine (cutCrlf _).mono ?_
              rintro e w' ⟨rfl, rfl⟩
              rw [HQ.out, HT.out]
              go_wp2
              go_ret
              rw [hn.out, HE.out, List.append_nil]
              exact ⟨rfl, hd.alloc _, hbd.alloc hBd _⟩
            · have hso := soft_none h1 h2
              have HP := Lib.hid hso.1
              have HQ := Lib.hid hso.2.1
              have HT := Lib.hid hso.2.2.1
              have HE := Lib.hid hso.2.2.2
              clear hso h1 h2
              refine wp_loop_rounds 3 ?_
              rw [rounds_succ]
              go_wp2_with fail
              refine (cutLf _).mono ?_
              rintro e w' ⟨rfl, rfl⟩
              rw [HP.out]
              go_wp2_with fail
              rw [rounds_succ]
              go_wp2_with fail
              refine (cutCrlf _).mono ?_
              rintro e w' ⟨rfl, rfl⟩
              rw [HQ.out]
              go_wp2_with fail
              rw [rounds_succ]
              go_wp2_with fail
              refine (Tryz.Builder_WriteByte_k B b _ _ _ (hd.alloc _) (by rw [Lib.byteCells_length]; omega) (Nat.le_trans hBd (Nat.le_of_lt (lt_alloc wc _)))).mono ?_
              rintro e w2 ⟨rfl, h2, hb2, _⟩
              go_wp2
              go_ret
              rw [hn.out, HE.out, HT.out]
              exact ⟨rfl, by rw [Kit.cells_snoc]; exact Or.inr h2, (hbd.alloc hBd _).trans hb2⟩
        | some b2 =>
          have b16 := hx_lt hb
          have hn : Hid (nextL s.data.toList = ([UInt8.ofNat (a * 16 + b2)], s.data.toList.drop 2)) := by
            show _ = _
            rw [hq, nextL_hex ha hb]
            rfl
          rw [hv_some ha, hv_some hb]
          have e1 := u8_or_low a b2 a16 b16
          have hby := Lib.hid (byte_of a16 b16)
          have g3 : (a : Int) * 16 + b2 ≤ 255 := by omega
          clear hq ha hb v0 v1
          go_wp2_with fail
          refine (Tryz.Builder_WriteByte_k B b _ _ _ hd (by rw [Lib.byteCells_length]; omega) hBd).mono ?_
          rintro e w2 ⟨rfl, h2, hb2, _⟩
          go_wp2
          go_ret
          rw [hn.out]
          rw [← hby.out, ← Kit.cells_snoc] at h2
          exact ⟨ret_bytes (ext_drop s 2), Or.inr h2, hbd.trans hb2⟩
end Go.Proofs.YtnnbbjdidbggmaaGreatDoor.Q4
namespace Go.Proofs.YtnnbbjdidbggmaaGreatDoor.Q4
open Go Go.RowKit Go.Joins Kit Srch

def lenV (v : Value) : Nat := match v with | .string t => t.size | _ => 0

set_option maxHeartbeats 1000000 in
set_option maxRecDepth 100000 in
theorem decode_any (s : ByteArray) (w : World) (hs : s.size ≤ 1099511627) (hE : Env w) :
    Calls Tryz.prog 60 #[.string s] w fun e w' => e = .returned (.string ⟨(plainL s.data.toList).toArray⟩) ∧ Below w.heap.size w w' := by
  go_enter Tryz.func60, Tryz.ntmps60
  go_wp2_with fail
  refine (Tryz.Builder_Grow_fresh w.heap.size w.heap.size s.size _ (Nat.le_refl _) (fresh_block w _ _) (by simp) (by omega)).mono ?_
  rintro e w1 ⟨rfl, hI, hb1⟩
  have hb0 : Below w.heap.size w w1 := ((Below.refl _ w).alloc (Nat.le_refl _) _).trans hb1
  have hB0 : Lib.IsBuilderF 87 5 w.heap.size w.heap.size (Lib.byteCells []) w1 := Lib.IsBuilderF.of (Or.inr hI)
  clear hI hb1
  go_wp2_with fail
  go_loopw [0] (fun v wr => ∃ (t : ByteArray) (out : List UInt8), v = .string t ∧ out.length + t.size ≤ s.size ∧ Hid (out ++ plainL t.data.toList = plainL s.data.toList) ∧ Lib.IsBuilderF 87 5 w.heap.size w.heap.size (Lib.byteCells out) wr ∧ Below w.heap.size w wr) (fun v _ => lenV v)
  case atStart => exact ⟨s, [], rfl, by simp, rfl, hB0, hb0⟩
  case round =>
    clear hB0 hb0
    obtain ⟨t, out, rfl, hlen, hq, hB, hb⟩ := hrel
    go_wp2_with fail
    refine (cut_any 61 t wr (by omega) (hE.next hb)).mono ?_
    rintro e w2 ⟨hc, hb2, hw2⟩
    have hB2 : Lib.IsBuilderF 87 5 w.heap.size w.heap.size (Lib.byteCells out) w2 := Bld.same_heap hB hw2
    have hbb := hb.trans (hb2.mono hb.size)
    clear hB hb hb2 hw2
    rcases hc with ⟨rfl, hno⟩ | ⟨a, r, hl, hno, rfl⟩
    · have hend := Lib.hid (show out ++ t.data.toList = plainL s.data.toList by rw [← hq.out, plain_self hno])
      clear hno
      go_wp2_with fail
      refine (Tryz.Builder_WriteString_k w.heap.size w.heap.size _ t _ hB2 (by rw [Lib.byteCells_length]; omega) hbb.size).mono ?_
      rintro e w3 ⟨rfl, h3, hb3, _⟩
      rw [Bld.str_cells, hend.out] at h3
      replace hb3 := hbb.trans hb3
      go_wp2_with fail
      refine (Tryz.Builder_String_any_k w.heap.size w.heap.size _ _ (Or.inr h3) hb3.size).mono ?_
      rintro e w4 ⟨rfl, _, hb4, _⟩
      go_wp2
      go_ret
      exact ⟨rfl, hb3.trans hb4⟩
    · have hn := nextL_len r.data.toList
      have hz : t.size = a.size + 1 + r.size := by rw [Lib.size_eq, hl, List.length_append, List.length_cons, ← Lib.size_eq, ← Lib.size_eq]; omega
      rw [← Lib.size_eq] at hn
      have hnx := Lib.hid (show ((out ++ a.data.toList) ++ (nextL r.data.toList).1) ++ plainL (nextL r.data.toList).2 = plainL s.data.toList by rw [← hq.out, hl, plain_app hno, plain_eq, List.append_assoc, List.append_assoc])
      have hla : (out ++ a.data.toList).length ≤ 1099511627776 := by rw [List.length_append, ← Lib.size_eq]; omega
      have hlo : ((out ++ a.data.toList) ++ (nextL r.data.toList).1).length + (nextL r.data.toList).2.length ≤ s.size := by rw [List.length_append, List.length_append, ← Lib.size_eq]; omega
      clear hno hl
      go_wp2_with fail
      refine (Tryz.Builder_WriteString_k w.heap.size w.heap.size _ a _ hB2 (by rw [Lib.byteCells_length]; omega) hbb.size).mono ?_
      rintro e w3 ⟨rfl, h3, hb3, _⟩
      rw [Bld.str_cells] at h3
      replace hb3 := hbb.trans hb3
      go_wp2_with fail
      refine (next_any w.heap.size w.heap.size _ r w3 (Or.inr h3) (by omega) hb3.size).mono ?_
      rintro e w4 ⟨rfl, h4, hb4⟩
      replace hb4 := hb3.trans hb4
      go_wp2
      go_roundw
      case rel => exact ⟨_, _, rfl, hlo, hnx, h4, hb4⟩
      case measure => show (nextL r.data.toList).2.toArray.size < t.size; simp; omega
def plainB (s : ByteArray) : ByteArray := ⟨(plainL s.data.toList).toArray⟩
def quoB (s : ByteArray) : ByteArray := ⟨(quoL 0 s.data.toList).toArray⟩
theorem plainB_data (s : ByteArray) : (plainB s).data.toList = plainL s.data.toList := by simp [plainB]
theorem quoB_data (s : ByteArray) : (quoB s).data.toList = quoL 0 s.data.toList := by simp [quoB]
theorem dec_call (s : ByteArray) (w : World) (hs : s.size ≤ 1099511627) (hE : Env w) :
    Calls Tryz.prog 60 #[.string s] w fun e w' => e = .returned (.string (plainB s)) ∧ Below w.heap.size w w' := decode_any s w hs hE
end Go.Proofs.YtnnbbjdidbggmaaGreatDoor.Q4
namespace Go.Proofs.YtnnbbjdidbggmaaGreatDoor
open Go Go.RowKit Go.Joins

/-- A slice of the call's own, its bytes; what was there when W0 stood is as it was. -/
structure Buf (W0 : World) (v : Value) (l : List UInt8) (w : World) : Prop where
  own : w.ownsRow W0.heap.size 5 1 v l.length (Lib.byteCells l)
  below : Below W0.heap.size W0 w
namespace Buf
theorem empty {W0 w : World} (hb : Below W0.heap.size W0 w) : Buf W0 (.slice none 0 0) [] w := ⟨⟨by decide, Or.inl ⟨rfl, rfl⟩⟩, hb⟩
theorem next {W0 w w' : World} {v : Value} {l : List UInt8} (h : Buf W0 v l w) (hb : Below w.heap.size w w') : Buf W0 v l w' :=
  ⟨Kit.ownsRow_below h.own hb, h.below.trans (hb.mono h.below.size)⟩
theorem app {ops : Array Oper} {rest : List Oper} {o : Oper} {a : Act} {Q : Exit → Act → World → Prop} (hgd : o.guard = none) (s x : Operand)
    (ho : o.op = .call { callee := .builtin .append, args := #[s, x], argTypes := #[32, 32] })
    (W0 w : World) (v : Value) (l : List UInt8) (hB : Buf W0 v l w) (cs : Array Value) (ns : List UInt8) (m cap : Nat) (hm : ns.length = m) (hcs : cs.toList = Lib.byteCells ns) (hs : a.eval s = v) (hx : a.eval x = .slice (some ⟨w.heap.size, 0, none⟩) m cap)
    (hlen : l.length + m ≤ 140737488355328)
    (h : ∀ v' w', Buf W0 v' (l ++ ns) w' → wpList Tryz.prog ops Q rest (a.put o.dst v') w') : wpList Tryz.prog ops Q (o :: rest) a (w.alloc (.cells cs 5)) := by
  obtain ⟨i0, hi, hz0, hz1, hz2⟩ := info_parts Kit.info5
  subst hm
  refine wpList_append_own _ hgd s x 32 ho W0.heap.size 5 i0 (.int .u8 0) 1 1 Tryz.underlying32 hi hz0 hz1 hz2 rfl (by decide) v l.length _ hs (hB.own.alloc _) ⟨w.heap.size, 0, none⟩ ns.length cap (Lib.byteCells ns) hx ?_ ?_ ?_ ?_ ?_ ?_ ?_
  · rw [Lib.byteCells_length, Nat.mul_one]
  · intro j u hj
    rw [show (⟨w.heap.size, 0, none⟩ : Addr).add j = ⟨w.heap.size, j, none⟩ by simp [Addr.add]; omega, Lib.cell_of_heap (Kit.fresh_block w _ _), ← Array.getElem?_toList, hcs]
    exact hj
  · intro u hu
    unfold Lib.byteCells at hu
    obtain ⟨c, _, rfl⟩ := List.mem_map.1 hu
    rfl
  · unfold maxLen; omega
  · omega
  · have := hB.below.size; simp; omega
  · intro v' w' ho' hg _
    refine h v' w' ⟨?_, ?_⟩
    · rw [List.length_append, Lib.byteCells_append]; exact ho'
    · exact (hB.below.alloc hB.below.size (Obj.cells cs 5)).grown hg (by have := hB.below.size; simp; omega) (fun j hj => (hB.own.lt j hj).1)
theorem app_text {ops : Array Oper} {rest : List Oper} {o : Oper} {a : Act} {Q : Exit → Act → World → Prop} (hgd : o.guard = none) (s x : Operand)
    (ho : o.op = .call { callee := .builtin .append, args := #[s, x], argTypes := #[32, 9] })
    (W0 w : World) (v : Value) (l : List UInt8) (hB : Buf W0 v l w) (t : ByteArray) (hs : a.eval s = v) (hx : a.eval x = .string t)
    (hlen : l.length + t.size ≤ 140737488355328)
    (h : ∀ v' w', Buf W0 v' (l ++ t.data.toList) w' → wpList Tryz.prog ops Q rest (a.put o.dst v') w') : wpList Tryz.prog ops Q (o :: rest) a w := by
  obtain ⟨i0, hi, hz0, hz1, hz2⟩ := info_parts Kit.info5
  refine Lib.wpList_append_own_string _ hgd s x 32 9 ho W0.heap.size 5 i0 Tryz.underlying32 Tryz.underlying9 hi hz0 hz1 hz2 v l.length _ hs hB.own t hx ?_ ?_ ?_ ?_
  · unfold maxLen; omega
  · omega
  · exact hB.below.size
  · intro v' w' ho' hg _
    refine h v' w' ⟨?_, ?_⟩
    · rw [List.length_append, Lib.byteCells_append, ← Lib.size_eq]
      exact ho'
    · exact hB.below.grown hg hB.below.size (fun j hj => (hB.own.lt j hj).1)
/-- The slice, as a text. -/
theorem string {W0 w : World} {v : Value} {l : List UInt8} (h : Buf W0 v l w) : (convert 32 9 v).run Tryz.prog w = .ok (.string ⟨l.toArray⟩) w := Kit.run_row l l.length v w W0.heap.size h.own
end Buf
end Go.Proofs.YtnnbbjdidbggmaaGreatDoor
namespace Go.Proofs.YtnnbbjdidbggmaaGreatDoor.Lk
open Go Go.RowKit Go.Joins Kit F0

/-- In the box at block A lies a slice of bytes of the call's own, in a block from B on; what was there when W0 stood is as it was. -/
structure GatB (W0 : World) (B A : Nat) (l : List UInt8) (w : World) : Prop where
  box : ∃ v, Boxed w A 32 v ∧ w.ownsRow B 5 1 v l.length (Lib.byteCells l)
  below : Below W0.heap.size W0 w
  base : W0.heap.size ≤ A
  rows : W0.heap.size ≤ B
  room : B ≤ w.heap.size
abbrev Gat (W0 : World) (A : Nat) (l : List UInt8) (w : World) : Prop := GatB W0 W0.heap.size A l w
theorem own_keep {w w' : World} {B : Nat} {e : TypeId} {v : Value} {n : Nat} {xs : List Value} (h : w.ownsRow B e 1 v n xs) (hk : ∀ g, v.ownBlock = some g → g < w.heap.size → w'.heap[g]? = w.heap[g]?) : w'.ownsRow B e 1 v n xs := by
  obtain ⟨h1, h2⟩ := h
  refine ⟨h1, ?_⟩
  rcases h2 with h2 | ⟨g, cap, cur, hv, hg, hh, r⟩
  · exact Or.inl h2
  · exact Or.inr ⟨g, cap, cur, hv, hg, by rw [hk g (by rw [hv]; rfl) (Array.getElem?_eq_some_iff.1 hh).1]; exact hh, r⟩
namespace GatB
variable {W0 w w' : World} {B A : Nat} {l : List UInt8}
theorem next (h : GatB W0 B A l w) (hb : Below w.heap.size w w') : GatB W0 B A l w' := by
  obtain ⟨v, h1, h2⟩ := h.box
  exact ⟨⟨v, h1.kept (grown_below hb) (by simp), own_keep h2 (fun g _ hl => hb.block g hl)⟩, h.below.trans (hb.mono h.below.size), h.base, h.rows, Nat.le_trans h.room hb.size⟩
theorem lt (h : GatB W0 B A l w) : A < w.heap.size := by
  obtain ⟨v, h1, _⟩ := h.box
  exact h1.lt
theorem size (h : GatB W0 B A l w) : W0.heap.size ≤ w.heap.size := h.below.size
end GatB
theorem gat_new (w : World) : Gat w w.heap.size [] (w.alloc (.cells #[.slice none 0 0] 32)) :=
  ⟨⟨_, Boxed.new w _ _, ⟨by decide, Or.inl ⟨rfl, rfl⟩⟩⟩, (Below.refl _ w).alloc (Nat.le_refl _) _, Nat.le_refl _, Nat.le_refl _, by simp⟩
/-- What a slice of bytes of the call's own is. -/
theorem buf_row {B n : Nat} {w : World} {v : Value} {xs : List Value} (h : w.ownsRow B 5 1 v n xs) {g : Nat} (hg : v.ownBlock = some g) : B ≤ g ∧ g < w.heap.size ∧ ∃ c fz, w.heap[g]? = some (.cells c 5 fz) := by
  rcases h.2 with ⟨rfl, _⟩ | ⟨g', cap, cur, rfl, hb, hh, _⟩
  · cases hg
  · simp only [Value.ownBlock, Option.some.injEq] at hg
    subst hg
    exact ⟨hb, (Array.getElem?_eq_some_iff.1 hh).1, _, _, hh⟩
theorem buf_form {B n : Nat} {w : World} {v : Value} {xs : List Value} (h : w.ownsRow B 5 1 v n xs) : ∃ ao cap, v = .slice ao n cap := by
  rcases h.2 with ⟨rfl, h0⟩ | ⟨g, cap, cur, rfl, _⟩
  · exact ⟨none, 0, by rw [h0]⟩
  · exact ⟨_, _, rfl⟩
/-- append of a text: what it leaves of the rest. -/
theorem buf_text {ops : Array Oper} {rest : List Oper} {o : Oper} {a : Act} {Q : Exit → Act → World → Prop} (hgd : o.guard = none) (s x : Operand)
    (ho : o.op = .call { callee := .builtin .append, args := #[s, x], argTypes := #[32, 9] })
    (B : Nat) (w : World) (v : Value) (l : List UInt8) (hB : w.ownsRow B 5 1 v l.length (Lib.byteCells l)) (t : ByteArray) (hs : a.eval s = v) (hx : a.eval x = .string t)
    (hlen : l.length + t.size ≤ 140737488355328) (hroom : B ≤ w.heap.size)
    (h : ∀ ao n c w', w'.ownsRow B 5 1 (.slice ao n c) (l ++ t.data.toList).length (Lib.byteCells (l ++ t.data.toList)) → w.grownBy w' v.ownBlock → wpList Tryz.prog ops Q rest (a.put o.dst (.slice ao n c)) w') : wpList Tryz.prog ops Q (o :: rest) a w := by
  obtain ⟨i0, hi, hz0, hz1, hz2⟩ := info_parts Kit.info5
  refine Lib.wpList_append_own_string _ hgd s x 32 9 ho B 5 i0 Tryz.underlying32 Tryz.underlying9 hi hz0 hz1 hz2 v l.length _ hs hB t hx ?_ ?_ ?_ ?_
  · unfold maxLen; omega
  · omega
  · exact hroom
  · intro v' w' ho' hg _
    have hb : w'.ownsRow B 5 1 v' (l ++ t.data.toList).length (Lib.byteCells (l ++ t.data.toList)) := by
      rw [List.length_append, Lib.byteCells_append, ← Lib.size_eq]
      exact ho'
    obtain ⟨ao, cap, rfl⟩ := buf_form hb
    exact h _ _ _ w' hb hg
/-- What adding leaves. -/
structure GoneB (W0 : World) (B A : Nat) (l : List UInt8) (w w' : World) : Prop where
  gat : GatB W0 B A l w'
  kept : Lib.OthersKept 5 (some A) w w'
  low : ∀ k, k < B → k ≠ A → w'.heap[k]? = w.heap[k]?
  below : Below W0.heap.size w w'
abbrev Gone (W0 : World) (A : Nat) (l : List UInt8) (w w' : World) : Prop := GoneB W0 W0.heap.size A l w w'
/-- The box turned to the grown slice. -/
theorem gat_put {W0 w W W' : World} {B A : Nat} {l l' : List UInt8} {v v' : Value} (hG : GoneB W0 B A l w W) (hbox : Boxed W A 32 v) (hB : W.ownsRow B 5 1 v l.length (Lib.byteCells l)) (hB' : W'.ownsRow B 5 1 v' l'.length (Lib.byteCells l')) (hg : W.grownBy W' v.ownBlock) :
    Boxed W' A 32 v ∧ GoneB W0 B A l' w (W'.setCell ⟨A, 0, none⟩ v') := by
  have hA := hG.gat.base
  have hrows := hG.gat.rows
  have hne : ∀ {u : Value} {n : Nat} {xs : List Value} {X : World}, X.ownsRow B 5 1 u n xs → Boxed X A 32 v → some A ≠ u.ownBlock := fun hX hY => hY.not_row (by decide) hX
  have hbox' : Boxed W' A 32 v := hbox.kept hg (hne hB hbox)
  have hrow : ∀ g, v.ownBlock = some g → ∃ c fz, W.heap[g]? = some (.cells c 5 fz) := fun g e => (buf_row hB e).2.2
  have hbg : ∀ k, v.ownBlock = some k → W0.heap.size ≤ k := fun k e => Nat.le_trans hrows (buf_row hB e).1
  refine ⟨hbox', ⟨⟨v', hbox'.set v', ?_⟩, ?_, hA, hrows, ?_⟩, ?_, ?_, ?_⟩
  · refine own_keep hB' (fun g hg' hl => ?_)
    refine Below.heap_setCell _ _ _ _ (fun e => ?_)
    exact hne hB' hbox' (by rw [hg']; exact congrArg some e.symm)
  · exact ((hG.gat.below.grown hg hG.gat.below.size hbg).setCell (p := ⟨A, 0, none⟩) hA v')
  · have := hG.gat.room
    have := hg.size
    simp only [World.setCell, Array.size_modify]
    omega
  · exact (hG.kept.grown hg hrow).setCell ⟨A, 0, none⟩ rfl v'
  · intro k hk hkA
    rw [Below.heap_setCell _ _ _ _ (fun e => hkA e)]
    rw [hg.block k (Nat.lt_of_lt_of_le hk hG.gat.room) (fun e => by have := (buf_row hB e.symm).1; omega)]
    exact hG.low k hk hkA
  · exact (hG.below.grown hg hG.gat.below.size hbg).setCell (p := ⟨A, 0, none⟩) hA v'
theorem gone_refl {W0 w : World} {B A : Nat} {l : List UInt8} (h : GatB W0 B A l w) : GoneB W0 B A l w w := ⟨h, Lib.OthersKept.refl _ _ _, fun _ _ _ => rfl, Below.refl _ _⟩
theorem gone_trans {W0 w w1 w2 : World} {B A : Nat} {l l' : List UInt8} (h : GoneB W0 B A l w w1) (k : GoneB W0 B A l' w1 w2) : GoneB W0 B A l' w w2 :=
  ⟨k.gat, h.kept.trans k.kept, fun i hi hA => (k.low i hi hA).trans (h.low i hi hA), h.below.trans k.below⟩
/-- Behind what leaves all that was there. -/
theorem gone_next {W0 w w1 w2 : World} {B A : Nat} {l : List UInt8} (h : GoneB W0 B A l w w1) (hb : Below w1.heap.size w1 w2) : GoneB W0 B A l w w2 :=
  ⟨h.gat.next hb, h.kept.below hb, fun i hi hA => (hb.block i (Nat.lt_of_lt_of_le hi h.gat.room)).trans (h.low i hi hA), h.below.trans (hb.mono h.gat.size)⟩
/-- A block of other things is as it was. -/
theorem gone_block {W0 w w' : World} {B A : Nat} {l : List UInt8} (h : GoneB W0 B A l w w') {k : Nat} {o : Obj} (hk : w.heap[k]? = some o) (hA : k ≠ A) (ho : ∀ c fz, o ≠ .cells c 5 fz) : w'.heap[k]? = some o := h.kept k o hk (fun e => hA (Option.some.inj e)) ho
theorem gone_cell {W0 w w' : World} {B A : Nat} {l : List UInt8} (h : GoneB W0 B A l w w') {g : Nat} {cs : Array Value} {T : TypeId} {fz : Nat × Nat} (hk : w.heap[g]? = some (.cells cs T fz)) (hT : T ≠ 5) (hA : g ≠ A) : w'.heap[g]? = some (.cells cs T fz) :=
  gone_block h hk hA (fun c f e => by injection e with _ e2; exact hT e2)

/-- Texts one behind the other. -/
def flatT (ts : List ByteArray) : List UInt8 := ts.flatMap (fun t => t.data.toList)
theorem flatT_nil : flatT [] = [] := rfl
theorem flatT_cons (t : ByteArray) (ts : List ByteArray) : flatT (t :: ts) = t.data.toList ++ flatT ts := rfl
theorem flatT_take (ts : List ByteArray) (k : Nat) (h : k < ts.length) : flatT (ts.take (k + 1)) = flatT (ts.take k) ++ ts[k].data.toList := by
  unfold flatT
  rw [List.take_succ_eq_append_getElem h, List.flatMap_append]
  simp
theorem flatT_le (ts : List ByteArray) (k : Nat) : (flatT (ts.take k)).length ≤ (flatT ts).length := by
  have : flatT ts = flatT (ts.take k) ++ flatT (ts.drop k) := by
    unfold flatT
    rw [← List.flatMap_append, List.take_append_drop]
  rw [this, List.length_append]
  omega
theorem flatT_at (ts : List ByteArray) (k : Nat) (h : k < ts.length) : (flatT (ts.take k)).length + ts[k].size ≤ (flatT ts).length := by
  have := flatT_le ts (k + 1)
  rw [flatT_take ts k h, List.length_append, ← Lib.size_eq] at this
  exact this

set_option maxHeartbeats 1000000 in
theorem gather_any (w : World) :
    Calls Tryz.prog 30 #[] w fun e w' => e = .returned (.tuple #[.func (.func 53) #[] #[.pointer (some ⟨w.heap.size, 0, none⟩)], .func (.func 54) #[] #[.pointer (some ⟨w.heap.size, 0, none⟩)]]) ∧ w' = w.alloc (.cells #[.slice none 0 0] 32) := by
  go_enter Tryz.func30, Tryz.ntmps30
  go_wp2
  go_ret2
  exact ⟨rfl, rfl⟩

set_option maxHeartbeats 1000000 in
theorem told_any (W0 : World) {B : Nat} (A : Nat) (l : List UInt8) (w : World) (h : GatB W0 B A l w) :
    Calls Tryz.prog 54 #[.pointer (some ⟨A, 0, none⟩)] w fun e w' => e = .returned (.string ⟨l.toArray⟩) ∧ w' = w := by
  obtain ⟨v, h1, h2⟩ := h.box
  have hc := h1.cell
  have hs := Kit.run_row l l.length v w B h2
  obtain ⟨ao, cap, rfl⟩ := buf_form h2
  clear h1 h2 h
  go_enter Tryz.func54, Tryz.ntmps54
  go_wp2
  go_ret
  exact ⟨rfl, rfl⟩

set_option maxHeartbeats 2000000 in
set_option maxRecDepth 100000 in
/-- The closure adds texts that lie in a block of their own. -/
theorem add_any (W0 : World) {B : Nat} (A : Nat) (l : List UInt8) (ts : List ByteArray) (cs : Array Value) (g n cap : Nat) (fz : Nat × Nat) (w : World) (h : GatB W0 B A l w) (hg : w.heap[g]? = some (.cells cs 9 fz)) (hcs : cs.toList = ts.map .string) (hn : ts.length = n) (hn9 : n ≤ 1099511627776) (hl : l.length + (flatT ts).length ≤ 1099511627776) :
    Calls Tryz.prog 53 #[.slice (some ⟨g, 0, none⟩) n cap, .pointer (some ⟨A, 0, none⟩)] w fun e w' => e = .returned (.tuple #[]) ∧ GoneB W0 B A (l ++ flatT ts) w w' := by
  subst hn
  have hgA : g ≠ A := by
    obtain ⟨v, h1, _⟩ := h.box
    intro e
    subst e
    rw [show w.heap[g]? = _ from h1] at hg
    injection hg with hg
    injection hg with _ hg
    exact absurd hg (by decide)
  have HG := Lib.hid hg
  have HCS := Lib.hid hcs
  have H0 : Hid (GoneB W0 B A (l ++ flatT (ts.take 0)) w w) := Lib.hid (by rw [List.take_zero, flatT_nil, List.append_nil]; exact gone_refl h)
  clear hg hcs h
  go_enter Tryz.func53, Tryz.ntmps53
  go_wp2_with fail
  go_loopw [7] (fun i wr => ∃ k : Nat, k ≤ ts.length ∧ i = .int .i64 (k : Int) ∧ Hid (GoneB W0 B A (l ++ flatT (ts.take k)) w wr)) (fun i _ => ts.length - (intOf i).toNat)
  case atStart => exact ⟨0, Nat.zero_le _, rfl, H0⟩
  case round =>
    clear H0
    obtain ⟨k, hk, rfl, hG⟩ := hrel
    by_cases hlt : k < ts.length
    · have gk : (k : Int) < (ts.length : Int) := by omega
      have hblk := gone_cell hG.out HG.out (by decide) hgA
      have hcell : wr.cell? ⟨g, k, none⟩ = some (.string ts[k]) := by
        rw [Lib.cell_of_heap hblk, ← Array.getElem?_toList, HCS.out, List.getElem?_map, List.getElem?_eq_getElem hlt]
        rfl
      obtain ⟨v, hv, hB⟩ := hG.out.gat.box
      have hc := hv.cell
      obtain ⟨ao, bcap, hvf⟩ := buf_form hB
      have hat := flatT_at ts k hlt
      have HNX : Hid (l ++ flatT (ts.take k) ++ ts[k].data.toList = l ++ flatT (ts.take (k + 1))) := Lib.hid (by rw [flatT_take ts k hlt, List.append_assoc])
      have hlen : (l ++ flatT (ts.take k)).length + ts[k].size ≤ 1099511627776 := by rw [List.length_append]; omega
      obtain ⟨L, hL⟩ : ∃ L, l ++ flatT (ts.take k) = L := ⟨_, rfl⟩
      obtain ⟨t, ht⟩ : ∃ t, ts[k] = t := ⟨_, rfl⟩
      rw [hL] at hB hlen HNX hG
      rw [hL] at hvf
      rw [ht] at hcell hlen HNX
      subst hvf
      have HV := Lib.hid hv
      have HBB := Lib.hid hB
      clear hblk hat hL ht hv hB
      go_wp2_with (at_builtin; refine buf_text rfl _ _ rfl B _ _ _ HBB.out t rfl rfl (by omega) hG.out.gat.room ?_)
      intro ao2 n2 c2 w' hB2 hg2
      have hput := gat_put (l' := L ++ t.data.toList) hG.out HV.out HBB.out (by rw [List.length_append, ← Lib.size_eq]; exact hB2) hg2
      have hc2 := hput.1.cell
      have hf2 := hput.1.frozen
      have HP := Lib.hid hput.2
      clear hput hB2 hg2 hc
      go_wp2_with fail
      go_roundw
      case rel => exact ⟨k + 1, by omega, by go_num, by rw [HNX.out] at HP; exact HP⟩
      case measure => simp [intOf]; omega
    · have he : k = ts.length := by omega
      subst he
      have HF : Hid (GoneB W0 B A (l ++ flatT ts) w wr) := Lib.hid (by have := hG.out; rw [List.take_of_length_le (Nat.le_refl _)] at this; exact this)
      clear hG
      go_wp2_with fail
      go_end0
      exact ⟨rfl, HF.out⟩
end Go.Proofs.YtnnbbjdidbggmaaGreatDoor.Lk
namespace Go.Proofs.YtnnbbjdidbggmaaGreatDoor.Wd
open Go

def tokB (c : UInt8) : Bool := visB c && c != 63
def runN (l : List UInt8) : Nat := (l.takeWhile tokB).length
theorem run_nil : runN [] = 0 := rfl
theorem run_stop {c : UInt8} (h : tokB c = false) (r : List UInt8) : runN (c :: r) = 0 := by unfold runN; rw [List.takeWhile_cons, h]; rfl
theorem run_more {c : UInt8} (h : tokB c = true) (r : List UInt8) : runN (c :: r) = runN r + 1 := by unfold runN; rw [List.takeWhile_cons, h]; rfl
theorem tok_low {c : UInt8} (h : c.toNat < 33) : tokB c = false := by unfold tokB; rw [visB_low h]; rfl
theorem tok_high {c : UInt8} (h : 126 < c.toNat) : tokB c = false := by unfold tokB; rw [visB_high h]; rfl
theorem tok_mark {c : UInt8} (h : c.toNat = 63) : tokB c = false := by
  obtain rfl : c = 63 := UInt8.toNat.inj h
  rfl
theorem tok_in {c : UInt8} (h : 33 ≤ c.toNat) (h2 : c.toNat ≤ 126) (h3 : c.toNat ≠ 63) : tokB c = true := by
  unfold tokB
  rw [visB_in h h2]
  simp only [Bool.true_and, bne_iff_ne]
  rintro rfl
  exact h3 rfl


theorem tok_of {l : List UInt8} (h : ∀ c ∈ l, c ≠ 63) (hv : visL l = true) : l.all tokB = true := by
  rw [List.all_eq_true]
  intro c hc
  unfold tokB
  rw [List.all_eq_true.1 hv c hc]
  simpa using h c hc
theorem tok_no {l : List UInt8} (h : l.all tokB = true) : ∀ c ∈ l, c ≠ 63 := by
  intro c hc
  have := List.all_eq_true.1 h c hc
  unfold tokB at this
  simp only [Bool.and_eq_true, bne_iff_ne] at this
  exact this.2
theorem tok_vis {l : List UInt8} (h : l.all tokB = true) : visL l = true := by
  unfold visL
  rw [List.all_eq_true]
  intro c hc
  have := List.all_eq_true.1 h c hc
  unfold tokB at this
  exact (Bool.and_eq_true_iff.1 this).1
theorem while_mark {a : List UInt8} (h : a.all tokB = true) (r : List UInt8) : (a ++ 63 :: r).takeWhile tokB = a ∧ (a ++ 63 :: r).dropWhile tokB = 63 :: r := by
  induction a with
  | nil => exact ⟨rfl, rfl⟩
  | cons c a ih =>
    simp only [List.all_cons, Bool.and_eq_true] at h
    obtain ⟨h1, h2⟩ := ih h.2
    rw [List.cons_append, List.takeWhile_cons, List.dropWhile_cons, h.1]
    exact ⟨congrArg (c :: ·) h1, h2⟩
theorem while_all (l : List UInt8) : (l.takeWhile tokB).all tokB = true := by
  induction l with
  | nil => rfl
  | cons c l ih =>
    rw [List.takeWhile_cons]
    cases h : tokB c
    · rfl
    · simp only [if_true, List.all_cons, h, ih, Bool.true_and]
theorem run_take (l : List UInt8) : l.take (runN l) = l.takeWhile tokB := by
  have h := List.takeWhile_append_dropWhile (p := tokB) (l := l)
  unfold runN
  generalize l.takeWhile tokB = a at h
  rw [← h]; simp
theorem run_drop (l : List UInt8) : l.drop (runN l) = l.dropWhile tokB := by
  have h := List.takeWhile_append_dropWhile (p := tokB) (l := l)
  unfold runN
  generalize l.dropWhile tokB = b at h
  generalize l.takeWhile tokB = a at h
  rw [← h]; simp
theorem run_le (l : List UInt8) : runN l ≤ l.length := (List.takeWhile_sublist _).length_le
/-- What a word looks like. -/
theorem tail_shape {r x : List UInt8} {n : Nat} (h : tailL r = some (x, n)) : ∃ (k0 : UInt8) (q u : List UInt8), r.dropWhile tokB = 63 :: k0 :: 63 :: q ∧ r.takeWhile tokB ≠ [] ∧ (wayB [k0] = true ∨ wayQ [k0] = true) ∧ q.dropWhile tokB = 63 :: 61 :: u := by
  obtain ⟨a, k, t, r3, e, hs, hn, ⟨a1, a2⟩, ⟨k1, k2⟩, t1, t2⟩ := tail_back h
  have ha := while_mark (tok_of a1 a2) (k ++ 63 :: (t ++ 63 :: 61 :: r3))
  have hw := says_way hs
  obtain ⟨k0, rfl⟩ : ∃ k0, k = [k0] := by
    unfold wayB wayQ at hw
    simp only [Bool.or_eq_true, beq_iff_eq] at hw
    rcases hw with (h | h) | (h | h) <;> exact ⟨_, h⟩
  refine ⟨k0, t ++ 63 :: 61 :: r3, r3, by rw [e, ha.2]; rfl, ?_, hw, (while_mark (tok_of t1 t2) (61 :: r3)).2⟩
  rw [e, ha.1]
  rintro rfl
  unfold saysL at hs
  cases ho : octL [k0] t with
  | none => rw [ho] at hs; cases hs
  | some o =>
    rw [ho] at hs
    have : setL [] o = none := by
      unfold setL
      rw [if_neg (by simp [Tx.foldL, utfN, ascN]), if_neg (by simp [Tx.foldL, latN])]
    rw [show setL [] o = some x from hs] at this
    cases this
theorem tail_end0 {r : List UInt8} (h : (r.dropWhile tokB).head? ≠ some 63) : tailL r = none := by
  cases e : tailL r with
  | none => rfl
  | some p => obtain ⟨k0, q, u, h1, -⟩ := tail_shape e; rw [h1] at h; exact absurd rfl h
theorem tail_end1 {r : List UInt8} (h : runN r = 0) : tailL r = none := by
  cases e : tailL r with
  | none => rfl
  | some p => obtain ⟨k0, q, u, -, h1, -⟩ := tail_shape e; exact absurd (List.length_eq_zero_iff.1 h) h1
theorem tail_end2 {r : List UInt8} (h : ((r.dropWhile tokB).drop 2).head? ≠ some 63) : tailL r = none := by
  cases e : tailL r with
  | none => rfl
  | some p => obtain ⟨k0, q, u, h1, -⟩ := tail_shape e; rw [h1] at h; exact absurd rfl h
theorem tail_end3 {r q : List UInt8} {k0 d : UInt8} (h : r.dropWhile tokB = 63 :: k0 :: d :: q) (h2 : wayB [k0] = false) (h3 : wayQ [k0] = false) : tailL r = none := by
  cases e : tailL r with
  | none => rfl
  | some p =>
    obtain ⟨k1, q1, u, h1, -, hw, -⟩ := tail_shape e
    rw [h1] at h
    obtain ⟨-, rfl, -⟩ : (63 : UInt8) = 63 ∧ k1 = k0 ∧ 63 :: q1 = d :: q := by simpa using h
    rw [h2, h3] at hw
    simp at hw
theorem tail_end4 {r q : List UInt8} {k0 : UInt8} (h : r.dropWhile tokB = 63 :: k0 :: 63 :: q) (h2 : (q.dropWhile tokB).take 2 ≠ [63, 61]) : tailL r = none := by
  cases e : tailL r with
  | none => rfl
  | some p =>
    obtain ⟨k1, q1, u, h1, -, -, hu⟩ := tail_shape e
    rw [h1] at h
    obtain ⟨-, rfl⟩ : k1 = k0 ∧ q1 = q := by simpa using h
    rw [hu] at h2
    exact absurd rfl h2
theorem tail_word {r q u : List UInt8} {k0 : UInt8} (h : r.dropWhile tokB = 63 :: k0 :: 63 :: q) (hk : wayB [k0] = true ∨ wayQ [k0] = true) (hu : q.dropWhile tokB = 63 :: 61 :: u) :
    tailL r = (saysL (r.takeWhile tokB) [k0] (q.takeWhile tokB)).map (fun x => (x, runN r + runN q + 7)) := by
  have e1 := List.takeWhile_append_dropWhile (p := tokB) (l := r)
  have e2 := List.takeWhile_append_dropWhile (p := tokB) (l := q)
  have v1 := while_all r
  have v2 := while_all q
  unfold runN
  rw [h] at e1
  rw [hu] at e2
  generalize r.takeWhile tokB = a at e1 v1
  generalize q.takeWhile tokB = t at e2 v2
  have hk2 : k0 ≠ 63 ∧ visL [k0] = true := by
    unfold wayB wayQ at hk
    simp only [Bool.or_eq_true, beq_iff_eq, List.cons.injEq, and_true] at hk
    rcases hk with (rfl | rfl) | (rfl | rfl) <;> decide
  have := tail_full (a := a) (k := [k0]) (t := t) u (tok_no v1) (by simpa using hk2.1) (tok_no v2) (tok_vis v1) hk2.2 (tok_vis v2)
  rw [← e1, ← e2, show a ++ 63 :: k0 :: 63 :: (t ++ 63 :: 61 :: u) = a ++ 63 :: ([k0] ++ 63 :: (t ++ 63 :: 61 :: u)) from rfl, this]
  congr 1
  funext x
  simp only [List.length_cons, List.length_nil, Prod.mk.injEq, true_and]
  omega
end Go.Proofs.YtnnbbjdidbggmaaGreatDoor.Wd
namespace Go.Proofs.YtnnbbjdidbggmaaGreatDoor.Wd
open Go Go.RowKit Go.Joins Kit

theorem drop_byte (s : ByteArray) (k : Nat) (h : k < s.size) : s.data.toList.drop k = s[k] :: s.data.toList.drop (k + 1) := by
  have hl : k < s.data.toList.length := by rw [← Lib.size_eq]; exact h
  rw [List.drop_eq_getElem_cons hl, byte_get s k h]
theorem latin_take (s : ByteArray) (k : Nat) (h : k < s.size) : latinL (s.data.toList.take (k + 1)) = latinL (s.data.toList.take k) ++ U8.putL (s[k].toNat : Int) := by
  have hl : k < s.data.toList.length := by rw [← Lib.size_eq]; exact h
  rw [List.take_succ_eq_append_getElem hl, latin_app, byte_get s k h, latin_cons, latin_nil, List.append_nil]
theorem latin_room (s : ByteArray) (k : Nat) : (latinL (s.data.toList.take k)).length ≤ 2 * k := by
  have := latin_len (s.data.toList.take k)
  rw [List.length_take] at this
  omega
theorem putB_le (r : Int) : (U8.putB r).size ≤ 4 := by
  have := U8.sizeN_le r
  rw [Lib.size_eq]
  show (U8.putL r).length ≤ 4
  rw [U8.putL_length]; exact this
end Go.Proofs.YtnnbbjdidbggmaaGreatDoor.Wd
namespace Go.Proofs.YtnnbbjdidbggmaaGreatDoor.Bld
open Go Go.RowKit Go.Joins

theorem below {T e : TypeId} {B b : Nat} {bs : List Value} {w w' : World} (h : Lib.IsBuilderF T e B b bs w) (hb : Below w.heap.size w w') : Lib.IsBuilderF T e B b bs w' := by
  have hg : w.grownBy w' none := ⟨hb.os, hb.tape, hb.output, hb.size, fun k hk _ => hb.block k hk⟩
  have one : ∀ p, Lib.BuilderAtF T e B b p bs w → Lib.BuilderAtF T e B b p bs w' := by
    intro p h
    have hlt := h.lt
    obtain ⟨hB, u, hb, hown, hne⟩ := h
    refine ⟨hB, u, (hg.block b hlt (fun e => by cases e)).trans hb, hown.kept hg ?_, hne⟩
    cases hu : u.ownBlock with
    | none => exact Or.inl rfl
    | some g => exact Or.inr (fun e' => by cases e')
  exact h.elim (fun x => .inl (one _ x)) (fun x => .inr (one _ x))
end Go.Proofs.YtnnbbjdidbggmaaGreatDoor.Bld
namespace Go.Proofs.YtnnbbjdidbggmaaGreatDoor.Wd
open Go Go.RowKit Go.Joins Kit

theorem replaceK_one (x y : UInt8) : ∀ (s : List UInt8), Lib.replaceK [x] [y] (Lib.count s [x]) s = s.map (fun c => if c = x then y else c)
  | [] => by rw [Lib.count_one]; rfl
  | b :: t => by
    have ih := replaceK_one x y t
    by_cases hb : b = x
    · subst hb
      have h0 : Lib.index (b :: t) [b] = (0 : Nat) := by rw [Lib.index_one, Lib.indexByte]; simp
      rw [Lib.count_cons_eq, Nat.add_comm, Lib.replaceK_hit [b] [y] _ _ 0 h0]
      simp only [List.take_zero, List.nil_append, List.length_singleton, Nat.zero_add, List.drop_succ_cons, List.drop_zero, List.map_cons, if_true, List.cons_append]
      rw [ih]
    · rw [Lib.count_cons_ne b x t hb, List.map_cons, if_neg hb, ← ih]
      cases hk : Lib.count t [x] with
      | zero => rw [Lib.replaceK, Lib.replaceK]
      | succ k =>
        obtain ⟨i, hi⟩ := Lib.index_of_count (s := t) (old := [x]) (by omega)
        have h1 : Lib.index (b :: t) [x] = (i + 1 : Nat) := by
          rw [Lib.index_one] at hi ⊢
          rw [Lib.indexByte, hi, if_neg (by simpa using hb), if_neg (by simp <;> omega)]
          simp
        rw [Lib.replaceK_hit [x] [y] k _ (i + 1) h1, Lib.replaceK_hit [x] [y] k _ i hi]
        simp
theorem replace_one (x y : UInt8) (h : x ≠ y) (s : List UInt8) : Lib.replaceAll s [x] [y] = s.map (fun c => if c = x then y else c) := by
  unfold Lib.replaceAll Lib.replace
  rw [if_neg (by simpa using h), show Lib.replaceNum s [x] (-1) = Lib.count s [x] by unfold Lib.replaceNum; rw [if_pos (Or.inl (by decide))]]
  exact replaceK_one x y s
theorem swap_any (x y : UInt8) (hxy : x ≠ y) (s : ByteArray) (w : World) (hs : s.size ≤ 1099511627) (hE : Srch.Env w) :
    Calls Tryz.prog 139 #[.string s, .string ⟨#[x]⟩, .string ⟨#[y]⟩] w fun e w' => e = .returned (.string ⟨(s.data.toList.map (fun c => if c = x then y else c)).toArray⟩) ∧ Below w.heap.size w w' := by
  obtain ⟨m, hm⟩ := hE.max w (Below.refl _ _)
  have hc := Lib.countB_le ⟨#[x]⟩ (by show 1 ≤ 1; decide) s.size s (Nat.le_refl _)
  refine (Tryz.strings_ReplaceAll s ⟨#[x]⟩ ⟨#[y]⟩ m w (by omega) hm (by show 1 ≤ 1; decide) (by show s.size + Lib.countB s ⟨#[x]⟩ * 1 ≤ _; omega)).mono ?_
  rintro e w' ⟨rfl, hb⟩
  refine ⟨?_, hb⟩
  rw [show (ByteArray.mk #[x]).data.toList = [x] from rfl, show (ByteArray.mk #[y]).data.toList = [y] from rfl, replace_one x y hxy]
theorem under_any (s : ByteArray) (w : World) (hs : s.size ≤ 1099511627) (hE : Srch.Env w) :
    Calls Tryz.prog 139 #[.string s, .string ⟨#[95]⟩, .string ⟨#[32]⟩] w fun e w' => e = .returned (.string ⟨(blankU s.data.toList).toArray⟩) ∧ Below w.heap.size w w' :=
  swap_any 95 32 (by decide) s w hs hE

set_option maxHeartbeats 1000000 in
set_option maxRecDepth 100000 in
theorem latin_any (s : ByteArray) (w : World) (hs : s.size ≤ 1099511627) :
    Calls Tryz.prog 140 #[.string s] w fun e w' => e = .returned (.string ⟨(latinL s.data.toList).toArray⟩) ∧ Below w.heap.size w w' := by
  go_enter Tryz.func140, Tryz.ntmps140
  go_wp2_with fail
  refine (Tryz.Builder_Grow_fresh w.heap.size w.heap.size s.size _ (Nat.le_refl _) (fresh_block w _ _) (by simp) (by omega)).mono ?_
  rintro e w1 ⟨rfl, hI, hb1⟩
  have hb0 : Below w.heap.size w w1 := ((Below.refl _ w).alloc (Nat.le_refl _) _).trans hb1
  have hB0 : Lib.IsBuilderF 87 5 w.heap.size w.heap.size (Lib.byteCells (latinL (s.data.toList.take 0))) w1 := by
    rw [List.take_zero]; exact Lib.IsBuilderF.of (Or.inr hI)
  clear hI hb1
  go_wp2_with fail
  go_loopw [10] (fun i wr => ∃ k : Nat, k ≤ s.size ∧ i = .int .i64 k ∧ Lib.IsBuilderF 87 5 w.heap.size w.heap.size (Lib.byteCells (latinL (s.data.toList.take k))) wr ∧ Below w.heap.size w wr) (fun i _ => s.size - (intOf i).toNat)
  case atStart => exact ⟨0, by omega, rfl, hB0, hb0⟩
  case round =>
    clear hB0 hb0
    obtain ⟨k, hk, rfl, hB, hb⟩ := hrel
    by_cases hlt : k < s.size
    · have gk : (k : Int) < (s.size : Int) := by omega
      have hr := latin_room s k
      have g0 := (s[k]).toNat_lt
      have hst := Lib.hid (latin_take s k hlt)
      have hp := putB_le (s[k].toNat : Int)
      obtain ⟨L, hL⟩ : ∃ L, latinL (s.data.toList.take k) = L := ⟨_, rfl⟩
      rw [hL] at hr hB hst
      clear hL
      go_wp2_with fail
      refine (U8.put_any (s[k].toNat : Int) wr).mono ?_
      rintro e w2 ⟨rfl, hb2⟩
      have hB2 := Bld.below hB hb2
      have hbb := hb.trans (hb2.mono hb.size)
      clear hB hb2 hb
      obtain ⟨T, hT⟩ : ∃ T, U8.putB (s[k].toNat : Int) = T := ⟨_, rfl⟩
      have hTd : Hid (T.data.toList = U8.putL (s[k].toNat : Int)) := Lib.hid (by rw [← hT]; simp [U8.putB])
      rw [hT] at hp ⊢
      clear hT
      go_wp2_with fail
      refine (Tryz.Builder_WriteString_k w.heap.size w.heap.size _ T _ hB2 (by rw [Lib.byteCells_length]; omega) hbb.size).mono ?_
      rintro e w3 ⟨rfl, h3, hb3, _⟩
      rw [Bld.str_cells, hTd.out, ← hst.out] at h3
      replace hb3 := hbb.trans hb3
      go_wp2
      go_roundw
      case rel => exact ⟨k + 1, by omega, by go_num, Or.inr h3, hb3⟩
      case measure => simp [intOf]; omega
    · have gk : ¬ (k : Int) < (s.size : Int) := by omega
      rw [List.take_of_length_le (by rw [← Lib.size_eq]; omega)] at hB
      go_wp2_with fail
      refine (Tryz.Builder_String_any_k w.heap.size w.heap.size _ _ hB hb.size).mono ?_
      rintro e w4 ⟨rfl, _, hb4, _⟩
      go_wp2
      go_ret
      exact ⟨rfl, hb.trans hb4⟩
end Go.Proofs.YtnnbbjdidbggmaaGreatDoor.Wd
namespace Go.Proofs.YtnnbbjdidbggmaaGreatDoor.Wd
open Go Go.RowKit Go.Joins Kit

theorem beq_list (s : ByteArray) (l : List UInt8) : (s.toList == l) = decide (s.data.toList = l) := by rw [Lib.toList_data]; by_cases h : s.data.toList = l <;> simp [h]
theorem set_utf {a o : List UInt8} (h : Tx.foldL a = utfN ∨ Tx.foldL a = ascN) : setL a o = if U8.validL o then some o else none := by unfold setL; rw [if_pos h]
theorem set_lat {a o : List UInt8} (h : Tx.foldL a = latN) : setL a o = some (latinL o) := by
  unfold setL
  rw [if_neg (by rw [h]; decide), if_pos h]
theorem set_none {a o : List UInt8} (h : Tx.foldL a ≠ utfN) (h1 : Tx.foldL a ≠ ascN) (h2 : Tx.foldL a ≠ latN) : setL a o = none := by
  unfold setL
  rw [if_neg (fun e => e.elim h h1), if_neg h2]
/-- What the charset makes of octets, as the program tells it. -/
def ends (a o : List UInt8) (x : ByteArray) (b : Bool) : Prop := b = (setL a o).isSome ∧ ∀ y, setL a o = some y → x.data.toList = y
theorem ends_utf {a o : List UInt8} {x : ByteArray} (h : Tx.foldL a = utfN ∨ Tx.foldL a = ascN) (hx : x.data.toList = o) : ends a o x (U8.validL o) := by
  unfold ends
  rw [set_utf h]
  cases U8.validL o
  · exact ⟨rfl, fun y hy => by cases hy⟩
  · exact ⟨rfl, fun y hy => by rw [hx]; simpa using hy⟩
theorem ends_lat {a o : List UInt8} {x : ByteArray} (h : Tx.foldL a = latN) (hx : x.data.toList = latinL o) : ends a o x true := by
  unfold ends
  rw [set_lat h]
  exact ⟨rfl, fun y hy => by rw [hx]; simpa using hy⟩
theorem ends_none {a o : List UInt8} {x : ByteArray} (h : Tx.foldL a ≠ utfN) (h1 : Tx.foldL a ≠ ascN) (h2 : Tx.foldL a ≠ latN) : ends a o x false := by
  unfold ends
  rw [set_none h h1 h2]
  exact ⟨rfl, fun y hy => by cases hy⟩
theorem says_oct {a k t o : List UInt8} (h : octL k t = some o) : saysL a k t = setL a o := by unfold saysL; rw [h]
theorem ret_two {x : ByteArray} {b c : Bool} (h : b = c) : Ending.returned (.tuple #[.string x, .bool b]) = Ending.returned (.tuple #[.string x, .bool c]) := by rw [h]
theorem set_cases (F a : ByteArray) (h : F.data.toList = Tx.foldL a.data.toList) : (Tx.foldL a.data.toList = utfN ∧ (F.toList == [117, 116, 102, 45, 56]) = true) ∨ (Tx.foldL a.data.toList = ascN ∧ (F.toList == [117, 116, 102, 45, 56]) = false ∧ (F.toList == [117, 115, 45, 97, 115, 99, 105, 105]) = true) ∨ (Tx.foldL a.data.toList = latN ∧ (F.toList == [117, 116, 102, 45, 56]) = false ∧ (F.toList == [117, 115, 45, 97, 115, 99, 105, 105]) = false ∧ (F.toList == [105, 115, 111, 45, 56, 56, 53, 57, 45, 49]) = true) ∨ ((Tx.foldL a.data.toList ≠ utfN ∧ Tx.foldL a.data.toList ≠ ascN ∧ Tx.foldL a.data.toList ≠ latN) ∧ (F.toList == [117, 116, 102, 45, 56]) = false ∧ (F.toList == [117, 115, 45, 97, 115, 99, 105, 105]) = false ∧ (F.toList == [105, 115, 111, 45, 56, 56, 53, 57, 45, 49]) = false) := by
  rw [beq_list, beq_list, beq_list, h]
  by_cases h1 : Tx.foldL a.data.toList = utfN
  · exact Or.inl ⟨h1, by rw [h1]; decide⟩
  · by_cases h2 : Tx.foldL a.data.toList = ascN
    · exact Or.inr (Or.inl ⟨h2, by rw [h2]; decide, by rw [h2]; decide⟩)
    · by_cases h3 : Tx.foldL a.data.toList = latN
      · exact Or.inr (Or.inr (Or.inl ⟨h3, by rw [h3]; decide, by rw [h3]; decide, by rw [h3]; decide⟩))
      · exact Or.inr (Or.inr (Or.inr ⟨⟨h1, h2, h3⟩, decide_eq_false h1, decide_eq_false h2, decide_eq_false h3⟩))
end Go.Proofs.YtnnbbjdidbggmaaGreatDoor.Wd
namespace Go.Proofs.YtnnbbjdidbggmaaGreatDoor.Wd
open Go Go.RowKit Go.Joins Kit

set_option maxHeartbeats 4000000 in
set_option maxRecDepth 100000 in
theorem meaning_any (a k t : ByteArray) (w : World) (ha : a.size ≤ 1099511627) (ht : t.size ≤ 1099511627) (hE : Srch.Env w) :
    Calls Tryz.prog 109 #[.string a, .string k, .string t] w fun e w' => ∃ x : ByteArray, e = .returned (.tuple #[.string x, .bool (saysL a.data.toList k.data.toList t.data.toList).isSome]) ∧ (∀ y, saysL a.data.toList k.data.toList t.data.toList = some y → x.data.toList = y) ∧ Below w.heap.size w w' := by
  have HE := Lib.hid hE
  clear hE
  have hf0 := Lib.hid (Tx.fold_any a)
  obtain ⟨F, hF⟩ : ∃ F : ByteArray, (⟨(Tx.foldL a.data.toList).toArray⟩ : ByteArray) = F := ⟨_, rfl⟩
  have HFD : Hid (F.data.toList = Tx.foldL a.data.toList) := Lib.hid (by rw [← hF])
  rw [hF] at hf0
  clear hF
  have HC : Hid ((Tx.foldL a.data.toList = utfN ∧ (F.toList == [117, 116, 102, 45, 56]) = true) ∨ (Tx.foldL a.data.toList = ascN ∧ (F.toList == [117, 116, 102, 45, 56]) = false ∧ (F.toList == [117, 115, 45, 97, 115, 99, 105, 105]) = true) ∨ (Tx.foldL a.data.toList = latN ∧ (F.toList == [117, 116, 102, 45, 56]) = false ∧ (F.toList == [117, 115, 45, 97, 115, 99, 105, 105]) = false ∧ (F.toList == [105, 115, 111, 45, 56, 56, 53, 57, 45, 49]) = true) ∨ ((Tx.foldL a.data.toList ≠ utfN ∧ Tx.foldL a.data.toList ≠ ascN ∧ Tx.foldL a.data.toList ≠ latN) ∧ (F.toList == [117, 116, 102, 45, 56]) = false ∧ (F.toList == [117, 115, 45, 97, 115, 99, 105, 105]) = false ∧ (F.toList == [105, 115, 111, 45, 56, 56, 53, 57, 45, 49]) = false)) := Lib.hid (by
    rw [beq_list, beq_list, beq_list, HFD.out]
    by_cases h1 : Tx.foldL a.data.toList = utfN
    · exact Or.inl ⟨h1, by rw [h1]; decide⟩
    · by_cases h2 : Tx.foldL a.data.toList = ascN
      · exact Or.inr (Or.inl ⟨h2, by rw [h2]; decide, by rw [h2]; decide⟩)
      · by_cases h3 : Tx.foldL a.data.toList = latN
        · exact Or.inr (Or.inr (Or.inl ⟨h3, by rw [h3]; decide, by rw [h3]; decide, by rw [h3]; decide⟩))
        · exact Or.inr (Or.inr (Or.inr ⟨⟨h1, h2, h3⟩, decide_eq_false h1, decide_eq_false h2, decide_eq_false h3⟩)))
  by_cases h0 : k = ⟨#[66]⟩
  · subst h0
    have HO : Hid (octL [66] t.data.toList = some (B6.looseL t.data.toList)) := Lib.hid rfl
    have hol := oct_len HO.out
    rw [← Lib.size_eq] at hol
    have HS : Hid (saysL a.data.toList [66] t.data.toList = setL a.data.toList (B6.looseL t.data.toList)) := Lib.hid (says_oct HO.out)
    obtain ⟨O, hO⟩ : ∃ O : ByteArray, (⟨(B6.looseL t.data.toList).toArray⟩ : ByteArray) = O := ⟨_, rfl⟩
    have HD : Hid ((B6.looseL t.data.toList) = O.data.toList) := Lib.hid (by rw [← hO])
    rw [HD.out] at hol
    rw [← Lib.size_eq] at hol
    have HX := Lib.hid (fun w1 hw1 => B6.loose_any t w1 (by omega) hw1)
    rw [hO] at HX
    clear hO
    rw [show (ByteArray.mk #[66]).data.toList = [66] from rfl]
    rw [HS.out, HD.out]
    go_enter Tryz.func109, Tryz.ntmps109
    go_wp2_with fail
    refine (HX.out w ⟨HE.out.max⟩).mono ?_
    rintro e w1 ⟨rfl, hb1⟩
    go_wp2_with fail
    refine (hf0.out w1 (by omega)).mono ?_
    rintro e w2 ⟨rfl, hb2⟩
    replace hb2 := hb1.trans (hb2.mono hb1.size)
    rcases HC.out with ⟨c0, g0⟩ | ⟨c0, g0, g1⟩ | ⟨c0, g0, g1, g2⟩ | ⟨c0, g0, g1, g2⟩
    · have HZ := Lib.hid (ends_utf (o := O.data.toList) (x := O) (Or.inl c0) rfl)
      clear c0
      go_wp2_with fail
      refine (U8.valid_any O (by omega) w2).mono ?_
      rintro e w3 ⟨rfl, rfl⟩
      go_wp2
      go_ret2
      exact ⟨O, ret_two HZ.out.1, HZ.out.2, hb2⟩
    · have HZ := Lib.hid (ends_utf (o := O.data.toList) (x := O) (Or.inr c0) rfl)
      clear c0
      go_wp2_with fail
      refine (U8.valid_any O (by omega) w2).mono ?_
      rintro e w3 ⟨rfl, rfl⟩
      go_wp2
      go_ret2
      exact ⟨O, ret_two HZ.out.1, HZ.out.2, hb2⟩
    · have HZ := Lib.hid (ends_lat (o := O.data.toList) (x := ⟨(latinL O.data.toList).toArray⟩) c0 rfl)
      clear c0
      go_wp2_with fail
      refine (latin_any O w2 (by omega)).mono ?_
      rintro e w3 ⟨rfl, hb3⟩
      go_wp2
      go_ret2
      exact ⟨_, ret_two HZ.out.1, HZ.out.2, hb2.trans (hb3.mono hb2.size)⟩
    · have HZ := Lib.hid (ends_none (o := O.data.toList) (x := ⟨#[]⟩) c0.1 c0.2.1 c0.2.2)
      clear c0
      go_wp2
      go_ret2
      exact ⟨_, ret_two HZ.out.1, HZ.out.2, hb2⟩
  · by_cases h1 : k = ⟨#[98]⟩
    · subst h1
      have HO : Hid (octL [98] t.data.toList = some (B6.looseL t.data.toList)) := Lib.hid rfl
      have hol := oct_len HO.out
      rw [← Lib.size_eq] at hol
      have HS : Hid (saysL a.data.toList [98] t.data.toList = setL a.data.toList (B6.looseL t.data.toList)) := Lib.hid (says_oct HO.out)
      obtain ⟨O, hO⟩ : ∃ O : ByteArray, (⟨(B6.looseL t.data.toList).toArray⟩ : ByteArray) = O := ⟨_, rfl⟩
      have HD : Hid ((B6.looseL t.data.toList) = O.data.toList) := Lib.hid (by rw [← hO])
      rw [HD.out] at hol
      rw [← Lib.size_eq] at hol
      have HX := Lib.hid (fun w1 hw1 => B6.loose_any t w1 (by omega) hw1)
      rw [hO] at HX
      clear hO
      rw [show (ByteArray.mk #[98]).data.toList = [98] from rfl]
      rw [HS.out, HD.out]
      go_enter Tryz.func109, Tryz.ntmps109
      go_wp2_with fail
      refine (HX.out w ⟨HE.out.max⟩).mono ?_
      rintro e w1 ⟨rfl, hb1⟩
      go_wp2_with fail
      refine (hf0.out w1 (by omega)).mono ?_
      rintro e w2 ⟨rfl, hb2⟩
      replace hb2 := hb1.trans (hb2.mono hb1.size)
      rcases HC.out with ⟨c0, g0⟩ | ⟨c0, g0, g1⟩ | ⟨c0, g0, g1, g2⟩ | ⟨c0, g0, g1, g2⟩
      · have HZ := Lib.hid (ends_utf (o := O.data.toList) (x := O) (Or.inl c0) rfl)
        clear c0
        go_wp2_with fail
        refine (U8.valid_any O (by omega) w2).mono ?_
        rintro e w3 ⟨rfl, rfl⟩
        go_wp2
        go_ret2
        exact ⟨O, ret_two HZ.out.1, HZ.out.2, hb2⟩
      · have HZ := Lib.hid (ends_utf (o := O.data.toList) (x := O) (Or.inr c0) rfl)
        clear c0
        go_wp2_with fail
        refine (U8.valid_any O (by omega) w2).mono ?_
        rintro e w3 ⟨rfl, rfl⟩
        go_wp2
        go_ret2
        exact ⟨O, ret_two HZ.out.1, HZ.out.2, hb2⟩
      · have HZ := Lib.hid (ends_lat (o := O.data.toList) (x := ⟨(latinL O.data.toList).toArray⟩) c0 rfl)
        clear c0
        go_wp2_with fail
        refine (latin_any O w2 (by omega)).mono ?_
        rintro e w3 ⟨rfl, hb3⟩
        go_wp2
        go_ret2
        exact ⟨_, ret_two HZ.out.1, HZ.out.2, hb2.trans (hb3.mono hb2.size)⟩
      · have HZ := Lib.hid (ends_none (o := O.data.toList) (x := ⟨#[]⟩) c0.1 c0.2.1 c0.2.2)
        clear c0
        go_wp2
        go_ret2
        exact ⟨_, ret_two HZ.out.1, HZ.out.2, hb2⟩
    · by_cases h2 : k = ⟨#[81]⟩
      · subst h2
        have HO : Hid (octL [81] t.data.toList = some (Q4.plainL (blankU t.data.toList))) := Lib.hid rfl
        have hol := oct_len HO.out
        rw [← Lib.size_eq] at hol
        have HS : Hid (saysL a.data.toList [81] t.data.toList = setL a.data.toList (Q4.plainL (blankU t.data.toList))) := Lib.hid (says_oct HO.out)
        obtain ⟨O, hO⟩ : ∃ O : ByteArray, (⟨(Q4.plainL (blankU t.data.toList)).toArray⟩ : ByteArray) = O := ⟨_, rfl⟩
        have HD : Hid ((Q4.plainL (blankU t.data.toList)) = O.data.toList) := Lib.hid (by rw [← hO])
        rw [HD.out] at hol
        rw [← Lib.size_eq] at hol
        obtain ⟨U, hU⟩ : ∃ U : ByteArray, (⟨(blankU t.data.toList).toArray⟩ : ByteArray) = U := ⟨_, rfl⟩
        have HUZ : Hid (U.size ≤ 1099511627) := Lib.hid (by rw [← hU, Lib.size_mk, blankU_length, ← Lib.size_eq]; exact ht)
        have HV := Lib.hid (fun w1 hw1 => under_any t w1 ht hw1)
        rw [hU] at HV
        have HX := Lib.hid (fun w1 hw1 => Q4.decode_any U w1 HUZ.out hw1)
        rw [show (⟨(Q4.plainL U.data.toList).toArray⟩ : ByteArray) = O by rw [← hO, ← hU]] at HX
        clear hU
        clear hO
        rw [show (ByteArray.mk #[81]).data.toList = [81] from rfl]
        rw [HS.out, HD.out]
        go_enter Tryz.func109, Tryz.ntmps109
        go_wp2_with fail
        refine (HV.out w HE.out).mono ?_
        rintro e w0 ⟨rfl, hb0⟩
        go_wp2_with fail
        refine (HX.out w0 (HE.out.next hb0)).mono ?_
        rintro e w1 ⟨rfl, hb1⟩
        replace hb1 := hb0.trans (hb1.mono hb0.size)
        clear hb0
        go_wp2_with fail
        refine (hf0.out w1 (by omega)).mono ?_
        rintro e w2 ⟨rfl, hb2⟩
        replace hb2 := hb1.trans (hb2.mono hb1.size)
        rcases HC.out with ⟨c0, g0⟩ | ⟨c0, g0, g1⟩ | ⟨c0, g0, g1, g2⟩ | ⟨c0, g0, g1, g2⟩
        · have HZ := Lib.hid (ends_utf (o := O.data.toList) (x := O) (Or.inl c0) rfl)
          clear c0
          go_wp2_with fail
          refine (U8.valid_any O (by omega) w2).mono ?_
          rintro e w3 ⟨rfl, rfl⟩
          go_wp2
          go_ret2
          exact ⟨O, ret_two HZ.out.1, HZ.out.2, hb2⟩
        · have HZ := Lib.hid (ends_utf (o := O.data.toList) (x := O) (Or.inr c0) rfl)
          clear c0
          go_wp2_with fail
          refine (U8.valid_any O (by omega) w2).mono ?_
          rintro e w3 ⟨rfl, rfl⟩
          go_wp2
          go_ret2
          exact ⟨O, ret_two HZ.out.1, HZ.out.2, hb2⟩
        · have HZ := Lib.hid (ends_lat (o := O.data.toList) (x := ⟨(latinL O.data.toList).toArray⟩) c0 rfl)
          clear c0
          go_wp2_with fail
          refine (latin_any O w2 (by omega)).mono ?_
          rintro e w3 ⟨rfl, hb3⟩
          go_wp2
          go_ret2
          exact ⟨_, ret_two HZ.out.1, HZ.out.2, hb2.trans (hb3.mono hb2.size)⟩
        · have HZ := Lib.hid (ends_none (o := O.data.toList) (x := ⟨#[]⟩) c0.1 c0.2.1 c0.2.2)
          clear c0
          go_wp2
          go_ret2
          exact ⟨_, ret_two HZ.out.1, HZ.out.2, hb2⟩
      · by_cases h3 : k = ⟨#[113]⟩
        · subst h3
          have HO : Hid (octL [113] t.data.toList = some (Q4.plainL (blankU t.data.toList))) := Lib.hid rfl
          have hol := oct_len HO.out
          rw [← Lib.size_eq] at hol
          have HS : Hid (saysL a.data.toList [113] t.data.toList = setL a.data.toList (Q4.plainL (blankU t.data.toList))) := Lib.hid (says_oct HO.out)
          obtain ⟨O, hO⟩ : ∃ O : ByteArray, (⟨(Q4.plainL (blankU t.data.toList)).toArray⟩ : ByteArray) = O := ⟨_, rfl⟩
          have HD : Hid ((Q4.plainL (blankU t.data.toList)) = O.data.toList) := Lib.hid (by rw [← hO])
          rw [HD.out] at hol
          rw [← Lib.size_eq] at hol
          obtain ⟨U, hU⟩ : ∃ U : ByteArray, (⟨(blankU t.data.toList).toArray⟩ : ByteArray) = U := ⟨_, rfl⟩
          have HUZ : Hid (U.size ≤ 1099511627) := Lib.hid (by rw [← hU, Lib.size_mk, blankU_length, ← Lib.size_eq]; exact ht)
          have HV := Lib.hid (fun w1 hw1 => under_any t w1 ht hw1)
          rw [hU] at HV
          have HX := Lib.hid (fun w1 hw1 => Q4.decode_any U w1 HUZ.out hw1)
          rw [show (⟨(Q4.plainL U.data.toList).toArray⟩ : ByteArray) = O by rw [← hO, ← hU]] at HX
          clear hU
          clear hO
          rw [show (ByteArray.mk #[113]).data.toList = [113] from rfl]
          rw [HS.out, HD.out]
          go_enter Tryz.func109, Tryz.ntmps109
          go_wp2_with fail
          refine (HV.out w HE.out).mono ?_
          rintro e w0 ⟨rfl, hb0⟩
          go_wp2_with fail
          refine (HX.out w0 (HE.out.next hb0)).mono ?_
          rintro e w1 ⟨rfl, hb1⟩
          replace hb1 := hb0.trans (hb1.mono hb0.size)
          clear hb0
          go_wp2_with fail
          refine (hf0.out w1 (by omega)).mono ?_
          rintro e w2 ⟨rfl, hb2⟩
          replace hb2 := hb1.trans (hb2.mono hb1.size)
          rcases HC.out with ⟨c0, g0⟩ | ⟨c0, g0, g1⟩ | ⟨c0, g0, g1, g2⟩ | ⟨c0, g0, g1, g2⟩
          · have HZ := Lib.hid (ends_utf (o := O.data.toList) (x := O) (Or.inl c0) rfl)
            clear c0
            go_wp2_with fail
            refine (U8.valid_any O (by omega) w2).mono ?_
            rintro e w3 ⟨rfl, rfl⟩
            go_wp2
            go_ret2
            exact ⟨O, ret_two HZ.out.1, HZ.out.2, hb2⟩
          · have HZ := Lib.hid (ends_utf (o := O.data.toList) (x := O) (Or.inr c0) rfl)
            clear c0
            go_wp2_with fail
            refine (U8.valid_any O (by omega) w2).mono ?_
            rintro e w3 ⟨rfl, rfl⟩
            go_wp2
            go_ret2
            exact ⟨O, ret_two HZ.out.1, HZ.out.2, hb2⟩
          · have HZ := Lib.hid (ends_lat (o := O.data.toList) (x := ⟨(latinL O.data.toList).toArray⟩) c0 rfl)
            clear c0
            go_wp2_with fail
            refine (latin_any O w2 (by omega)).mono ?_
            rintro e w3 ⟨rfl, hb3⟩
            go_wp2
            go_ret2
            exact ⟨_, ret_two HZ.out.1, HZ.out.2, hb2.trans (hb3.mono hb2.size)⟩
          · have HZ := Lib.hid (ends_none (o := O.data.toList) (x := ⟨#[]⟩) c0.1 c0.2.1 c0.2.2)
            clear c0
            go_wp2
            go_ret2
            exact ⟨_, ret_two HZ.out.1, HZ.out.2, hb2⟩
        · have HN : Hid (saysL a.data.toList k.data.toList t.data.toList = none) := Lib.hid (by
            unfold saysL octL wayB wayQ
            have e : ∀ b : UInt8, k ≠ ⟨#[b]⟩ → (k.data.toList == [b]) = false := fun b hb => by
              rw [beq_eq_false_iff_ne]
              intro e
              exact hb (Kit.bytes_ext (by rw [e]))
            rw [e 66 h0, e 98 h1, e 81 h2, e 113 h3]
            rfl)
          have f : ∀ b : UInt8, k ≠ ⟨#[b]⟩ → (k.toList == [b]) = false := fun b hb => by
            rw [beq_list, decide_eq_false_iff_not]
            intro e
            exact hb (Kit.bytes_ext (by rw [e]))
          have g0 := f 66 h0
          have g1 := f 98 h1
          have g2 := f 81 h2
          have g3 := f 113 h3
          clear h0 h1 h2 h3 f
          go_enter Tryz.func109, Tryz.ntmps109
          go_wp2
          go_ret2
          rw [HN.out]
          exact ⟨_, rfl, (fun y hy => by cases hy), Below.refl _ w⟩
end Go.Proofs.YtnnbbjdidbggmaaGreatDoor.Wd
namespace Go.Proofs.YtnnbbjdidbggmaaGreatDoor.Wd
open Go Go.RowKit Go.Joins Kit

set_option maxHeartbeats 400000 in
theorem vis_any (s : ByteArray) (w : World) (hs : s.size ≤ 1099511627776) :
    Calls Tryz.prog 108 #[.string s] w fun e w' => e = .returned (.bool (visL s.data.toList)) ∧ w = w' := by
  go_enter Tryz.func108, Tryz.ntmps108
  go_wp2_with fail
  go_loop [6] (fun i => ∃ k : Nat, k ≤ s.size ∧ Hid (visL (s.data.toList.take k) = true) ∧ i = .int .i64 k) (fun i => s.size - (intOf i).toNat)
  case atStart => exact ⟨0, by omega, rfl, rfl⟩
  case round =>
    obtain ⟨k, hk, hall, rfl⟩ := hrel
    by_cases hlt : k < s.size
    · have hl : k < s.data.toList.length := by rw [← Lib.size_eq]; exact hlt
      have hst := all_take_succ visB s.data.toList k hl
      rw [byte_get s k hlt] at hst
      have HST := Lib.hid hst
      have HG := Lib.hid (byte_get s k hlt)
      clear hst
      have g0 := (s[k]).toNat_lt
      by_cases h1 : s[k].toNat < 33
      · have hno : Hid (visL s.data.toList = false) := Lib.hid (visL_false hl (by rw [HG.out]; exact visB_low h1))
        have g1 : ((s[k].toNat : Int)) < 33 := by omega
        clear h1
        go_wp2
        go_ret
        exact ⟨ret_bool hno.out.symm, rfl⟩
      · by_cases h2 : 126 < s[k].toNat
        · have hno : Hid (visL s.data.toList = false) := Lib.hid (visL_false hl (by rw [HG.out]; exact visB_high h2))
          have g1 : ¬ ((s[k].toNat : Int)) < 33 := by omega
          have g2 : (126 : Int) < (s[k].toNat : Int) := by omega
          clear h1 h2
          go_wp2
          go_ret
          exact ⟨ret_bool hno.out.symm, rfl⟩
        · have hyes : Hid (visB s[k] = true) := Lib.hid (visB_in (by omega) (by omega))
          have g1 : ¬ ((s[k].toNat : Int)) < 33 := by omega
          have g2 : ¬ (126 : Int) < (s[k].toNat : Int) := by omega
          clear h1 h2
          go_wp2
          go_round
          case rel =>
            refine ⟨k + 1, by omega, ?_, by go_num⟩
            show _ = _
            unfold visL; rw [HST.out, show (s.data.toList.take k).all visB = true from hall.out, hyes.out]; rfl
          case measure => simp [intOf]; omega
    · have he : k = s.size := by omega
      subst he
      have hfull : Hid (visL s.data.toList = true) := Lib.hid (by
        have := hall.out
        rwa [List.take_of_length_le (by rw [← Lib.size_eq]; exact Nat.le_refl _)] at this)
      go_wp2
      go_ret
      exact ⟨ret_bool hfull.out.symm, rfl⟩
end Go.Proofs.YtnnbbjdidbggmaaGreatDoor.Wd
namespace Go.Proofs.YtnnbbjdidbggmaaGreatDoor.Wd
open Go Go.RowKit Go.Joins Kit

theorem set3 {W : World} {P i : Nat} {cs : Array Value} {T : TypeId} (v : Value) (h : W.heap[P]? = some (.cells cs T (0, 0))) : (W.setCell ⟨P, i, none⟩ v).heap[P]? = some (.cells (cs.setIfInBounds i v) T (0, 0)) := by
  simp [World.setCell, Array.getElem?_modify, h]
/-- What a word is in memory. -/
def encV (k t : Int) (x : ByteArray) : Value := .agg #[.int .i64 k, .int .i64 t, .string x]
theorem enc_result {fn : Func} {p u : Tmp} (h : fn.results = #[.cell p 97, .tmp u]) (tmps : Array Value) {w : World} {G : Nat} {k t : Int} {x : ByteArray}
    (hp : tmps.getD p undef = .pointer (some ⟨G, 0, none⟩)) (hb : w.heap[G]? = some (.cells #[.int .i64 k, .int .i64 t, .string x] 97 (0, 0))) : (results fn tmps).run Tryz.prog w = .ok (.tuple #[encV k t x, tmps.getD u undef]) w := by
  rw [results_cell_tmp h, hp]
  simp only [asAddr, Sem.run_pure, Result.andThen_ok]
  rw [run_loadVar_row w G 97 _ _ _ _ hb Tryz.underlying97 rfl (by kernel_rfl)]
  rfl
/-- What next returns. -/
def NextLeft (s : ByteArray) (a : Nat) (w : World) (e : Ending) (w' : World) : Prop :=
  ((e = .returned (.tuple #[encV 0 0 ⟨#[]⟩, .bool false]) ∧ ∀ j, a ≤ j → j < s.size → oneL (s.data.toList.drop j) = none) ∨
    ∃ (k n : Nat) (x : ByteArray), e = .returned (.tuple #[encV k ((k : Int) + (n : Int)) x, .bool true]) ∧ a ≤ k ∧ k < s.size ∧ (∀ j, a ≤ j → j < k → oneL (s.data.toList.drop j) = none) ∧ oneL (s.data.toList.drop k) = some (x.data.toList, n)) ∧ Below w.heap.size w w'

theorem pre_two (a b : UInt8) (l : List UInt8) : Lib.hasPrefix l [a, b] = decide (l.take 2 = [a, b]) := by
  rw [Bool.eq_iff_iff, decide_eq_true_iff]
  unfold Lib.hasPrefix
  rw [List.isPrefixOf_iff_prefix]
  constructor
  · rintro ⟨t, rfl⟩; rfl
  · intro h; exact ⟨l.drop 2, by rw [← h, List.take_append_drop]⟩
theorem pre_one (a : UInt8) (l : List UInt8) : Lib.hasPrefix l [a] = decide (l.head? = some a) := by
  rw [Bool.eq_iff_iff, decide_eq_true_iff]
  unfold Lib.hasPrefix
  rw [List.isPrefixOf_iff_prefix]
  constructor
  · rintro ⟨t, rfl⟩; rfl
  · intro h
    cases l with
    | nil => cases h
    | cons x r => exact ⟨r, by rw [List.head?_cons] at h; rw [Option.some.inj h]; rfl⟩
theorem more_none {l : List UInt8} {a k : Nat} (h : ∀ j, a ≤ j → j < k → oneL (l.drop j) = none) (h1 : oneL (l.drop k) = none) : ∀ j, a ≤ j → j < k + 1 → oneL (l.drop j) = none := by
  intro j hj hk
  by_cases e : j = k
  · rw [e]; exact h1
  · exact h j hj (by omega)

set_option maxHeartbeats 4000000 in
set_option maxRecDepth 100000 in
theorem next_any (s : ByteArray) (a : Nat) (w : World) (hs : s.size ≤ 1099511627) (ha : a ≤ s.size) (hE : Srch.Env w) :
    Calls Tryz.prog 72 #[.string s, .int .i64 a] w fun e w' => NextLeft s a w e w' := by
  have HE := Lib.hid hE
  clear hE
  go_enter Tryz.func72, Tryz.ntmps72
  go_wp2
  go_step3
  go_wp2
  go_step3
  go_wp2
  have hb0 : Below w.heap.size w (w.alloc (.cells #[.int .i64 0, .int .i64 0, .string ⟨#[]⟩] 97)) := (Below.refl _ w).alloc (Nat.le_refl _) _
  have hblk0 := Kit.fresh_block w #[.int .i64 0, .int .i64 0, .string ⟨#[]⟩] 97
  go_loopg [6] (s.size - a) (fun g f wr => ∃ k : Nat, k + g = s.size ∧ a ≤ k ∧ f = .int .i64 k ∧ Hid (∀ j, a ≤ j → j < k → oneL (s.data.toList.drop j) = none) ∧ wr.heap[w.heap.size]? = some (.cells #[.int .i64 0, .int .i64 0, .string ⟨#[]⟩] 97 (0, 0)) ∧ Below w.heap.size w wr)
  case atStart => exact ⟨a, by omega, Nat.le_refl _, rfl, Lib.hid (fun j h1 h2 => by omega), hblk0, hb0⟩
  case round =>
    clear hb0 hblk0
    obtain ⟨k, hkg, hak, rfl, HI, hblk, hb⟩ := hrel
    cases gk with
    | zero =>
      obtain rfl : k = s.size := by omega
      have c0 : wr.cell? ⟨w.heap.size, 0, none⟩ = some (.int .i64 0) := by rw [Lib.cell_of_heap hblk]; rfl
      have c1 : wr.cell? ⟨w.heap.size, 1, none⟩ = some (.int .i64 0) := by rw [Lib.cell_of_heap hblk]; rfl
      have c2 : wr.cell? ⟨w.heap.size, 2, none⟩ = some (.string ⟨#[]⟩) := by rw [Lib.cell_of_heap hblk]; rfl
      have f0 := Lib.frozen_of_heap hblk 0
      have f1 := Lib.frozen_of_heap hblk 1
      have f2 := Lib.frozen_of_heap hblk 2
      go_wp2
      rw [Exit.noGoto_ret]
      refine bodyPost_ret (enc_result (k := 0) (t := 0) (x := ⟨#[]⟩) rfl _ rfl (set3 _ (set3 _ (set3 _ hblk)))) rfl ?_
      exact ⟨Or.inl ⟨rfl, HI.out⟩, ((hb.setCell (p := ⟨w.heap.size, 0, none⟩) (Nat.le_refl _) _).setCell (p := ⟨w.heap.size, 1, none⟩) (Nat.le_refl _) _).setCell (p := ⟨w.heap.size, 2, none⟩) (Nat.le_refl _) _⟩
    | succ g =>
      have hlt : k < s.size := by omega
      have gk : (k : Int) < (s.size : Int) := by omega
      have hwl : w.heap.size < wr.heap.size := (Array.getElem?_eq_some_iff.1 hblk).1
      have hz : (s.extract k s.size).size = s.size - k := by rw [ByteArray.size_extract]; omega
      have hd := Q4.ext_drop s k
      obtain ⟨X, hX⟩ : ∃ X, s.extract k s.size = X := ⟨_, rfl⟩
      rw [hX] at hz hd
      go_wp2_with fail
      clear hX
      have HX := Lib.hid hd
      clear hd
      refine (Tryz.strings_CutPrefix X ⟨#[61, 63]⟩ wr).mono ?_
      rintro e wq ⟨rfl, hwq⟩
      subst hwq
      rw [show (ByteArray.mk #[61, 63]).data.toList = [61, 63] from rfl]
      have HPX := Lib.hid (pre_two 61 63 X.data.toList)
      by_cases h2 : X.data.toList.take 2 = [61, 63]
      rotate_left 1
      · have HNO : Hid (oneL (s.data.toList.drop k) = none) := Lib.hid (by rw [← HX.out]; exact one_no h2)
        have HF : Hid (Lib.hasPrefix X.data.toList [61, 63] = false) := Lib.hid (by rw [HPX.out]; exact decide_eq_false h2)
        rw [HF.out]
        clear h2
        go_wp2
        go_roundg g
        case measure => omega
        case rel => exact ⟨k + 1, by omega, by omega, by go_num, Lib.hid (more_none HI.out HNO.out), hblk, hb⟩
      have HT : Hid (Lib.hasPrefix X.data.toList [61, 63] = true) := Lib.hid (by rw [HPX.out]; exact decide_eq_true h2)
      obtain ⟨R0, hR0⟩ : ∃ R : ByteArray, (⟨(Lib.trimPrefix X.data.toList [61, 63]).toArray⟩ : ByteArray) = R := ⟨_, rfl⟩
      have HR0 : Hid (s.data.toList.drop k = 61 :: 63 :: R0.data.toList) := Lib.hid (by
        rw [← hR0, ← HX.out]
        show _ = 61 :: 63 :: Lib.trimPrefix X.data.toList [61, 63]
        unfold Lib.trimPrefix
        rw [HT.out, if_pos rfl]
        show _ = [61, 63] ++ X.data.toList.drop 2
        rw [← h2, List.take_append_drop])
      have HO : Hid (oneL (s.data.toList.drop k) = tailL R0.data.toList) := Lib.hid (by rw [HR0.out, one_yes])
      have hz0 : R0.size + 2 + k = s.size := by
        have := congrArg List.length HR0.out
        rw [List.length_drop, List.length_cons, List.length_cons, ← Lib.size_eq, ← Lib.size_eq] at this
        omega
      rw [HT.out, hR0]
      clear hR0 h2 hz
      have hP0 := Kit.fresh_block wq #[.string ⟨#[]⟩, .string ⟨#[]⟩, .string ⟨#[]⟩] 124
      have hE0 : (wq.alloc (.cells #[.string ⟨#[]⟩, .string ⟨#[]⟩, .string ⟨#[]⟩] 124)).heap[w.heap.size]? = _ := (Lib.alloc_old wq _ w.heap.size hwl).trans hblk
      have hB0 : Below w.heap.size w (wq.alloc (.cells #[.string ⟨#[]⟩, .string ⟨#[]⟩, .string ⟨#[]⟩] 124)) := hb.alloc hb.size _
      obtain ⟨P, hP⟩ : ∃ P, wq.heap.size = P := ⟨_, rfl⟩
      have hne : w.heap.size ≠ P := by omega
      have hPl : w.heap.size ≤ P := by omega
      go_wp2_with fail
      obtain ⟨W0, hW0⟩ : ∃ W, wq.alloc (.cells #[.string ⟨#[]⟩, .string ⟨#[]⟩, .string ⟨#[]⟩] 124) = W := ⟨_, rfl⟩
      rw [hW0] at hP0 hE0 hB0 ⊢
      rw [hP] at hP0
      clear hW0 hblk hb hwl
      refine wp_loop_rounds 4 ?_
      rw [rounds_succ]
      go_wp2_with fail
      refine (Srch.cut_any 63 R0 W0 (by omega) (HE.out.next hB0)).mono ?_
      rintro e V0 ⟨hc, hbc, hwc⟩
      rw [hwc] at hP0 hE0
      have hC0 := hB0.trans (hbc.mono hB0.size)
      clear hbc hwc hB0
      have c0 : V0.cell? ⟨P, 0, none⟩ = some (.string ⟨#[]⟩) := by rw [Lib.cell_of_heap hP0]; rfl
      have f0 := Lib.frozen_of_heap hP0 0
      rcases hc with ⟨rfl, hno⟩ | ⟨A0, R1, hl, hno, rfl⟩
      · have HNO : Hid (oneL (s.data.toList.drop k) = none) := Lib.hid (by rw [HO.out]; exact tail_no0 hno)
        have hE' := (Below.heap_setCell V0 ⟨P, 0, none⟩ (.string R0) w.heap.size hne).trans hE0
        have hB' := hC0.setCell (p := ⟨P, 0, none⟩) hPl (.string R0)
        clear hno
        go_wp2
        go_roundg g
        case measure => omega
        case rel => exact ⟨k + 1, by omega, by omega, by go_num, Lib.hid (more_none HI.out HNO.out), hE', hB'⟩
      have HL0 := Lib.hid hl
      have HN0 := Lib.hid hno
      have hz1 : A0.size + 1 + R1.size = R0.size := by rw [Lib.size_eq R0, hl, List.length_append, List.length_cons, ← Lib.size_eq, ← Lib.size_eq]; omega
      clear hl hno
      have hE1 := (Below.heap_setCell V0 ⟨P, 0, none⟩ (.string A0) w.heap.size hne).trans hE0
      have hB1 := hC0.setCell (p := ⟨P, 0, none⟩) hPl (.string A0)
      have hP1 := set3 (i := 0) (.string A0) hP0
      have c1 : (V0.setCell ⟨P, 0, none⟩ (.string A0)).cell? ⟨P, 0, none⟩ = some (.string A0) := by rw [Lib.cell_of_heap hP1]; rfl
      go_wp2_with fail
      refine (vis_any A0 _ (by omega)).mono ?_
      rintro e w' ⟨rfl, rfl⟩
      cases hv : visL A0.data.toList
      · have HNO : Hid (oneL (s.data.toList.drop k) = none) := Lib.hid (by rw [HO.out, HL0.out]; exact tail_bad0 HN0.out hv)
        clear hv
        go_wp2
        go_roundg g
        case measure => omega
        case rel => exact ⟨k + 1, by omega, by omega, by go_num, Lib.hid (more_none HI.out HNO.out), hE1, hB1⟩
      have HV0 := Lib.hid hv
      clear hv c0 c1 f0 hP0 hE0 hC0
      go_wp2_with fail
      obtain ⟨W1, hW⟩ : ∃ W, V0.setCell ⟨P, 0, none⟩ (.string A0) = W := ⟨_, rfl⟩
      rw [hW] at hP1 hE1 hB1 ⊢
      clear hW
      rw [show (#[.string ⟨#[]⟩, .string ⟨#[]⟩, .string ⟨#[]⟩] : Array Value).setIfInBounds 0 (.string A0) = #[.string A0, .string ⟨#[]⟩, .string ⟨#[]⟩] from rfl] at hP1
      rw [rounds_succ]
      go_wp2_with fail
      refine (Srch.cut_any 63 R1 W1 (by omega) (HE.out.next hB1)).mono ?_
      rintro e V1 ⟨hc, hbc, hwc⟩
      rw [hwc] at hP1 hE1
      have hC1 := hB1.trans (hbc.mono hB1.size)
      clear hbc hwc hB1
      have c0 : V1.cell? ⟨P, 1, none⟩ = some (.string ⟨#[]⟩) := by rw [Lib.cell_of_heap hP1]; rfl
      have f0 := Lib.frozen_of_heap hP1 1
      rcases hc with ⟨rfl, hno⟩ | ⟨A1, R2, hl, hno, rfl⟩
      · have HNO : Hid (oneL (s.data.toList.drop k) = none) := Lib.hid (by rw [HO.out, HL0.out]; exact tail_no1 HN0.out hno)
        have hE' := (Below.heap_setCell V1 ⟨P, 1, none⟩ (.string R1) w.heap.size hne).trans hE1
        have hB' := hC1.setCell (p := ⟨P, 1, none⟩) hPl (.string R1)
        clear hno
        go_wp2
        go_roundg g
        case measure => omega
        case rel => exact ⟨k + 1, by omega, by omega, by go_num, Lib.hid (more_none HI.out HNO.out), hE', hB'⟩
      have HL1 := Lib.hid hl
      have HN1 := Lib.hid hno
      have hz2 : A1.size + 1 + R2.size = R1.size := by rw [Lib.size_eq R1, hl, List.length_append, List.length_cons, ← Lib.size_eq, ← Lib.size_eq]; omega
      clear hl hno
      have hE2 := (Below.heap_setCell V1 ⟨P, 1, none⟩ (.string A1) w.heap.size hne).trans hE1
      have hB2 := hC1.setCell (p := ⟨P, 1, none⟩) hPl (.string A1)
      have hP2 := set3 (i := 1) (.string A1) hP1
      have c1 : (V1.setCell ⟨P, 1, none⟩ (.string A1)).cell? ⟨P, 1, none⟩ = some (.string A1) := by rw [Lib.cell_of_heap hP2]; rfl
      go_wp2_with fail
      refine (vis_any A1 _ (by omega)).mono ?_
      rintro e w' ⟨rfl, rfl⟩
      cases hv : visL A1.data.toList
      · have HNO : Hid (oneL (s.data.toList.drop k) = none) := Lib.hid (by rw [HO.out, HL0.out, HL1.out]; exact tail_bad1 HN0.out HN1.out hv)
        clear hv
        go_wp2
        go_roundg g
        case measure => omega
        case rel => exact ⟨k + 1, by omega, by omega, by go_num, Lib.hid (more_none HI.out HNO.out), hE2, hB2⟩
      have HV1 := Lib.hid hv
      clear hv c0 c1 f0 hP1 hE1 hC1
      go_wp2_with fail
      obtain ⟨W2, hW⟩ : ∃ W, V1.setCell ⟨P, 1, none⟩ (.string A1) = W := ⟨_, rfl⟩
      rw [hW] at hP2 hE2 hB2 ⊢
      clear hW
      rw [show (#[.string A0, .string ⟨#[]⟩, .string ⟨#[]⟩] : Array Value).setIfInBounds 1 (.string A1) = #[.string A0, .string A1, .string ⟨#[]⟩] from rfl] at hP2
      rw [rounds_succ]
      go_wp2_with fail
      refine (Srch.cut_any 63 R2 W2 (by omega) (HE.out.next hB2)).mono ?_
      rintro e V2 ⟨hc, hbc, hwc⟩
      rw [hwc] at hP2 hE2
      have hC2 := hB2.trans (hbc.mono hB2.size)
      clear hbc hwc hB2
      have c0 : V2.cell? ⟨P, 2, none⟩ = some (.string ⟨#[]⟩) := by rw [Lib.cell_of_heap hP2]; rfl
      have f0 := Lib.frozen_of_heap hP2 2
      rcases hc with ⟨rfl, hno⟩ | ⟨A2, R3, hl, hno, rfl⟩
      · have HNO : Hid (oneL (s.data.toList.drop k) = none) := Lib.hid (by rw [HO.out, HL0.out, HL1.out]; exact tail_no2 HN0.out HN1.out hno)
        have hE' := (Below.heap_setCell V2 ⟨P, 2, none⟩ (.string R2) w.heap.size hne).trans hE2
        have hB' := hC2.setCell (p := ⟨P, 2, none⟩) hPl (.string R2)
        clear hno
        go_wp2
        go_roundg g
        case measure => omega
        case rel => exact ⟨k + 1, by omega, by omega, by go_num, Lib.hid (more_none HI.out HNO.out), hE', hB'⟩
      have HL2 := Lib.hid hl
      have HN2 := Lib.hid hno
      have hz3 : A2.size + 1 + R3.size = R2.size := by rw [Lib.size_eq R2, hl, List.length_append, List.length_cons, ← Lib.size_eq, ← Lib.size_eq]; omega
      clear hl hno
      have hE3 := (Below.heap_setCell V2 ⟨P, 2, none⟩ (.string A2) w.heap.size hne).trans hE2
      have hB3 := hC2.setCell (p := ⟨P, 2, none⟩) hPl (.string A2)
      have hP3 := set3 (i := 2) (.string A2) hP2
      have c1 : (V2.setCell ⟨P, 2, none⟩ (.string A2)).cell? ⟨P, 2, none⟩ = some (.string A2) := by rw [Lib.cell_of_heap hP3]; rfl
      go_wp2_with fail
      refine (vis_any A2 _ (by omega)).mono ?_
      rintro e w' ⟨rfl, rfl⟩
      cases hv : visL A2.data.toList
      · have HNO : Hid (oneL (s.data.toList.drop k) = none) := Lib.hid (by rw [HO.out, HL0.out, HL1.out, HL2.out]; exact tail_bad2 HN0.out HN1.out HN2.out hv)
        clear hv
        go_wp2
        go_roundg g
        case measure => omega
        case rel => exact ⟨k + 1, by omega, by omega, by go_num, Lib.hid (more_none HI.out HNO.out), hE3, hB3⟩
      have HV2 := Lib.hid hv
      clear hv c0 c1 f0 hP2 hE2 hC2
      go_wp2_with fail
      obtain ⟨W3, hW⟩ : ∃ W, V2.setCell ⟨P, 2, none⟩ (.string A2) = W := ⟨_, rfl⟩
      rw [hW] at hP3 hE3 hB3 ⊢
      clear hW
      rw [show (#[.string A0, .string A1, .string ⟨#[]⟩] : Array Value).setIfInBounds 2 (.string A2) = #[.string A0, .string A1, .string A2] from rfl] at hP3
      rw [rounds_succ]
      go_wp2_with fail
      refine (Tryz.strings_CutPrefix R3 ⟨#[61]⟩ W3).mono ?_
      rintro e w' ⟨rfl, hw'⟩
      subst hw'
      rw [show (ByteArray.mk #[61]).data.toList = [61] from rfl]
      have HPR := Lib.hid (pre_one 61 R3.data.toList)
      by_cases h3 : R3.data.toList.head? = some 61
      rotate_left 1
      · have HNO : Hid (oneL (s.data.toList.drop k) = none) := Lib.hid (by rw [HO.out, HL0.out, HL1.out, HL2.out]; exact tail_open HN0.out HN1.out HN2.out h3)
        have HF : Hid (Lib.hasPrefix R3.data.toList [61] = false) := Lib.hid (by rw [HPR.out]; exact decide_eq_false h3)
        rw [HF.out]
        clear h3
        go_wp2
        go_roundg g
        case measure => omega
        case rel => exact ⟨k + 1, by omega, by omega, by go_num, Lib.hid (more_none HI.out HNO.out), hE3, hB3⟩
      have HF : Hid (Lib.hasPrefix R3.data.toList [61] = true) := Lib.hid (by rw [HPR.out]; exact decide_eq_true h3)
      obtain ⟨R4, hR4⟩ : ∃ R : ByteArray, (⟨(Lib.trimPrefix R3.data.toList [61]).toArray⟩ : ByteArray) = R := ⟨_, rfl⟩
      have HR4 : Hid (R3.data.toList = 61 :: R4.data.toList) := Lib.hid (by
        rw [← hR4]
        show _ = 61 :: Lib.trimPrefix R3.data.toList [61]
        unfold Lib.trimPrefix
        rw [HF.out, if_pos rfl]
        cases hr : R3.data.toList with
        | nil => rw [hr] at h3; cases h3
        | cons x q => rw [hr, List.head?_cons] at h3; rw [Option.some.inj h3]; rfl)
      have hz4 : R4.size + 1 = R3.size := by
        have := congrArg List.length HR4.out
        rw [List.length_cons, ← Lib.size_eq, ← Lib.size_eq] at this
        omega
      have HW : Hid (oneL (s.data.toList.drop k) = (saysL A0.data.toList A1.data.toList A2.data.toList).map (fun x => (x, A0.data.toList.length + A1.data.toList.length + A2.data.toList.length + 6))) := Lib.hid (by
        rw [HO.out, HL0.out, HL1.out, HL2.out, HR4.out]
        exact tail_full _ HN0.out HN1.out HN2.out HV0.out HV1.out HV2.out)
      rw [HF.out, hR4]
      clear hR4 h3
      have c0 : w'.cell? ⟨P, 0, none⟩ = some (.string A0) := by rw [Lib.cell_of_heap hP3]; rfl
      have c1 : w'.cell? ⟨P, 1, none⟩ = some (.string A1) := by rw [Lib.cell_of_heap hP3]; rfl
      have c2 : w'.cell? ⟨P, 2, none⟩ = some (.string A2) := by rw [Lib.cell_of_heap hP3]; rfl
      go_wp2_with fail
      refine (meaning_any A0 A1 A2 w' (by omega) (by omega) (HE.out.next hB3)).mono ?_
      rintro e w5 ⟨x, rfl, hx, hb5⟩
      have hwl : w.heap.size < w'.heap.size := (Array.getElem?_eq_some_iff.1 hE3).1
      have hE5 := (hb5.block _ hwl).trans hE3
      have hB5 := hB3.trans (hb5.mono hB3.size)
      clear c0 c1 c2 hb5 hP3 hE3 hB3 hwl
      cases hsay : saysL A0.data.toList A1.data.toList A2.data.toList with
      | none =>
        have HNO : Hid (oneL (s.data.toList.drop k) = none) := Lib.hid (by rw [HW.out, hsay]; rfl)
        clear hsay hx
        rw [show (none : Option (List UInt8)).isSome = false from rfl]
        go_wp2
        go_roundg g
        case measure => omega
        case rel => exact ⟨k + 1, by omega, by omega, by go_num, Lib.hid (more_none HI.out HNO.out), hE5, hB5⟩
      | some y =>
        have hy := hx y hsay
        have HY : Hid (oneL (s.data.toList.drop k) = some (x.data.toList, A0.size + A1.size + A2.size + 6)) := Lib.hid (by rw [HW.out, hsay, hy, Lib.size_eq, Lib.size_eq, Lib.size_eq]; rfl)
        rw [show (some y).isSome = true from rfl]
        clear hsay hx hy
        have d0 : w5.cell? ⟨w.heap.size, 0, none⟩ = some (.int .i64 0) := by rw [Lib.cell_of_heap hE5]; rfl
        have d1 : w5.cell? ⟨w.heap.size, 1, none⟩ = some (.int .i64 0) := by rw [Lib.cell_of_heap hE5]; rfl
        have d2 : w5.cell? ⟨w.heap.size, 2, none⟩ = some (.string ⟨#[]⟩) := by rw [Lib.cell_of_heap hE5]; rfl
        have f0 := Lib.frozen_of_heap hE5 0
        have f1 := Lib.frozen_of_heap hE5 1
        have f2 := Lib.frozen_of_heap hE5 2
        have hto : (s.size : Int) - (R4.size : Int) = (k : Int) + ((A0.size + A1.size + A2.size + 6 : Nat) : Int) := by omega
        have HTO := Lib.hid hto
        clear hto
        go_wp2
        rw [Exit.noGoto_ret]
        refine bodyPost_ret (enc_result (k := k) (t := (s.size : Int) - (R4.size : Int)) (x := x) rfl _ rfl (set3 _ (set3 _ (set3 _ hE5)))) rfl ?_
        exact ⟨Or.inr ⟨k, A0.size + A1.size + A2.size + 6, x, by rw [HTO.out]; rfl, hak, hlt, HI.out, HY.out⟩, ((hB5.setCell (p := ⟨w.heap.size, 0, none⟩) (Nat.le_refl _) _).setCell (p := ⟨w.heap.size, 1, none⟩) (Nat.le_refl _) _).setCell (p := ⟨w.heap.size, 2, none⟩) (Nat.le_refl _) _⟩
end Go.Proofs.YtnnbbjdidbggmaaGreatDoor.Wd
namespace Go.Proofs.YtnnbbjdidbggmaaGreatDoor.Wd
open Go

theorem trim_blank (l : List UInt8) : decide (Lib.trimS l [32, 9] = []) = blankL l := by
  have hb : (fun c : UInt8 => [32, 9].contains c) = blankB := by
    funext c
    simp only [List.contains_cons, List.contains_nil, Bool.or_false]
    rfl
  unfold Lib.trimS Lib.trimLeftS Lib.trimRightS
  rw [hb]
  cases h : blankL l
  · rw [decide_eq_false_iff_not]
    intro e
    rw [drop_all, List.all_reverse] at e
    obtain ⟨c, hc, hn⟩ := List.all_eq_false.1 h
    have hr : ∃ c ∈ (l.reverse).dropWhile blankB, ¬ blankB c = true := by
      refine Classical.byContradiction fun hx => ?_
      have e2 : ∀ m : List UInt8, (∀ c ∈ m.dropWhile blankB, blankB c = true) → ∀ c ∈ m, blankB c = true := by
        intro m
        induction m with
        | nil => intro _ c hc; cases hc
        | cons d m ih =>
          intro hm c hc
          rw [List.dropWhile_cons] at hm
          cases hd : blankB d
          · rw [hd] at hm
            exact hm c hc
          · rw [hd] at hm
            rcases List.mem_cons.1 hc with rfl | hc
            · exact hd
            · exact ih hm c hc
      exact hn (e2 l.reverse (fun c hc => Classical.byContradiction fun hcn => hx ⟨c, hc, hcn⟩) c (by simpa using hc))
    obtain ⟨c, hc, hn⟩ := hr
    exact hn (List.all_eq_true.1 e c hc)
  · rw [decide_eq_true_iff]
    have : (l.reverse).dropWhile blankB = [] := by rw [drop_all, List.all_reverse]; exact h
    rw [this]
    rfl
end Go.Proofs.YtnnbbjdidbggmaaGreatDoor.Wd
namespace Go.Proofs.YtnnbbjdidbggmaaGreatDoor.Wd
open Go Go.RowKit Go.Joins Kit

theorem trim_any (s : ByteArray) (w : World) (hs : s.size ≤ 2147483648) :
    Calls Tryz.prog 73 #[.string s, .string ⟨#[32, 9]⟩] w fun e w' => e = .returned (.string ⟨(Lib.trimS s.data.toList [32, 9]).toArray⟩) ∧ Below w.heap.size w w' :=
  Any.strings_Trim_laid Tryz.lays160 (by kernel_rfl) s ⟨#[32, 9]⟩ w (by omega) (by decide) (ascii_of_all (by decide))
/-- What the next word makes of a list. -/
theorem dec_found {s x : ByteArray} {a k n : Nat} (hak : a ≤ k) (hk : k < s.size) (h : ∀ j, a ≤ j → j < k → oneL (s.data.toList.drop j) = none) (h1 : oneL (s.data.toList.drop k) = some (x.data.toList, n)) (b : Bool) :
    decW b (s.data.toList.drop a) = (if b || !blankL (s.extract a k).data.toList then (s.extract a k).data.toList else []) ++ (x.data.toList ++ decW false (s.data.toList.drop (k + n))) := by
  have hl : s.data.toList.length = s.size := (Lib.size_eq s).symm
  have hf : findL (s.data.toList.drop a) = some ((s.data.toList.drop a).take (k - a), x.data.toList, (s.data.toList.drop a).drop (k - a + n)) := by
    refine find_some (by rw [List.length_drop, hl]; omega) (fun j hj => ?_) ?_
    · rw [List.drop_drop]; exact h _ (by omega) (by omega)
    · rw [List.drop_drop, show a + (k - a) = k by omega]; exact h1
  rw [decW_some b hf, Lib.extract_data, List.drop_drop, show a + (k - a + n) = k + n by omega]
theorem dec_rest {s : ByteArray} {a : Nat} (h : ∀ j, a ≤ j → j < s.size → oneL (s.data.toList.drop j) = none) (b : Bool) : decW b (s.data.toList.drop a) = s.data.toList.drop a := by
  refine decW_none b (find_none _ fun j hj => ?_)
  rw [List.length_drop, ← Lib.size_eq] at hj
  rw [List.drop_drop]
  exact h _ (by omega) (by omega)

set_option maxHeartbeats 4000000 in
set_option maxRecDepth 100000 in
theorem decode_any (s : ByteArray) (w : World) (hs : s.size ≤ 1099511627) (hE : Srch.Env w) :
    Calls Tryz.prog 39 #[.string s] w fun e w' => e = .returned (.string ⟨(decW true s.data.toList).toArray⟩) ∧ Below w.heap.size w w' := by
  have HE := Lib.hid hE
  clear hE
  go_enter Tryz.func39, Tryz.ntmps39
  go_wp2_with fail
  refine (Tryz.Builder_Grow_fresh w.heap.size w.heap.size s.size _ (Nat.le_refl _) (fresh_block w _ _) (by simp) (by omega)).mono ?_
  rintro e w1 ⟨rfl, hI, hb1⟩
  have hb0 : Below w.heap.size w w1 := ((Below.refl _ w).alloc (Nat.le_refl _) _).trans hb1
  have hB0 : Lib.IsBuilderF 87 5 w.heap.size w.heap.size (Lib.byteCells []) w1 := Lib.IsBuilderF.of (Or.inr hI)
  clear hI hb1
  go_wp2_with fail
  go_loopw [4] (fun d wr => ∃ (a : Nat) (out : List UInt8), d = .int .i64 a ∧ a ≤ s.size ∧ out.length ≤ 2 * a ∧ Hid (out ++ decW (decide (a = 0)) (s.data.toList.drop a) = decW true s.data.toList) ∧ Lib.IsBuilderF 87 5 w.heap.size w.heap.size (Lib.byteCells out) wr ∧ Below w.heap.size w wr) (fun d _ => s.size - (intOf d).toNat)
  case atStart => exact ⟨0, [], rfl, by omega, by simp, Lib.hid rfl, hB0, hb0⟩
  case round =>
    clear hB0 hb0
    obtain ⟨a, out, rfl, ha, hlen, hq, hB, hb⟩ := hrel
    go_wp2_with fail
    refine (next_any s a wr hs ha (HE.out.next hb)).mono ?_
    rintro e w2 ⟨hn, hb2⟩
    have hB2 := Bld.below hB hb2
    have hbb := hb.trans (hb2.mono hb.size)
    clear hB hb2 hb
    rcases hn with ⟨rfl, hno⟩ | ⟨k, n, x, rfl, hak, hks, hno, h1⟩
    · have hz : (s.extract a s.size).size = s.size - a := by rw [ByteArray.size_extract]; omega
      have hend := Lib.hid (show out ++ (s.extract a s.size).data.toList = decW true s.data.toList by rw [Q4.ext_drop, ← hq.out, dec_rest hno])
      clear hno
      obtain ⟨G, hG⟩ : ∃ G, s.extract a s.size = G := ⟨_, rfl⟩
      rw [hG] at hz hend
      unfold encV
      go_wp2_with fail
      have hB3 := Lib.IsBuilderF.alloc hB2 (.cells #[.int .i64 0, .int .i64 0, .string ⟨#[]⟩] 97)
      have hb3 : Below w.heap.size w (w2.alloc (.cells #[.int .i64 0, .int .i64 0, .string ⟨#[]⟩] 97)) := hbb.alloc hbb.size _
      refine (Tryz.Builder_WriteString_k w.heap.size w.heap.size _ G _ hB3 (by rw [Lib.byteCells_length]; omega) hb3.size).mono ?_
      rintro e w4 ⟨rfl, h4, hb4, _⟩
      rw [Bld.str_cells, hend.out] at h4
      replace hb4 := hb3.trans hb4
      clear hB2 hbb hB3 hb3
      go_wp2_with fail
      refine (Tryz.Builder_String_any_k w.heap.size w.heap.size _ _ (Or.inr h4) hb4.size).mono ?_
      rintro e w5 ⟨rfl, _, hb5, _⟩
      go_wp2
      go_ret
      exact ⟨rfl, hb4.trans hb5⟩
    · have ho := one_back h1
      rw [List.length_drop, ← Lib.size_eq, ← Lib.size_eq] at ho
      have hf := Lib.hid (dec_found hak hks hno h1 (decide (a = 0)))
      clear hno h1
      have hz : (s.extract a k).size = k - a := by rw [ByteArray.size_extract]; omega
      obtain ⟨G, hG⟩ : ∃ G, s.extract a k = G := ⟨_, rfl⟩
      rw [hG] at hz hf
      have hB3 := Lib.IsBuilderF.alloc hB2 (.cells #[.int .i64 k, .int .i64 ((k : Int) + (n : Int)), .string x] 97)
      have hb3 : Below w.heap.size w (w2.alloc (.cells #[.int .i64 k, .int .i64 ((k : Int) + (n : Int)), .string x] 97)) := hbb.alloc hbb.size _
      have hE3 := Kit.fresh_block w2 #[.int .i64 k, .int .i64 ((k : Int) + (n : Int)), .string x] 97
      obtain ⟨E, hEE⟩ : ∃ E, w2.heap.size = E := ⟨_, rfl⟩
      have hEne : E ≠ w.heap.size := by
        have h6 : w.heap.size < w2.heap.size := hB2.elim (fun x => x.lt) (fun x => x.lt)
        omega
      rw [hEE] at hE3
      clear hB2 hbb
      have HQ : Hid (∀ T : List UInt8, T = (if decide (a = 0) || !blankL G.data.toList then G.data.toList else []) → (out ++ T ++ x.data.toList) ++ decW (decide (k + n = 0)) (s.data.toList.drop (k + n)) = decW true s.data.toList) := Lib.hid (by
        intro T hT
        rw [← hq.out, hf.out, ← hT, show decide (k + n = 0) = false from decide_eq_false (by omega)]
        simp only [List.append_assoc])
      clear hq hf
      by_cases h0 : a = 0
      · subst h0
        have HT := Lib.hid (HQ.out G.data.toList (by simp))
        unfold encV
        go_wp2_with fail
        have HZT : Hid (G.data.toList.length = k) := Lib.hid (by rw [← Lib.size_eq]; omega)
        refine (Tryz.Builder_WriteString_k w.heap.size w.heap.size _ G _ hB3 (by rw [Lib.byteCells_length]; omega) hb3.size).mono ?_
        rintro e w4 ⟨rfl, h4, hb4, hk4⟩
        rw [Bld.str_cells] at h4
        have hE4 := hk4 E _ hE3 (fun e => hEne (Option.some.inj e)) (fun _ _ e => by cases e)
        replace hb4 := hb3.trans hb4
        replace h4 : Lib.IsBuilderF 87 5 w.heap.size w.heap.size _ w4 := Or.inr h4
        clear hk4 hE3 hB3 hb3
        have c2 : w4.cell? ⟨E, 2, none⟩ = some (.string x) := by rw [Lib.cell_of_heap hE4]; rfl
        go_wp2_with fail
        refine (Tryz.Builder_WriteString_k w.heap.size w.heap.size _ x _ h4 (by rw [Lib.byteCells_length, List.length_append, HZT.out]; omega) hb4.size).mono ?_
        rintro e w6 ⟨rfl, h6, hb6, hk6⟩
        rw [Bld.str_cells] at h6
        have hE6 := hk6 E _ hE4 (fun e => hEne (Option.some.inj e)) (fun _ _ e => by cases e)
        replace hb6 := hb4.trans hb6
        have c1 : w6.cell? ⟨E, 1, none⟩ = some (.int .i64 ((k : Int) + (n : Int))) := by rw [Lib.cell_of_heap hE6]; rfl
        clear c2 hk6 hE4 h4 hb4
        go_wp2
        go_roundw
        case rel => exact ⟨k + n, _, by go_num, by omega, by rw [List.length_append, List.length_append, ← Lib.size_eq x, HZT.out]; omega, HT, Or.inr h6, hb6⟩
        case measure => simp [intOf]; omega
      · have g0 : ((a : Int) == 0) = false := by rw [beq_eq_false_iff_ne]; omega
        have hda : decide (a = 0) = false := decide_eq_false h0
        unfold encV
        go_wp2_with fail
        refine (trim_any G _ (by omega)).mono ?_
        rintro e w3 ⟨rfl, hb0⟩
        have hsz3 : E < (w2.alloc (.cells #[.int .i64 k, .int .i64 ((k : Int) + (n : Int)), .string x] 97)).heap.size := (Array.getElem?_eq_some_iff.1 hE3).1
        replace hE3 := (hb0.block E hsz3).trans hE3
        replace hB3 := Bld.below hB3 hb0
        replace hb3 := hb3.trans (hb0.mono hb3.size)
        clear hb0 hsz3 hEE
        have htb := trim_blank G.data.toList
        obtain ⟨T, hT⟩ : ∃ T : ByteArray, (⟨(Lib.trimS G.data.toList [32, 9]).toArray⟩ : ByteArray) = T := ⟨_, rfl⟩
        have hTd : T.data.toList = Lib.trimS G.data.toList [32, 9] := by rw [← hT]
        rw [← hTd] at htb
        rw [hT]
        clear hT hTd
        cases hbl : blankL G.data.toList
        · have HT := Lib.hid (HQ.out G.data.toList (by simp [hbl]))
          have HZT : Hid (G.data.toList.length = k - a) := Lib.hid (by rw [← Lib.size_eq]; omega)
          rw [hbl, decide_eq_false_iff_not] at htb
          have g1 : T.toList.isEmpty = false := by rw [Lib.toList_data]; cases h : T.data.toList with | nil => exact absurd h htb | cons _ _ => rfl
          clear hbl htb
          go_wp2_with fail
          refine (Tryz.Builder_WriteString_k w.heap.size w.heap.size _ G _ hB3 (by rw [Lib.byteCells_length]; omega) hb3.size).mono ?_
          rintro e w4 ⟨rfl, h4, hb4, hk4⟩
          rw [Bld.str_cells] at h4
          have hE4 := hk4 E _ hE3 (fun e => hEne (Option.some.inj e)) (fun _ _ e => by cases e)
          replace hb4 := hb3.trans hb4
          replace h4 : Lib.IsBuilderF 87 5 w.heap.size w.heap.size _ w4 := Or.inr h4
          clear hk4 hE3 hB3 hb3
          have c2 : w4.cell? ⟨E, 2, none⟩ = some (.string x) := by rw [Lib.cell_of_heap hE4]; rfl
          go_wp2_with fail
          refine (Tryz.Builder_WriteString_k w.heap.size w.heap.size _ x _ h4 (by rw [Lib.byteCells_length, List.length_append, HZT.out]; omega) hb4.size).mono ?_
          rintro e w6 ⟨rfl, h6, hb6, hk6⟩
          rw [Bld.str_cells] at h6
          have hE6 := hk6 E _ hE4 (fun e => hEne (Option.some.inj e)) (fun _ _ e => by cases e)
          replace hb6 := hb4.trans hb6
          have c1 : w6.cell? ⟨E, 1, none⟩ = some (.int .i64 ((k : Int) + (n : Int))) := by rw [Lib.cell_of_heap hE6]; rfl
          clear c2 hk6 hE4 h4 hb4
          go_wp2
          go_roundw
          case rel => exact ⟨k + n, _, by go_num, by omega, by rw [List.length_append, List.length_append, ← Lib.size_eq x, HZT.out]; omega, HT, Or.inr h6, hb6⟩
          case measure => simp [intOf]; omega
        · have HT : Hid ((out ++ x.data.toList) ++ decW (decide (k + n = 0)) (s.data.toList.drop (k + n)) = decW true s.data.toList) := Lib.hid (by
            have h := HQ.out [] (by simp [hbl, hda])
            rwa [List.append_nil] at h)
          rw [hbl, decide_eq_true_iff] at htb
          have g1 : T.toList = [] := by rw [Lib.toList_data]; exact htb
          clear hbl htb
          have c2 : w3.cell? ⟨E, 2, none⟩ = some (.string x) := by rw [Lib.cell_of_heap hE3]; rfl
          go_wp2_with fail
          refine (Tryz.Builder_WriteString_k w.heap.size w.heap.size _ x _ hB3 (by rw [Lib.byteCells_length]; omega) hb3.size).mono ?_
          rintro e w6 ⟨rfl, h6, hb6, hk6⟩
          rw [Bld.str_cells] at h6
          have hE6 := hk6 E _ hE3 (fun e => hEne (Option.some.inj e)) (fun _ _ e => by cases e)
          replace hb6 := hb3.trans hb6
          have c1 : w6.cell? ⟨E, 1, none⟩ = some (.int .i64 ((k : Int) + (n : Int))) := by rw [Lib.cell_of_heap hE6]; rfl
          clear c2 hk6 hE3 hB3 hb3
          go_wp2
          go_roundw
          case rel => exact ⟨k + n, _, by go_num, by omega, by rw [List.length_append, ← Lib.size_eq x]; omega, HT, Or.inr h6, hb6⟩
          case measure => simp [intOf]; omega
end Go.Proofs.YtnnbbjdidbggmaaGreatDoor.Wd
namespace Go.Proofs.YtnnbbjdidbggmaaGreatDoor.Pt
open Go Go.RowKit Go.Joins Kit F0

theorem read_all (s : ByteArray) (w0 : World) (hs : s.size ≤ 32768) (hE : Srch.Env w0) : ∀ d, d ≤ 6 → ReadOk s w0 d
  | 0, h => read_in s w0 hs hE 0 h (fun d' e => by cases e)
  | d + 1, h => read_in s w0 hs hE (d + 1) h (fun d' e => by
    have : d' = d := by omega
    subst this
    exact read_all s w0 hs hE d' (by omega))
theorem tree_any (s : ByteArray) (w : World) (hs : s.size ≤ 32768) (hE : Srch.Env w) :
    Calls Tryz.prog 29 #[.string s] w fun e w' => ∃ c0 c1 c2 c3 c4 c5 c6 c7, e = .returned (.agg #[c0, c1, c2, c3, c4, c5, c6, c7]) ∧ PartAt (fun g => w.heap.size ≤ g) w' (treeL s.data.toList) (.agg #[c0, c1, c2, c3, c4, c5, c6, c7]) ∧ Below w.heap.size w w' :=
  tree_of s w (fun b C w' hb hC hC0 hCw hbw => (read_all s w hs hE 6 (Nat.le_refl _) 0 b 1 C w' (Nat.zero_le _) hb (by omega) hC hC0 hCw hbw).mono (fun e w'' h => by
    obtain ⟨c0, c1, c2, c3, c4, c5, c6, c7, he, hp, hst, _⟩ := h
    exact ⟨c0, c1, c2, c3, c4, c5, c6, c7, he, hp, hst⟩))
theorem tree_ok : TreeOk := tree_any
end Go.Proofs.YtnnbbjdidbggmaaGreatDoor.Pt
namespace Go.Proofs.YtnnbbjdidbggmaaGreatDoor.J7
open Go Go.RowKit Go.Joins Kit

namespace Ow
theorem own_keep {w w' : World} {B : Nat} {e : TypeId} {v : Value} {n : Nat} {xs : List Value} (h : w.ownsRow B e 1 v n xs) (hk : ∀ g, v.ownBlock = some g → g < w.heap.size → w'.heap[g]? = w.heap[g]?) : w'.ownsRow B e 1 v n xs := by
  obtain ⟨h1, h2⟩ := h
  refine ⟨h1, ?_⟩
  rcases h2 with h2 | ⟨g, cap, cur, hv, hg, hh, r⟩
  · exact Or.inl h2
  · exact Or.inr ⟨g, cap, cur, hv, hg, by rw [hk g (by rw [hv]; rfl) (Array.getElem?_eq_some_iff.1 hh).1]; exact hh, r⟩
/-- append of a text: where the new slice lies. -/
theorem run_text_lies {P : Program} (w : World) (base : Nat) (t u ty e : TypeId) (i : TypeInfo) (ht : P.underlying t = some (.slice e)) (hu : P.underlying u = some .string) (hi : P.info? e = some i) (hz : i.zero = some (.int .u8 0))
    (hsize : i.size = 1) (hby : i.bytes = 1) (v : Value) (n : Nat) (xs : List Value) (hown : w.ownsRow base e 1 v n xs) (s : ByteArray)
    (h63 : n + s.size ≤ maxLen) (hbytes : n + s.size ≤ 140737488355328) (hbase : base ≤ w.heap.size) :
    ∃ v' w', (Builtin.append_ #[t, u] ty #[v, .string s]).run P w = .ok v' w' ∧ w'.ownsRow base e 1 v' (n + s.size) (xs ++ Lib.strCells s) ∧ w.grownBy w' v.ownBlock ∧
      (∀ g, v'.ownBlock = some g → v.ownBlock = some g ∨ w.heap.size ≤ g) := by
  obtain ⟨v', w', hr, h2, h3, _⟩ := Lib.run_append_own_string (P := P) w base t u ty e i ht hu hi hz hsize hby v n xs hown s h63 hbytes hbase
  refine ⟨v', w', hr, h2, h3, ?_⟩
  have hn := hown.1
  rcases hown.2 with ⟨rfl, rfl⟩ | ⟨g, cap, cur, rfl, hbg, hg, hnc, hcm, hcs, htake⟩
  · have hx : xs = [] := List.eq_nil_of_length_eq_zero (by simpa using hn)
    subst hx
    obtain ⟨v2, w2, hr2, h22, _⟩ := Lib.run_append_own_string (P := P) w w.heap.size t u ty e i ht hu hi hz hsize hby (.slice none 0 0) 0 [] (World.ownsRow_nil w _ _ _) s h63 hbytes (Nat.le_refl _)
    rw [hr2] at hr
    injection hr with e1 e2
    subst e1
    intro g hg
    rcases h22.2 with ⟨rfl, _⟩ | ⟨g', cap, cur, rfl, hb, _⟩
    · cases hg
    · simp only [Value.ownBlock, Option.some.injEq] at hg
      subst hg
      exact Or.inr hb
  · by_cases hroom : n + s.size ≤ cap
    · have hcs' : cur.size = cap := by simpa using hcs
      rw [Lib.run_append_room_string (P := P) w t u ty e i ht hu hi hsize g n cap cur hg s hroom (by omega)] at hr
      injection hr with e1 e2
      subst e1
      exact fun x hx => Or.inl hx
    · have hl63 : ((n + s.size : Nat) : Int) ≤ 9223372036854775807 := by omega
      rw [Lib.run_append_grow_string (P := P) w t u ty e i (.int .u8 0) ht hu hi hz ⟨g, 0, none⟩ n cap xs (by rw [hsize]; simpa using hn) (hown.cells (g := g) rfl) s (by omega) hl63 (by rw [hby]; exact growslice_fits (by omega) (by omega))] at hr
      injection hr with e1 e2
      subst e1
      intro x hx
      simp only [Value.ownBlock, Option.some.injEq] at hx
      exact Or.inr (by omega)
theorem wpList_text_lies {P : Program} {ops : Array Oper} {rest : List Oper} {o : Oper} {a : Act} {Q : Exit → Act → World → Prop} (w : World) (hgd : o.guard = none) (sl x : Operand) (t u : TypeId)
    (ho : o.op = .call { callee := .builtin .append, args := #[sl, x], argTypes := #[t, u] })
    (base : Nat) (e : TypeId) (i : TypeInfo) (ht : P.underlying t = some (.slice e)) (hu : P.underlying u = some .string) (hi : P.info? e = some i) (hz : i.zero = some (.int .u8 0)) (hsize : i.size = 1) (hby : i.bytes = 1)
    (v : Value) (n : Nat) (xs : List Value) (hs : a.eval sl = v) (hown : w.ownsRow base e 1 v n xs) (s : ByteArray) (hx : a.eval x = .string s)
    (h63 : n + s.size ≤ maxLen) (hbytes : n + s.size ≤ 140737488355328) (hbase : base ≤ w.heap.size)
    (h : ∀ v' w', w'.ownsRow base e 1 v' (n + s.size) (xs ++ Lib.strCells s) → w.grownBy w' v.ownBlock → (∀ g, v'.ownBlock = some g → v.ownBlock = some g ∨ w.heap.size ≤ g) → wpList P ops Q rest (a.put o.dst v') w') : wpList P ops Q (o :: rest) a w := by
  refine wpList_plain hgd fun K hK => ?_
  obtain ⟨v', w', hr, h2, h3, h4⟩ := run_text_lies (P := P) w base t u o.type e i ht hu hi hz hsize hby v n xs hown s h63 hbytes hbase
  unfold Oper.wp execOp
  simp only [ho, resolve, invoke, builtin, Sem.run_bind, Sem.run_pure, Result.andThen_ok, List.map_toArray, List.map_cons, List.map_nil, hs, hx, hr]
  exact hK _ _ (h v' w' h2 h3 h4)
theorem str_cells (l : List UInt8) (s : ByteArray) : Lib.byteCells l ++ Lib.strCells s = Lib.byteCells (l ++ s.data.toList) := by
  rw [Lib.byteCells_append]
  rfl
end Ow
/-- What turns while a slice grows: its own row, and what is new. -/
structure Gb (w w' : World) (v v' : Value) : Prop where
  os : w'.os = w.os
  tape : w'.tape = w.tape
  output : w'.output = w.output
  size : w.heap.size ≤ w'.heap.size
  block : ∀ k, k < w.heap.size → v.ownBlock ≠ some k → w'.heap[k]? = w.heap[k]?
  own : ∀ g, v'.ownBlock = some g → v.ownBlock = some g ∨ w.heap.size ≤ g
theorem Gb.refl (w : World) (v : Value) : Gb w w v v := ⟨rfl, rfl, rfl, Nat.le_refl _, fun _ _ _ => rfl, fun _ h => Or.inl h⟩
theorem Gb.trans {a b c : World} {v v' v'' : Value} (h : Gb a b v v') (k : Gb b c v' v'') : Gb a c v v'' :=
  ⟨k.os.trans h.os, k.tape.trans h.tape, k.output.trans h.output, Nat.le_trans h.size k.size,
    fun i hi hn => (k.block i (Nat.lt_of_lt_of_le hi h.size) (fun e => by rcases h.own i e with e' | e'; exact hn e'; omega)).trans (h.block i hi hn),
    fun g e => by rcases k.own g e with e' | e'; exact h.own g e'; exact Or.inr (Nat.le_trans h.size e')⟩
theorem Gb.below {a b c : World} {v v' : Value} (h : Gb a b v v') (hb : Below b.heap.size b c) : Gb a c v v' :=
  ⟨hb.os.trans h.os, hb.tape.trans h.tape, hb.output.trans h.output, Nat.le_trans h.size hb.size, fun i hi hn => (hb.block i (Nat.lt_of_lt_of_le hi h.size)).trans (h.block i hi hn), h.own⟩
theorem Gb.after {a b c : World} {v v' : Value} (hb : Below a.heap.size a b) (h : Gb b c v v') : Gb a c v v' :=
  ⟨h.os.trans hb.os, h.tape.trans hb.tape, h.output.trans hb.output, Nat.le_trans hb.size h.size, fun i hi hn => (h.block i (Nat.lt_of_lt_of_le hi hb.size) hn).trans (hb.block i hi),
    fun g e => by rcases h.own g e with e' | e'; exact Or.inl e'; exact Or.inr (Nat.le_trans hb.size e')⟩
/-- Bytes that the call owns, in blocks from B on. -/
structure OwnB (B : Nat) (v : Value) (l : List UInt8) (w : World) : Prop where
  own : w.ownsRow B 5 1 v l.length (Lib.byteCells l)
  base : B ≤ w.heap.size
theorem OwnB.empty {B : Nat} {w : World} (h : B ≤ w.heap.size) : OwnB B (.slice none 0 0) [] w := ⟨⟨by decide, Or.inl ⟨rfl, rfl⟩⟩, h⟩
theorem OwnB.below {B : Nat} {v : Value} {l : List UInt8} {w w' : World} (h : OwnB B v l w) (hb : Below w.heap.size w w') : OwnB B v l w' := ⟨Kit.ownsRow_below h.own hb, Nat.le_trans h.base hb.size⟩
theorem OwnB.lt {B : Nat} {v : Value} {l : List UInt8} {w : World} (h : OwnB B v l w) {g : Nat} (hg : v.ownBlock = some g) : B ≤ g ∧ g < w.heap.size := h.own.lt g hg
theorem OwnB.form {B : Nat} {v : Value} {l : List UInt8} {w : World} (h : OwnB B v l w) : ∃ a cap, v = .slice a l.length cap := by
  rcases h.own.2 with ⟨rfl, h0⟩ | ⟨g, cap, cur, rfl, _⟩
  · exact ⟨none, 0, by rw [h0]⟩
  · exact ⟨_, _, rfl⟩
theorem OwnB.string {B : Nat} {v : Value} {l : List UInt8} {w : World} (h : OwnB B v l w) : (convert 32 9 v).run Tryz.prog w = .ok (.string ⟨l.toArray⟩) w := Kit.run_row l l.length v w B h.own
theorem Gb.of_grown {w W w' : World} {v : Value} {g n c : Nat} (hW : Below w.heap.size w W) (hg : W.grownBy w' v.ownBlock) (hat : v.ownBlock = some g ∨ g = W.heap.size) : Gb w w' v (.slice (some ⟨g, 0, none⟩) n c) :=
  ⟨hg.os.trans hW.os, hg.tape.trans hW.tape, hg.output.trans hW.output, Nat.le_trans hW.size hg.size, fun k hk hn => (hg.block k (Nat.lt_of_lt_of_le hk hW.size) (fun e => hn e.symm)).trans (hW.block k hk),
    fun x hx => by
      have hgx : g = x := by simpa [Value.ownBlock] using hx
      subst hgx
      rcases hat with e | e
      · exact Or.inl e
      · exact Or.inr (by rw [e]; exact hW.size)⟩
/-- append of some bytes. -/
theorem app_lit {ops : Array Oper} {rest : List Oper} {o : Oper} {a : Act} {Q : Exit → Act → World → Prop} (hgd : o.guard = none) (sl x : Operand)
    (ho : o.op = .call { callee := .builtin .append, args := #[sl, x], argTypes := #[32, 32] })
    (B : Nat) (w : World) (v : Value) (l : List UInt8) (h : OwnB B v l w) (cs : Array Value) (ns : List UInt8) (m cap : Nat) (hm : ns.length = m) (hm0 : 0 < m) (hcs : cs.toList = Lib.byteCells ns) (hs : a.eval sl = v) (hx : a.eval x = .slice (some ⟨w.heap.size, 0, none⟩) m cap)
    (hlen : l.length + m ≤ 140737488355328) (k : ∀ v' w', OwnB B v' (l ++ ns) w' → Gb w w' v v' → wpList Tryz.prog ops Q rest (a.put o.dst v') w') : wpList Tryz.prog ops Q (o :: rest) a (w.alloc (.cells cs 5)) := by
  obtain ⟨i0, hi, hz0, hz1, hz2⟩ := info_parts Kit.info5
  subst hm
  refine wpList_append_lies (w.alloc (.cells cs 5)) hgd sl x 32 ho B 5 i0 (.int .u8 0) 1 1 Tryz.underlying32 hi hz0 hz1 hz2 rfl (by decide) v l.length _ hs (h.own.alloc _) ⟨w.heap.size, 0, none⟩ ns.length cap (Lib.byteCells ns) hx ?_ ?_ ?_ hm0 ?_ ?_ ?_ (w.alloc (.cells cs 5)).heap.size rfl ?_
  · rw [Lib.byteCells_length, Nat.mul_one]
  · intro j u hj
    exact World.news_of_block (Kit.fresh_block w cs 5) j u (by rw [hcs]; exact hj)
  · intro u hu
    unfold Lib.byteCells at hu
    obtain ⟨c, _, rfl⟩ := List.mem_map.1 hu
    rfl
  · unfold maxLen; omega
  · omega
  · have := h.base; simp; omega
  · intro g c w' ho' hg hat _
    refine k _ _ ⟨?_, ?_⟩ (Gb.of_grown ((Below.refl _ w).alloc (Nat.le_refl _) _) hg hat)
    · rw [List.length_append, Lib.byteCells_append]
      exact ho'
    · have := h.base; have := hg.size; simp at this; omega
/-- .. as a step of a region that draws. -/
theorem step_lit {ops : Array Oper} {o : Oper} {a : Act} {K : Act → World → Prop} {Q : Exit → Act → World → Prop} {E : Prop} (hgd : o.guard = none) (sl x : Operand)
    (ho : o.op = .call { callee := .builtin .append, args := #[sl, x], argTypes := #[32, 32] })
    (B : Nat) (w W : World) (v : Value) (l : List UInt8) (h : OwnB B v l W) (hW : Below w.heap.size w W) (cs : Array Value) (ns : List UInt8) (m cap b : Nat) (hm : ns.length = m) (hm0 : 0 < m) (hcs : cs.toList = Lib.byteCells ns) (hblk : W.heap[b]? = some (.cells cs 5 (0, 0))) (hs : a.eval sl = v) (hx : a.eval x = .slice (some ⟨b, 0, none⟩) m cap)
    (hlen : l.length + m ≤ 140737488355328) (k : ∀ g c w', OwnB B (.slice (some ⟨g, 0, none⟩) (l.length + m) c) (l ++ ns) w' → Gb w w' v (.slice (some ⟨g, 0, none⟩) (l.length + m) c) → K (a.put o.dst (.slice (some ⟨g, 0, none⟩) (l.length + m) c)) w') :
    if Region.wanted o (yielded ops a.tmps) = true then Oper.wp Tryz.prog o a W K Q else E := by
  obtain ⟨i0, hi, hz0, hz1, hz2⟩ := info_parts Kit.info5
  subst hm
  refine step_append_lies W hgd sl x 32 ho B 5 i0 (.int .u8 0) 1 1 Tryz.underlying32 hi hz0 hz1 hz2 rfl (by decide) v l.length _ hs h.own ⟨b, 0, none⟩ ns.length cap (Lib.byteCells ns) hx ?_ ?_ ?_ hm0 ?_ ?_ h.base W.heap.size rfl ?_
  · rw [Lib.byteCells_length, Nat.mul_one]
  · intro j u hj
    exact World.news_of_block hblk j u (by rw [hcs]; exact hj)
  · intro u hu
    unfold Lib.byteCells at hu
    obtain ⟨c, _, rfl⟩ := List.mem_map.1 hu
    rfl
  · unfold maxLen; omega
  · omega
  · intro g c w' ho' hg hat _
    refine k g c w' ⟨?_, Nat.le_trans h.base hg.size⟩ (Gb.of_grown hW hg hat)
    rw [List.length_append, Lib.byteCells_append]
    exact ho'
/-- append of a text. -/
theorem app_str {ops : Array Oper} {rest : List Oper} {o : Oper} {a : Act} {Q : Exit → Act → World → Prop} (hgd : o.guard = none) (sl x : Operand)
    (ho : o.op = .call { callee := .builtin .append, args := #[sl, x], argTypes := #[32, 9] })
    (B : Nat) (w : World) (v : Value) (l : List UInt8) (h : OwnB B v l w) (t : ByteArray) (hs : a.eval sl = v) (hx : a.eval x = .string t)
    (hlen : l.length + t.size ≤ 140737488355328) (k : ∀ v' w', OwnB B v' (l ++ t.data.toList) w' → Gb w w' v v' → wpList Tryz.prog ops Q rest (a.put o.dst v') w') : wpList Tryz.prog ops Q (o :: rest) a w := by
  obtain ⟨i0, hi, hz0, hz1, hz2⟩ := info_parts Kit.info5
  refine Ow.wpList_text_lies w hgd sl x 32 9 ho B 5 i0 Tryz.underlying32 Tryz.underlying9 hi hz0 hz1 hz2 v l.length _ hs h.own t hx ?_ ?_ h.base ?_
  · unfold maxLen; omega
  · omega
  · intro v' w' ho' hg hat
    refine k v' w' ⟨?_, Nat.le_trans h.base hg.size⟩ ⟨hg.os, hg.tape, hg.output, hg.size, fun i hi hn => hg.block i hi (fun e => hn e.symm), hat⟩
    rw [List.length_append, ← Lib.size_eq, ← Ow.str_cells]
    exact ho'

end Go.Proofs.YtnnbbjdidbggmaaGreatDoor.J7
namespace Go.Proofs.YtnnbbjdidbggmaaGreatDoor.Ad
open Go Go.RowKit Go.Joins Kit J7

abbrev sV (l : List UInt8) : Value := .string ⟨l.toArray⟩
theorem sV_data (s : ByteArray) : sV s.data.toList = .string s := rfl
def aC : List Ad3 → List Value
  | [] => []
  | f :: r => sV f.1 :: sV f.2.1 :: sV f.2.2 :: aC r
theorem aC_append : ∀ a b : List Ad3, aC (a ++ b) = aC a ++ aC b
  | [], _ => rfl
  | f :: r, b => by rw [List.cons_append, aC, aC, aC_append r b]; rfl
theorem aC_length : ∀ a : List Ad3, (aC a).length = a.length * 3
  | [] => rfl
  | f :: r => by rw [aC, List.length_cons, List.length_cons, List.length_cons, aC_length r, List.length_cons]; omega
theorem aC_at : ∀ (a : List Ad3) (k : Nat) (h : k < a.length), (aC a)[k * 3]? = some (sV a[k].1) ∧ (aC a)[k * 3 + 1]? = some (sV a[k].2.1) ∧ (aC a)[k * 3 + 2]? = some (sV a[k].2.2)
  | [], k, h => by simp at h
  | f :: r, 0, _ => ⟨rfl, rfl, rfl⟩
  | f :: r, k + 1, h => by
    have := aC_at r k (by simpa using h)
    rw [aC, show (k + 1) * 3 = k * 3 + 3 by omega, show k * 3 + 3 + 1 = k * 3 + 1 + 3 by omega, show k * 3 + 3 + 2 = k * 3 + 2 + 3 by omega]
    simpa using this

/-! ### Rows of the call's own -/
section
variable {B sz n : Nat} {T : TypeId} {v : Value} {xs : List Value} {w w' : World}
theorem row_keep (h : w.ownsRow B T sz v n xs) (hk : ∀ g, v.ownBlock = some g → g < w.heap.size → w'.heap[g]? = w.heap[g]?) : w'.ownsRow B T sz v n xs := by
  obtain ⟨h1, h2⟩ := h
  refine ⟨h1, ?_⟩
  rcases h2 with h2 | ⟨g, cap, cur, hv, hg, hh, r⟩
  · exact Or.inl h2
  · exact Or.inr ⟨g, cap, cur, hv, hg, by rw [hk g (by rw [hv]; rfl) (Array.getElem?_eq_some_iff.1 hh).1]; exact hh, r⟩
theorem row_block (h : w.ownsRow B T sz v n xs) {g : Nat} (hg : v.ownBlock = some g) : B ≤ g ∧ ∃ cur, w.heap[g]? = some (.cells cur T (0, 0)) := by
  rcases h.2 with ⟨rfl, _⟩ | ⟨g', cap, cur, rfl, hb, hh, _⟩
  · cases hg
  · simp only [Value.ownBlock, Option.some.injEq] at hg
    subst hg
    exact ⟨hb, cur, hh⟩
theorem row_lt (h : w.ownsRow B T sz v n xs) {g : Nat} (hg : v.ownBlock = some g) : g < w.heap.size := by
  obtain ⟨_, cur, hh⟩ := row_block h hg
  exact (Array.getElem?_eq_some_iff.1 hh).1
theorem row_ne (h : w.ownsRow B T sz v n xs) {k : Nat} {cs : Array Value} {T' : TypeId} {fr : Nat × Nat} (hk : w.heap[k]? = some (.cells cs T' fr)) (hT : T' ≠ T) : v.ownBlock ≠ some k := fun e => by
  obtain ⟨_, cur, hh⟩ := row_block h e
  rw [hk] at hh
  injection hh with hh
  injection hh with _ hh
  exact hT hh
theorem row_row {B' sz' n' : Nat} {T' : TypeId} {v' : Value} {xs' : List Value} (h : w.ownsRow B T sz v n xs) (h' : w.ownsRow B' T' sz' v' n' xs') (hT : T' ≠ T) : ∀ g, v'.ownBlock = some g → v.ownBlock ≠ some g := fun g hg => by
  obtain ⟨_, cur, hh⟩ := row_block h' hg
  exact row_ne h hh hT
theorem row_below (h : w.ownsRow B T sz v n xs) (hb : Below w.heap.size w w') : w'.ownsRow B T sz v n xs := row_keep h (fun g _ hl => hb.block g hl)
theorem row_form (h : w.ownsRow B T sz v n xs) : ∃ a cap, v = .slice a n cap := by
  rcases h.2 with ⟨rfl, h0⟩ | ⟨g, cap, cur, rfl, _⟩
  · exact ⟨none, 0, by rw [h0]⟩
  · exact ⟨_, _, rfl⟩
theorem row_free (h : w.ownsRow B T sz v n xs) {g o : Nat} (hg : v.ownBlock = some g) : w.frozen? ⟨g, o, none⟩ = false := by
  obtain ⟨_, cur, hh⟩ := row_block h hg
  exact Lib.frozen_of_heap hh o
end

/-! ### The reader -/
/-- The reader's block, its words, what it has told. -/
structure RY (w0 : World) (b : Nat) (c0 c1 p v wv c5 c6 tv : Value) (ws : List (List UInt8)) (T : List Ad3) (w : World) : Prop where
  bel : Below w0.heap.size w0 w
  base : w0.heap.size ≤ b
  blk : w.heap[b]? = some (.cells #[c0, c1, p, v, wv, c5, c6, tv] 134 (0, 0))
  wrd : w.ownsRow w0.heap.size 9 1 wv ws.length (ws.map sV)
  tld : w.ownsRow w0.heap.size 103 3 tv T.length (aC T)
namespace RY
variable {w0 w w' : World} {b : Nat} {c0 c1 p v wv c5 c6 tv : Value} {ws : List (List UInt8)} {T : List Ad3}
theorem lt (h : RY w0 b c0 c1 p v wv c5 c6 tv ws T w) : b < w.heap.size := (Array.getElem?_eq_some_iff.1 h.blk).1
theorem cell (h : RY w0 b c0 c1 p v wv c5 c6 tv ws T w) (k : Nat) : w.cell? ⟨b, k, none⟩ = #[c0, c1, p, v, wv, c5, c6, tv][k]? := by rw [Lib.cell_of_heap h.blk]
theorem free (h : RY w0 b c0 c1 p v wv c5 c6 tv ws T w) (o : Nat) : w.frozen? ⟨b, o, none⟩ = false := Lib.frozen_of_heap h.blk o
theorem shape (h : RY w0 b c0 c1 p v wv c5 c6 tv ws T w) : w.shape? b = some (134, 8) := by simp [World.shape?, h.blk]
theorem room (h : RY w0 b c0 c1 p v wv c5 c6 tv ws T w) : w0.heap.size ≤ w.heap.size := h.bel.size
theorem below (h : RY w0 b c0 c1 p v wv c5 c6 tv ws T w) (hb : Below w.heap.size w w') : RY w0 b c0 c1 p v wv c5 c6 tv ws T w' :=
  ⟨h.bel.trans (hb.mono h.bel.size), h.base, (hb.block b h.lt).trans h.blk, row_below h.wrd hb, row_below h.tld hb⟩
/-- A row of another kind turned. -/
theorem grown (h : RY w0 b c0 c1 p v wv c5 c6 tv ws T w) {row : Option Nat} (hg : w.grownBy w' row) (hr : ∀ k, row = some k → w0.heap.size ≤ k ∧ k ≠ b ∧ wv.ownBlock ≠ some k ∧ tv.ownBlock ≠ some k) : RY w0 b c0 c1 p v wv c5 c6 tv ws T w' :=
  ⟨h.bel.grown hg h.bel.size (fun k hk => (hr k hk).1), h.base, (hg.block b h.lt (fun e => (hr b e.symm).2.1 rfl)).trans h.blk,
    row_keep h.wrd (fun g hv hl => hg.block g hl (fun e => (hr g e.symm).2.2.1 hv)), row_keep h.tld (fun g hv hl => hg.block g hl (fun e => (hr g e.symm).2.2.2 hv))⟩
theorem wne (h : RY w0 b c0 c1 p v wv c5 c6 tv ws T w) : wv.ownBlock ≠ some b := row_ne h.wrd h.blk (by decide)
theorem tne (h : RY w0 b c0 c1 p v wv c5 c6 tv ws T w) : tv.ownBlock ≠ some b := row_ne h.tld h.blk (by decide)
theorem store (h : RY w0 b c0 c1 p v wv c5 c6 tv ws T w) (k : Nat) (x : Value) : Below w0.heap.size w0 (w.setCell ⟨b, k, none⟩ x) ∧ (w.setCell ⟨b, k, none⟩ x).heap[b]? = some (.cells (#[c0, c1, p, v, wv, c5, c6, tv].setIfInBounds k x) 134 (0, 0)) ∧
    (w.setCell ⟨b, k, none⟩ x).ownsRow w0.heap.size 9 1 wv ws.length (ws.map sV) ∧ (w.setCell ⟨b, k, none⟩ x).ownsRow w0.heap.size 103 3 tv T.length (aC T) := by
  have hk : ∀ g, g ≠ b → (w.setCell ⟨b, k, none⟩ x).heap[g]? = w.heap[g]? := fun g hg => Below.heap_setCell _ _ _ _ hg
  refine ⟨h.bel.setCell (p := ⟨b, k, none⟩) h.base x, ?_, row_keep h.wrd (fun g hg _ => hk g (fun e => h.wne (by rw [hg, e]))), row_keep h.tld (fun g hg _ => hk g (fun e => h.tne (by rw [hg, e])))⟩
  have := h.blk
  simp [World.setCell, Array.getElem?_modify, this]
theorem set0 (h : RY w0 b c0 c1 p v wv c5 c6 tv ws T w) (x : Value) : RY w0 b x c1 p v wv c5 c6 tv ws T (w.setCell ⟨b, 0, none⟩ x) := by
  obtain ⟨h1, h2, h3, h4⟩ := h.store 0 x
  exact ⟨h1, h.base, h2, h3, h4⟩
theorem set1 (h : RY w0 b c0 c1 p v wv c5 c6 tv ws T w) (x : Value) : RY w0 b c0 x p v wv c5 c6 tv ws T (w.setCell ⟨b, 1, none⟩ x) := by
  obtain ⟨h1, h2, h3, h4⟩ := h.store 1 x
  exact ⟨h1, h.base, h2, h3, h4⟩
theorem set2 (h : RY w0 b c0 c1 p v wv c5 c6 tv ws T w) (x : Value) : RY w0 b c0 c1 x v wv c5 c6 tv ws T (w.setCell ⟨b, 2, none⟩ x) := by
  obtain ⟨h1, h2, h3, h4⟩ := h.store 2 x
  exact ⟨h1, h.base, h2, h3, h4⟩
theorem set3 (h : RY w0 b c0 c1 p v wv c5 c6 tv ws T w) (x : Value) : RY w0 b c0 c1 p x wv c5 c6 tv ws T (w.setCell ⟨b, 3, none⟩ x) := by
  obtain ⟨h1, h2, h3, h4⟩ := h.store 3 x
  exact ⟨h1, h.base, h2, h3, h4⟩
theorem set5 (h : RY w0 b c0 c1 p v wv c5 c6 tv ws T w) (x : Value) : RY w0 b c0 c1 p v wv x c6 tv ws T (w.setCell ⟨b, 5, none⟩ x) := by
  obtain ⟨h1, h2, h3, h4⟩ := h.store 5 x
  exact ⟨h1, h.base, h2, h3, h4⟩
theorem set6 (h : RY w0 b c0 c1 p v wv c5 c6 tv ws T w) (x : Value) : RY w0 b c0 c1 p v wv c5 x tv ws T (w.setCell ⟨b, 6, none⟩ x) := by
  obtain ⟨h1, h2, h3, h4⟩ := h.store 6 x
  exact ⟨h1, h.base, h2, h3, h4⟩
/-- No words any more. -/
theorem clear4 (h : RY w0 b c0 c1 p v wv c5 c6 tv ws T w) : RY w0 b c0 c1 p v (.slice none 0 0) c5 c6 tv [] T (w.setCell ⟨b, 4, none⟩ (.slice none 0 0)) := by
  obtain ⟨h1, h2, _, h4⟩ := h.store 4 (.slice none 0 0)
  exact ⟨h1, h.base, h2, World.ownsRow_nil _ _ _ _, h4⟩
/-- The words grown, and put into their cell. -/
theorem put4 {ws' : List (List UInt8)} {wv' : Value} (h : RY w0 b c0 c1 p v wv c5 c6 tv ws T w) (hg : w.grownBy w' wv.ownBlock) (hn : w'.ownsRow w0.heap.size 9 1 wv' ws'.length (ws'.map sV)) : RY w0 b c0 c1 p v wv' c5 c6 tv ws' T (w'.setCell ⟨b, 4, none⟩ wv') := by
  have hb : w'.heap[b]? = some (.cells #[c0, c1, p, v, wv, c5, c6, tv] 134 (0, 0)) := (hg.block b h.lt (fun e => h.wne e.symm)).trans h.blk
  have hk : ∀ g, g ≠ b → (w'.setCell ⟨b, 4, none⟩ wv').heap[g]? = w'.heap[g]? := fun g hg => Below.heap_setCell _ _ _ _ hg
  refine ⟨(h.bel.grown hg h.bel.size (fun k hk => (row_block h.wrd hk).1)).setCell (p := ⟨b, 4, none⟩) h.base _, h.base, ?_, row_keep hn (fun g e _ => hk g (fun e' => row_ne hn hb (by decide) (by rw [e, e']))), row_keep (row_keep h.tld (fun g e hl => hg.block g hl (fun e' => row_row h.wrd h.tld (by decide) g e e'.symm))) (fun g e _ => hk g (fun e' => h.tne (by rw [e, e'])))⟩
  simp [World.setCell, Array.getElem?_modify, hb]
/-- What is told grown, and put into its cell. -/
theorem put7 {T' : List Ad3} {tv' : Value} (h : RY w0 b c0 c1 p v wv c5 c6 tv ws T w) (hg : w.grownBy w' tv.ownBlock) (hn : w'.ownsRow w0.heap.size 103 3 tv' T'.length (aC T')) : RY w0 b c0 c1 p v wv c5 c6 tv' ws T' (w'.setCell ⟨b, 7, none⟩ tv') := by
  have hb : w'.heap[b]? = some (.cells #[c0, c1, p, v, wv, c5, c6, tv] 134 (0, 0)) := (hg.block b h.lt (fun e => h.tne e.symm)).trans h.blk
  have hk : ∀ g, g ≠ b → (w'.setCell ⟨b, 7, none⟩ tv').heap[g]? = w'.heap[g]? := fun g hg => Below.heap_setCell _ _ _ _ hg
  refine ⟨(h.bel.grown hg h.bel.size (fun k hk => (row_block h.tld hk).1)).setCell (p := ⟨b, 7, none⟩) h.base _, h.base, ?_, row_keep (row_keep h.wrd (fun g e hl => hg.block g hl (fun e' => row_row h.tld h.wrd (by decide) g e e'.symm))) (fun g e _ => hk g (fun e' => h.wne (by rw [e, e']))), row_keep hn (fun g e _ => hk g (fun e' => row_ne hn hb (by decide) (by rw [e, e'])))⟩
  simp [World.setCell, Array.getElem?_modify, hb]
end RY
/-- .. and the text that has begun. -/
structure RX (w0 : World) (b : Nat) (c0 c1 p v wv c5 c6 tv : Value) (l : List UInt8) (ws : List (List UInt8)) (T : List Ad3) (w : World) : Prop where
  y : RY w0 b c0 c1 p v wv c5 c6 tv ws T w
  txt : w.ownsRow w0.heap.size 5 1 v l.length (Lib.byteCells l)
  emp : l = [] → v = .slice none 0 0
  ptr : p = .pointer none ∨ p = .pointer (some ⟨b, 2, none⟩)
namespace RX
variable {w0 w w' : World} {b : Nat} {c0 c1 p v wv c5 c6 tv : Value} {l : List UInt8} {ws : List (List UInt8)} {T : List Ad3}
theorem ownB (h : RX w0 b c0 c1 p v wv c5 c6 tv l ws T w) : OwnB w0.heap.size v l w := ⟨h.txt, h.y.bel.size⟩
theorem below (h : RX w0 b c0 c1 p v wv c5 c6 tv l ws T w) (hb : Below w.heap.size w w') : RX w0 b c0 c1 p v wv c5 c6 tv l ws T w' := ⟨h.y.below hb, row_below h.txt hb, h.emp, h.ptr⟩
theorem vne (h : RX w0 b c0 c1 p v wv c5 c6 tv l ws T w) : v.ownBlock ≠ some b := row_ne h.txt h.y.blk (by decide)
theorem keep (h : RX w0 b c0 c1 p v wv c5 c6 tv l ws T w) (k : Nat) (x : Value) : (w.setCell ⟨b, k, none⟩ x).ownsRow w0.heap.size 5 1 v l.length (Lib.byteCells l) :=
  row_keep h.txt (fun g hg _ => Below.heap_setCell _ _ _ _ (fun e => h.vne (by rw [hg]; exact congrArg some e)))
theorem set0 (h : RX w0 b c0 c1 p v wv c5 c6 tv l ws T w) (x : Value) : RX w0 b x c1 p v wv c5 c6 tv l ws T (w.setCell ⟨b, 0, none⟩ x) := ⟨h.y.set0 x, h.keep 0 x, h.emp, h.ptr⟩
theorem set1 (h : RX w0 b c0 c1 p v wv c5 c6 tv l ws T w) (x : Value) : RX w0 b c0 x p v wv c5 c6 tv l ws T (w.setCell ⟨b, 1, none⟩ x) := ⟨h.y.set1 x, h.keep 1 x, h.emp, h.ptr⟩
theorem self2 (h : RX w0 b c0 c1 p v wv c5 c6 tv l ws T w) : RX w0 b c0 c1 (.pointer (some ⟨b, 2, none⟩)) v wv c5 c6 tv l ws T (w.setCell ⟨b, 2, none⟩ (.pointer (some ⟨b, 2, none⟩))) := ⟨h.y.set2 _, h.keep 2 _, h.emp, Or.inr rfl⟩
theorem set5 (h : RX w0 b c0 c1 p v wv c5 c6 tv l ws T w) (x : Value) : RX w0 b c0 c1 p v wv x c6 tv l ws T (w.setCell ⟨b, 5, none⟩ x) := ⟨h.y.set5 x, h.keep 5 x, h.emp, h.ptr⟩
theorem set6 (h : RX w0 b c0 c1 p v wv c5 c6 tv l ws T w) (x : Value) : RX w0 b c0 c1 p v wv c5 x tv l ws T (w.setCell ⟨b, 6, none⟩ x) := ⟨h.y.set6 x, h.keep 6 x, h.emp, h.ptr⟩
theorem clear4 (h : RX w0 b c0 c1 p v wv c5 c6 tv l ws T w) : RX w0 b c0 c1 p v (.slice none 0 0) c5 c6 tv l [] T (w.setCell ⟨b, 4, none⟩ (.slice none 0 0)) := ⟨h.y.clear4, h.keep 4 _, h.emp, h.ptr⟩
/-- The row of text's block is none of the others. -/
theorem apart (h : RX w0 b c0 c1 p v wv c5 c6 tv l ws T w) : ∀ k, v.ownBlock = some k → w0.heap.size ≤ k ∧ k ≠ b ∧ wv.ownBlock ≠ some k ∧ tv.ownBlock ≠ some k := fun k hk =>
  ⟨(row_block h.txt hk).1, fun e => h.vne (by rw [hk, e]), row_row h.y.wrd h.txt (by decide) k hk, row_row h.y.tld h.txt (by decide) k hk⟩
/-- The text grown, and put into its cell. -/
theorem put3 {l' : List UInt8} {v' : Value} (h : RX w0 b c0 c1 p v wv c5 c6 tv l ws T w) (ho : OwnB w0.heap.size v' l' w') (g : Gb w w' v v') (hl : l' ≠ []) : RX w0 b c0 c1 p v' wv c5 c6 tv l' ws T (w'.setCell ⟨b, 3, none⟩ v') := by
  have hg : w.grownBy w' v.ownBlock := ⟨g.os, g.tape, g.output, g.size, fun k hk hn => g.block k hk (fun e => hn e.symm)⟩
  have hy := h.y.grown hg h.apart
  have hne : v'.ownBlock ≠ some b := row_ne ho.own hy.blk (by decide)
  exact ⟨hy.set3 v', row_keep ho.own (fun x hx _ => Below.heap_setCell _ _ _ _ (fun e => hne (by rw [hx]; exact congrArg some e))), fun e => absurd e hl, h.ptr⟩
/-- What is told grown, and put into its cell. -/
theorem put7 {T' : List Ad3} {tv' : Value} (h : RX w0 b c0 c1 p v wv c5 c6 tv l ws T w) (hg : w.grownBy w' tv.ownBlock) (hn : w'.ownsRow w0.heap.size 103 3 tv' T'.length (aC T')) : RX w0 b c0 c1 p v wv c5 c6 tv' l ws T' (w'.setCell ⟨b, 7, none⟩ tv') := by
  refine ⟨h.y.put7 hg hn, row_keep (row_keep h.txt (fun g e hl => hg.block g hl (fun e' => row_row h.y.tld h.txt (by decide) g e e'.symm))) (fun g e _ => Below.heap_setCell _ _ _ _ (fun e' => h.vne (by rw [e]; exact congrArg some e'))), h.emp, h.ptr⟩
end RX
/-- A new reader's text, behind Reset. -/
theorem RY.reset {w0 w : World} {b : Nat} {c0 c1 p v wv c5 c6 tv : Value} {ws : List (List UInt8)} {T : List Ad3} (h : RY w0 b c0 c1 p v wv c5 c6 tv ws T w) :
    RX w0 b c0 c1 (.pointer none) (.slice none 0 0) wv c5 c6 tv [] ws T ((w.setCell ⟨b, 2, none⟩ (.pointer none)).setCell ⟨b, 3, none⟩ (.slice none 0 0)) :=
  ⟨(h.set2 _).set3 _, World.ownsRow_nil _ _ _ _, fun _ => rfl, Or.inl rfl⟩
/-- The reader at block b has gathered s. -/
def RM (w0 : World) (b : Nat) (s : St) (w : World) : Prop := ∃ p v wv tv, RX w0 b (.int .i64 s.st) (.int .i64 s.rem) p v wv (.string ⟨s.angle.toArray⟩) (.bool s.angled) tv s.txt s.words s.told w
theorem RM.bel {w0 w : World} {b : Nat} {s : St} (h : RM w0 b s w) : Below w0.heap.size w0 w := by obtain ⟨_, _, _, _, h⟩ := h; exact h.y.bel
end Go.Proofs.YtnnbbjdidbggmaaGreatDoor.Ad
namespace Go.Proofs.YtnnbbjdidbggmaaGreatDoor.Ad
open Go Go.RowKit Go.Joins Kit J7

theorem lies_in : liesAt Tryz.prog Tryz.prog.depth 134 (8 / Tryz.prog.cellsOf 134) 2 87 1 = true := by kernel_rfl
theorem size_bld : (Tryz.prog.info? 87).map (·.size) = some 2 := by kernel_rfl
variable {w0 w : World} {b : Nat} {c0 c1 p v wv c5 c6 tv : Value} {l : List UInt8} {ws : List (List UInt8)} {T : List Ad3}

set_option maxHeartbeats 1000000 in
set_option maxRecDepth 100000 in
theorem check_used (b : Nat) (w : World) (h0 : w.cell? ⟨b, 2, none⟩ = some (.pointer (some ⟨b, 2, none⟩))) :
    Calls Tryz.prog 105 #[.pointer (some ⟨b, 2, none⟩)] w fun e w' => e = .returned (.tuple #[]) ∧ w' = w := by
  obtain ⟨j, hj, _⟩ := Option.map_eq_some_iff.1 size_bld
  go_enter Tryz.func105, Tryz.ntmps105
  go_wp2
  rw [Lib.run_neq_ptr_same w _ Tryz.underlying85 hj]
  go_wp2
  go_end0
  exact ⟨rfl, rfl⟩

set_option maxHeartbeats 1000000 in
set_option maxRecDepth 100000 in
theorem check_fresh (b : Nat) (w : World) (h0 : w.cell? ⟨b, 2, none⟩ = some (.pointer none)) (hsh : w.shape? b = some (134, 8)) (hfz : w.frozen? ⟨b, 2, none⟩ = false) :
    Calls Tryz.prog 105 #[.pointer (some ⟨b, 2, none⟩)] w fun e w' => e = .returned (.tuple #[]) ∧ w' = w.setCell ⟨b, 2, none⟩ (.pointer (some ⟨b, 2, none⟩)) := by
  obtain ⟨j, hj, hjs⟩ := Option.map_eq_some_iff.1 size_bld
  go_enter Tryz.func105, Tryz.ntmps105
  go_wp2
  rw [Lib.run_to_unsafe w ⟨b, 2, none⟩ Tryz.underlying85 Tryz.underlying148 hj (by rw [hjs]; decide) hsh (show 2 < 8 by decide)]
  simp only [Result.andThen]
  rw [Oper.upon_value]
  go_wp2
  rw [run_callFunc_extern Tryz.func136 (by kernel_rfl) (by kernel_rfl) (by kernel_rfl) (e := Extern.AbiNoEscape.same) (by kernel_rfl)]
  rw [Lib.run_noEscape]
  simp only [Result.andThen]
  rw [Oper.upon_value]
  go_wp2
  rw [Lib.run_from_unsafe w ⟨b, 2, none⟩ Tryz.underlying148 Tryz.underlying85 hj hsh lies_in]
  simp only [Result.andThen]
  rw [Oper.upon_value]
  go_wp2
  go_end0
  exact ⟨rfl, rfl⟩
theorem check_any (h : RX w0 b c0 c1 p v wv c5 c6 tv l ws T w) :
    Calls Tryz.prog 105 #[.pointer (some ⟨b, 2, none⟩)] w fun e w' => e = .returned (.tuple #[]) ∧ RX w0 b c0 c1 (.pointer (some ⟨b, 2, none⟩)) v wv c5 c6 tv l ws T w' := by
  rcases h.ptr with rfl | rfl
  · refine (check_fresh b w (h.y.cell 2) h.y.shape (h.y.free 2)).mono ?_
    rintro e w' ⟨rfl, rfl⟩
    exact ⟨rfl, h.self2⟩
  · refine (check_used b w (h.y.cell 2)).mono ?_
    rintro e w' ⟨rfl, rfl⟩
    exact ⟨rfl, h⟩

set_option maxHeartbeats 2000000 in
set_option maxRecDepth 100000 in
theorem wbyte_any (h : RX w0 b c0 c1 p v wv c5 c6 tv l ws T w) (c : UInt8) (hl : l.length ≤ 100000000000000) :
    Calls Tryz.prog 99 #[.pointer (some ⟨b, 2, none⟩), .int .u8 (c.toNat : Int)] w fun e w' => e = .returned .nilIface ∧ ∃ v', RX w0 b c0 c1 (.pointer (some ⟨b, 2, none⟩)) v' wv c5 c6 tv (l ++ [c]) ws T w' := by
  have hc := check_any h
  clear h
  go_enter Tryz.func99, Tryz.ntmps99
  go_wp2_with fail
  refine hc.mono ?_
  rintro e w1 ⟨rfl, h1⟩
  have c3 : w1.cell? ⟨b, 3, none⟩ = some v := h1.y.cell 3
  have hB := h1.ownB
  go_wp2_with (at_builtin; refine app_lit rfl _ _ rfl w0.heap.size w1 v l hB _ [c] 1 1 rfl (by decide) rfl rfl rfl (by omega) ?_)
  intro v' w2 h2 g2
  have f3 : w2.frozen? ⟨b, 3, none⟩ = false := Lib.frozen_of_heap ((g2.block b h1.y.lt h1.vne).trans h1.y.blk) 3
  have d3 : w2.cell? ⟨b, 3, none⟩ = some v := by rw [Lib.cell_of_heap ((g2.block b h1.y.lt h1.vne).trans h1.y.blk)]; rfl
  obtain ⟨a, cap, hv'⟩ := h2.form
  rw [List.length_append, List.length_singleton] at hv'
  have hp := h1.put3 h2 g2 (by simp)
  subst hv'
  clear h2 hB c3
  go_wp2_with fail
  go_ret
  exact ⟨rfl, _, hp⟩

set_option maxHeartbeats 1000000 in
set_option maxRecDepth 100000 in
/-- What the Builder holds, as a text; its row may be frozen then. -/
theorem bstring_any (h : RX w0 b c0 c1 p v wv c5 c6 tv l ws T w) :
    Calls Tryz.prog 65 #[.pointer (some ⟨b, 2, none⟩)] w fun e w' => e = .returned (.string ⟨l.toArray⟩) ∧ RY w0 b c0 c1 p v wv c5 c6 tv ws T w' := by
  have c3 : w.drew.cell? ⟨b, 3, none⟩ = some v := h.y.cell 3
  by_cases hl0 : l = []
  · have hv := h.emp hl0
    subst hl0 hv
    have hy : RY w0 b c0 c1 p (.slice none 0 0) wv c5 c6 tv ws T w.drew := h.y.below (Below.refl _ w).drew
    have hSD : (Builtin.unsafeSliceData_ #[32] 109 #[.slice none 0 0]).run Tryz.prog w.drew = .ok (.pointer none) w.drew := by kernel_rfl
    have hUS : (Builtin.unsafeString_ #[109, 3] 9 #[.pointer none, .int .i64 0]).run Tryz.prog w.drew = .ok (.string ⟨#[]⟩) w.drew := by kernel_rfl
    clear h
    go_enter Tryz.func65, Tryz.ntmps65
    go_wp2_with fail
    go_region
    all_goals
      go_wp2_with fail
      go_ret
      exact ⟨rfl, hy⟩
  · have hn0 : l.length ≠ 0 := by simpa using hl0
    obtain ⟨g, cap, cur, rfl, hg, hnc, hcm, hcs, htake⟩ : ∃ g cap cur, v = .slice (some ⟨g, 0, none⟩) l.length cap ∧ w.heap[g]? = some (.cells cur 5 (0, 0)) ∧ l.length ≤ cap ∧ cap ≤ maxLen ∧ cur.size = cap * 1 ∧ cur.toList.take (l.length * 1) = Lib.byteCells l := by
      rcases h.txt.2 with ⟨_, hz⟩ | ⟨g, cap, cur, hv, _, r⟩
      · exact absurd hz hn0
      · exact ⟨g, cap, cur, hv, r⟩
    have hSD : (Builtin.unsafeSliceData_ #[32] 109 #[.slice (some ⟨g, 0, none⟩) l.length cap]).run Tryz.prog w.drew = .ok (.pointer (some ⟨g, 0, none⟩)) w.drew :=
      Lib.run_unsafeSliceData_row _ _ _ _ _ _ (by omega)
    have hUS : (Builtin.unsafeString_ #[109, 3] 9 #[.pointer (some ⟨g, 0, none⟩), .int .i64 l.length]).run Tryz.prog w.drew = .ok (.string ⟨l.toArray⟩) (w.drew.freeze ⟨g, 0, none⟩ l.length) := by
      refine Lib.run_unsafeString_row w.drew 109 3 9 5 Tryz.underlying109 (by kernel_rfl) g cur.size (by have hg' : w.drew.heap[g]? = some (.cells cur 5 (0, 0)) := hg; simp [World.shape?, hg']) l hl0 (by omega) (by unfold maxLen at hcm; omega) ?_
      intro j x hx
      have := h.txt.cells (g := g) rfl j (.int .u8 x.toNat) (by simp [Lib.byteCells, hx])
      exact this
    have hks : w.grownBy (w.drew.freeze ⟨g, 0, none⟩ l.length) (some g) := by
      have hk : ∀ k, k ≠ g → (w.drew.freeze ⟨g, 0, none⟩ l.length).heap[k]? = w.heap[k]? := fun k hk => by
        unfold World.freeze
        split
        · rfl
        · simp only [Array.getElem?_modify]
          rw [if_neg (Ne.symm hk)]
          rfl
      refine ⟨?_, ?_, ?_, ?_, fun k _ hn => hk k (fun e => hn (congrArg some e))⟩
      · unfold World.freeze; split <;> rfl
      · unfold World.freeze; split <;> rfl
      · unfold World.freeze; split <;> rfl
      · unfold World.freeze
        split
        · exact Nat.le_refl _
        · simp
    have hy := h.y.grown hks (fun k hk => h.apart k hk)
    clear h hg htake hcs hks
    go_enter Tryz.func65, Tryz.ntmps65
    go_wp2_with fail
    go_region
    all_goals
      go_wp2_with fail
      go_ret
      exact ⟨rfl, hy⟩

set_option maxHeartbeats 1000000 in
set_option maxRecDepth 100000 in
theorem reset_any (h : RY w0 b c0 c1 p v wv c5 c6 tv ws T w) :
    Calls Tryz.prog 66 #[.pointer (some ⟨b, 2, none⟩)] w fun e w' => e = .returned (.tuple #[]) ∧ RX w0 b c0 c1 (.pointer none) (.slice none 0 0) wv c5 c6 tv [] ws T w' := by
  have f2 := h.free 2
  have f3 := (h.set2 (.pointer none)).free 3
  have c2 : w.cell? ⟨b, 2, none⟩ = some p := h.cell 2
  have c3 : (w.setCell ⟨b, 2, none⟩ (.pointer none)).cell? ⟨b, 3, none⟩ = some v := (h.set2 (.pointer none)).cell 3
  have hr := h.reset
  clear h
  go_enter Tryz.func66, Tryz.ntmps66
  go_wp2_with fail
  go_end0
  exact ⟨rfl, hr⟩
end Go.Proofs.YtnnbbjdidbggmaaGreatDoor.Ad
namespace Go.Proofs.YtnnbbjdidbggmaaGreatDoor.Ad
open Go Go.RowKit Go.Joins Kit J7
variable {w0 w : World} {b : Nat}

theorem eqt {c k : UInt8} (h : c = k) (n : Int) (hn : (k.toNat : Int) = n) : ((c.toNat : Int) == n) = true := by rw [h, hn]; exact beq_self_eq_true n
theorem eqf {c k : UInt8} (h : c ≠ k) (n : Int) (hn : (k.toNat : Int) = n) : ((c.toNat : Int) == n) = false := by
  rw [beq_eq_false_iff_ne, ← hn]
  intro e
  exact h (UInt8.toNat_inj.1 (Int.ofNat.inj e))

set_option maxHeartbeats 1000000 in
set_option maxRecDepth 100000 in
theorem endAngle_any {s : St} (h : RM w0 b s w) :
    Calls Tryz.prog 148 #[.pointer (some ⟨b, 0, none⟩)] w fun e w' => e = .returned (.tuple #[]) ∧ RM w0 b (endAngleS s) w' := by
  obtain ⟨p, v, wv, tv, h⟩ := h
  have hstr := bstring_any h
  clear h
  go_enter Tryz.func148, Tryz.ntmps148
  go_wp2_with fail
  refine hstr.mono ?_
  rintro e w1 ⟨rfl, h1⟩
  have q5 : w1.cell? ⟨b, 5, none⟩ = some (.string ⟨s.angle.toArray⟩) := h1.cell 5
  have f5 := h1.free 5
  have h2 := h1.set5 (.string ⟨s.txt.toArray⟩)
  have q6 : (w1.setCell ⟨b, 5, none⟩ (.string ⟨s.txt.toArray⟩)).cell? ⟨b, 6, none⟩ = some (.bool s.angled) := h2.cell 6
  have f6 := h2.free 6
  have h3 := h2.set6 (.bool true)
  clear h1 h2 hstr
  go_wp2_with fail
  refine (reset_any h3).mono ?_
  rintro e w6 ⟨rfl, h6⟩
  have f0 := h6.y.free 0
  have q0 : w6.cell? ⟨b, 0, none⟩ = some (.int .i64 s.st) := h6.y.cell 0
  have h7 := h6.set0 (.int .i64 0)
  clear h6 h3
  go_wp2_with fail
  go_end0
  exact ⟨rfl, _, _, _, _, h7⟩

theorem put_any {s : St} (h : RM w0 b s w) (c : UInt8) (hl : s.txt.length ≤ 100000000000000) :
    Calls Tryz.prog 99 #[.pointer (some ⟨b, 2, none⟩), .int .u8 (c.toNat : Int)] w fun e w' => e = .returned .nilIface ∧ RM w0 b { s with txt := s.txt ++ [c] } w' := by
  obtain ⟨p, v, wv, tv, h⟩ := h
  refine (wbyte_any h c hl).mono ?_
  rintro e w' ⟨rfl, v', h'⟩
  exact ⟨rfl, _, _, _, _, h'⟩
theorem RM.c0 {s : St} (h : RM w0 b s w) : w.cell? ⟨b, 0, none⟩ = some (.int .i64 s.st) := by obtain ⟨_, _, _, _, h⟩ := h; exact h.y.cell 0
theorem RM.c1 {s : St} (h : RM w0 b s w) : w.cell? ⟨b, 1, none⟩ = some (.int .i64 s.rem) := by obtain ⟨_, _, _, _, h⟩ := h; exact h.y.cell 1
theorem RM.c5 {s : St} (h : RM w0 b s w) : w.cell? ⟨b, 5, none⟩ = some (.string ⟨s.angle.toArray⟩) := by obtain ⟨_, _, _, _, h⟩ := h; exact h.y.cell 5
theorem RM.c6 {s : St} (h : RM w0 b s w) : w.cell? ⟨b, 6, none⟩ = some (.bool s.angled) := by obtain ⟨_, _, _, _, h⟩ := h; exact h.y.cell 6
theorem RM.free {s : St} (h : RM w0 b s w) (o : Nat) : w.frozen? ⟨b, o, none⟩ = false := by obtain ⟨_, _, _, _, h⟩ := h; exact h.y.free o
theorem RM.to {s : St} (h : RM w0 b s w) (k : Nat) : RM w0 b { s with st := k } (w.setCell ⟨b, 0, none⟩ (.int .i64 (k : Int))) := by
  obtain ⟨_, _, _, _, h⟩ := h
  exact ⟨_, _, _, _, h.set0 _⟩
theorem RM.rm {s : St} (h : RM w0 b s w) (k : Int) : RM w0 b { s with rem := k } (w.setCell ⟨b, 1, none⟩ (.int .i64 k)) := by
  obtain ⟨_, _, _, _, h⟩ := h
  exact ⟨_, _, _, _, h.set1 _⟩
theorem RM.below {s : St} {w' : World} (h : RM w0 b s w) (hb : Below w.heap.size w w') : RM w0 b s w' := by
  obtain ⟨_, _, _, _, h⟩ := h
  exact ⟨_, _, _, _, h.below hb⟩

set_option maxHeartbeats 1000000 in
set_option maxRecDepth 100000 in
theorem takeAngle_any {s : St} (h : RM w0 b s w) (c : UInt8) (hl : s.txt.length ≤ 100000000000000) :
    Calls Tryz.prog 146 #[.pointer (some ⟨b, 0, none⟩), .int .u8 (c.toNat : Int)] w fun e w' => e = .returned (.tuple #[]) ∧ RM w0 b (angleS s c) w' := by
  by_cases h1 : c = 62
  · have hr : angleS s c = endAngleS s := by unfold angleS; rw [if_pos h1]
    rw [hr]
    have g1 := eqt h1 62 rfl
    clear hr h1
    go_enter Tryz.func146, Tryz.ntmps146
    go_wp2_with fail
    refine (endAngle_any h).mono ?_
    rintro e w1 ⟨rfl, h1⟩
    go_wp2_with fail
    go_end0
    exact ⟨rfl, h1⟩
  have g1 := eqf h1 62 rfl
  by_cases h2 : c = 32
  · have hr : angleS s c = s := by unfold angleS; rw [if_neg h1, if_pos (Or.inl h2)]
    rw [hr]
    have g2 := eqt h2 32 rfl
    clear hr h1 h2
    go_enter Tryz.func146, Tryz.ntmps146
    go_wp2_with fail
    go_end0
    exact ⟨rfl, h⟩
  have g2 := eqf h2 32 rfl
  by_cases h3 : c = 9
  · have hr : angleS s c = s := by unfold angleS; rw [if_neg h1, if_pos (Or.inr h3)]
    rw [hr]
    have g3 := eqt h3 9 rfl
    clear hr h1 h2 h3
    go_enter Tryz.func146, Tryz.ntmps146
    go_wp2_with fail
    go_end0
    exact ⟨rfl, h⟩
  have g3 := eqf h3 9 rfl
  have hr : angleS s c = { s with txt := s.txt ++ [c] } := by unfold angleS; rw [if_neg h1, if_neg (by simp [h2, h3])]
  rw [hr]
  clear hr h1 h2 h3
  go_enter Tryz.func146, Tryz.ntmps146
  go_wp2_with fail
  refine (put_any h c hl).mono ?_
  rintro e w1 ⟨rfl, h1⟩
  go_wp2_with fail
  go_end0
  exact ⟨rfl, h1⟩

set_option maxHeartbeats 1000000 in
set_option maxRecDepth 100000 in
theorem takeRemark_any {s : St} (h : RM w0 b s w) (c : UInt8) (hlo : -1099511627776 ≤ s.rem) (hhi : s.rem ≤ 1099511627776) :
    Calls Tryz.prog 147 #[.pointer (some ⟨b, 0, none⟩), .int .u8 (c.toNat : Int)] w fun e w' => e = .returned (.tuple #[]) ∧ RM w0 b (remarkS s c) w' := by
  have q0 := h.c0
  have q1 := h.c1
  have f0 := h.free 0
  have f1 := h.free 1
  by_cases h1 : c = 92
  · have hr : remarkS s c = { s with st := 6 } := by unfold remarkS; rw [if_pos h1]
    rw [hr]
    have g1 := eqt h1 92 rfl
    have hn := h.to 6
    clear hr h1 h
    go_enter Tryz.func147, Tryz.ntmps147
    go_wp2_with fail
    go_end0
    exact ⟨rfl, hn⟩
  have g1 := eqf h1 92 rfl
  by_cases h2 : c = 40
  · have hr : remarkS s c = { s with rem := s.rem + 1 } := by unfold remarkS; rw [if_neg h1, if_pos h2]
    rw [hr]
    have g2 := eqt h2 40 rfl
    have hn := h.rm (s.rem + 1)
    have hwr : IntKind.i64.wrap (s.rem + 1) = s.rem + 1 := by rw [IntKind.wrap_i64]; omega
    clear hr h1 h2 h
    go_enter Tryz.func147, Tryz.ntmps147
    go_wp2_with fail
    go_end0
    exact ⟨rfl, hn⟩
  have g2 := eqf h2 40 rfl
  by_cases h3 : c = 41
  · have g3 := eqt h3 41 rfl
    have hwr : IntKind.i64.wrap (s.rem - 1) = s.rem - 1 := by rw [IntKind.wrap_i64]; omega
    have hn := h.rm (s.rem - 1)
    have d1 := hn.c1
    have d0 := hn.c0
    have e0 := hn.free 0
    by_cases hz : s.rem - 1 = 0
    · have hr : remarkS s c = { s with rem := s.rem - 1, st := 0 } := by unfold remarkS; rw [if_neg h1, if_neg h2, if_pos h3, if_pos hz]
      rw [hr]
      have gz : (s.rem - 1 == 0) = true := by rw [hz]; rfl
      have hn2 := hn.to 0
      clear hr h1 h2 h3 h hn hz
      go_enter Tryz.func147, Tryz.ntmps147
      go_wp2_with fail
      go_end0
      exact ⟨rfl, hn2⟩
    · have hr : remarkS s c = { s with rem := s.rem - 1 } := by unfold remarkS; rw [if_neg h1, if_neg h2, if_pos h3, if_neg hz]
      rw [hr]
      have gz : (s.rem - 1 == 0) = false := by rw [beq_eq_false_iff_ne]; exact hz
      clear hr h1 h2 h3 h hz
      go_enter Tryz.func147, Tryz.ntmps147
      go_wp2_with fail
      go_end0
      exact ⟨rfl, hn⟩
  have g3 := eqf h3 41 rfl
  have hr : remarkS s c = s := by unfold remarkS; rw [if_neg h1, if_neg h2, if_neg h3]
  rw [hr]
  clear hr h1 h2 h3
  go_enter Tryz.func147, Tryz.ntmps147
  go_wp2_with fail
  go_end0
  exact ⟨rfl, h⟩
end Go.Proofs.YtnnbbjdidbggmaaGreatDoor.Ad
namespace Go.Proofs.YtnnbbjdidbggmaaGreatDoor.Ad
open Go Go.RowKit Go.Joins Kit J7
variable {w0 w : World} {b : Nat} {c0 c1 p v wv c5 c6 tv : Value} {l : List UInt8} {ws : List (List UInt8)} {T : List Ad3}

theorem infoS : (Tryz.prog.info? 9).map (fun i => (i.zero, i.size, i.bytes)) = some (some (.string ⟨#[]⟩), 1, 16) := by kernel_rfl
/-- append of a text to the words, as a step of a region that draws. -/
theorem words_step {ops : Array Oper} {o : Oper} {a : Act} {K : Act → World → Prop} {Q : Exit → Act → World → Prop} {E : Prop} (hgd : o.guard = none) (sl x : Operand)
    (ho : o.op = .call { callee := .builtin .append, args := #[sl, x], argTypes := #[29, 29] })
    (B : Nat) (W : World) (h : W.ownsRow B 9 1 wv ws.length (ws.map sV)) (hB : B ≤ W.heap.size) (t : List UInt8) (g cap : Nat) (hblk : W.heap[g]? = some (.cells #[sV t] 9 (0, 0))) (hs : a.eval sl = wv) (hx : a.eval x = .slice (some ⟨g, 0, none⟩) 1 cap)
    (hlen : ws.length ≤ 1099511627776)
    (k : ∀ g' c w', w'.ownsRow B 9 1 (.slice (some ⟨g', 0, none⟩) (ws.length + 1) c) (ws ++ [t]).length ((ws ++ [t]).map sV) → W.grownBy w' wv.ownBlock → K (a.put o.dst (.slice (some ⟨g', 0, none⟩) (ws.length + 1) c)) w') :
    if Region.wanted o (yielded ops a.tmps) = true then Oper.wp Tryz.prog o a W K Q else E := by
  obtain ⟨i0, hi, hz0, hz1, hz2⟩ := info_parts infoS
  refine step_append_lies W hgd sl x 29 ho B 9 i0 _ 1 16 Tryz.underlying29 hi hz0 hz1 hz2 rfl (by decide) wv ws.length _ hs h ⟨g, 0, none⟩ 1 cap [sV t] hx rfl ?_ ?_ Nat.zero_lt_one ?_ ?_ hB W.heap.size rfl ?_
  · intro j u hj
    exact World.news_of_block hblk j u hj
  · intro u hu
    simp only [List.mem_cons, List.not_mem_nil, or_false] at hu
    rcases hu with rfl
    rfl
  · unfold maxLen; omega
  · omega
  · intro g' c w' ho' hg hat _
    refine k g' c w' ?_ hg
    rw [List.length_append, List.map_append]
    exact ho'

set_option maxHeartbeats 4000000 in
set_option maxRecDepth 100000 in
theorem endWord_any {s : St} (h : RM w0 b s w) (hw : s.words.length ≤ 1099511627776) :
    Calls Tryz.prog 144 #[.pointer (some ⟨b, 0, none⟩)] w fun e w' => e = .returned (.tuple #[]) ∧ RM w0 b (endWordS s) w' := by
  obtain ⟨p, v, wv, tv, h⟩ := h
  have HW := Lib.hid hw
  clear hw
  have hd : RX w0 b _ _ p v wv _ _ tv s.txt s.words s.told w.drew := h.below (Below.refl _ w).drew
  have hstr := bstring_any hd
  have l4 : w.drew.cell? ⟨b, 4, none⟩ = some wv := hd.y.cell 4
  clear h
  go_enter Tryz.func144, Tryz.ntmps144
  go_upto_region 0 with fail
  refine wp_region_any (by kernel_rfl) ?_
  try (change wpAny _ _ _ _ _ _ _ (World.drew _))
  refine wpAny_take (i := 0) (v := ?_) rfl (by kernel_rfl) (by kernel_rfl) (by kernel_rfl) (fun _ _ _ h => h) (Or.inl ⟨by rfl, ?_⟩) ?_
  rotate_left 1
  · (intro w; go_simp) <;> with_reducible rfl
  refine wpAny_take (i := 1) (v := ?_) rfl (by kernel_rfl) (by kernel_rfl) (by kernel_rfl) (fun _ _ _ h => h) (Or.inl ⟨by rfl, ?_⟩) ?_
  rotate_left 1
  · (intro w; go_simp) <;> with_reducible rfl
  refine wpAny_take (i := 2) (v := ?_) rfl (by kernel_rfl) (by kernel_rfl) (by kernel_rfl) (fun _ _ _ h => h) (Or.inl ⟨by rfl, ?_⟩) ?_
  rotate_left 1
  · (intro w; go_simp) <;> with_reducible rfl
  refine wpAny_take (i := 3) (v := ?_) rfl (by kernel_rfl) (by kernel_rfl) (by kernel_rfl) (fun _ _ _ h => h) (Or.inl ⟨by rfl, ?_⟩) ?_
  rotate_left 1
  · (intro w; go_simp) <;> with_reducible rfl
  refine wpAny_take (i := 5) (v := ?_) rfl (by kernel_rfl) (by kernel_rfl) (by kernel_rfl) (fun _ _ _ h => h) (Or.inl ⟨by rfl, ?_⟩) ?_
  rotate_left 1
  · (intro w; go_simp) <;> with_reducible rfl
  refine wpAny_take (i := 6) (v := ?_) rfl (by kernel_rfl) (by kernel_rfl) (by kernel_rfl) (fun _ _ _ h => h) (Or.inl ⟨by rfl, ?_⟩) ?_
  rotate_left 1
  · (intro w; go_simp) <;> with_reducible rfl
  refine wpAny_take (i := 7) (v := ?_) rfl (by kernel_rfl) (by kernel_rfl) (by kernel_rfl) (fun _ _ _ h => h) (Or.inl ⟨by rfl, ?_⟩) ?_
  rotate_left 1
  · (intro w; go_simp) <;> with_reducible rfl
  refine wpAny_ready (rs := [4, 8]) (by kernel_rfl) (by simp) ?_
  refine AllReady.cons rfl (fun K hK => ?_) (AllReady.cons rfl (fun K hK => ?_) AllReady.nil)
  · go_simp
    refine hK _ _ ?_
    clear hK K
    refine wpAny_ready (rs := [8]) (by kernel_rfl) (by simp) ?_
    refine AllReady.cons rfl (fun K hK => ?_) AllReady.nil
    go_simp
    go_wp2_with fail
    refine hstr.mono ?_
    rintro e w1 ⟨rfl, h1⟩
    have m4 : w1.cell? ⟨b, 4, none⟩ = some wv := h1.cell 4
    have hb2 : Below w1.heap.size w1 (w1.alloc (.cells #[.string ⟨s.txt.toArray⟩] 9)) := (Below.refl _ w1).alloc (Nat.le_refl _) _
    have h2 := h1.below hb2
    have m5 : (w1.alloc (.cells #[.string ⟨s.txt.toArray⟩] 9)).cell? ⟨b, 4, none⟩ = some wv := h2.cell 4
    clear hd hstr
    go_wp2_with fail
    refine wpAny_ready (rs := [9]) (by kernel_rfl) (by simp) ?_
    refine AllReady.cons rfl (fun K hK => ?_) AllReady.nil
    go_simp
    refine hK _ _ ?_
    clear hK K
    refine wpAny_ready (rs := [10]) (by kernel_rfl) (by simp) ?_
    refine AllReady.cons rfl (fun K hK => ?_) AllReady.nil
    refine words_step rfl (.tmp 6) (.tmp 11) rfl w0.heap.size _ h2.wrd h2.room s.txt w1.heap.size _ (Kit.fresh_block w1 _ _) (by first | rfl | simp [Act.eval, Act.put]) (by first | rfl | simp [Act.eval, Act.put]) HW.out ?_
    intro g5 cap5 w5 ho5 hg5
    have h5 := h2.put4 hg5 ho5
    have hb5 := (hg5.block b h2.lt (fun e => h2.wne e.symm)).trans h2.blk
    have m6 : w5.cell? ⟨b, 4, none⟩ = some wv := by rw [Lib.cell_of_heap hb5]; rfl
    have m7 : w5.frozen? ⟨b, 4, none⟩ = false := Lib.frozen_of_heap hb5 4
    clear ho5 hg5 hb5 h2 h1
    refine hK _ _ ?_
    clear hK K
    refine wpAny_take (i := 11) (v := ?_) rfl (by kernel_rfl) (by kernel_rfl) (by kernel_rfl) (fun _ _ _ h => h) (Or.inl ⟨by rfl, ?_⟩) ?_
    rotate_left 1
    · (intro w; go_simp) <;> with_reducible rfl
    refine wpAny_take (i := 12) (v := ?_) rfl (by kernel_rfl) (by kernel_rfl) (by kernel_rfl) (fun _ _ _ h => h) (Or.inl ⟨by rfl, ?_⟩) ?_
    rotate_left 1
    · (intro w; go_simp) <;> with_reducible rfl
    refine wpAny_ready (rs := [13]) (by kernel_rfl) (by simp) ?_
    refine AllReady.cons rfl (fun K hK => ?_) AllReady.nil
    go_simp
    refine hK _ _ ?_
    clear hK K
    refine wpAny_done (by kernel_rfl) ?_ _
    go_wp2_with fail
    refine (reset_any h5).mono ?_
    rintro e w6 ⟨rfl, h6⟩
    have f0 := h6.y.free 0
    have q0 : w6.cell? ⟨b, 0, none⟩ = some (.int .i64 s.st) := h6.y.cell 0
    have h7 := h6.set0 (.int .i64 0)
    clear h6 h5
    go_wp2_with fail
    go_end0
    exact ⟨rfl, _, _, _, _, h7⟩
  · go_simp
    go_wp2_with fail
    refine hstr.mono ?_
    rintro e w1 ⟨rfl, h1⟩
    have m4 : w1.cell? ⟨b, 4, none⟩ = some wv := h1.cell 4
    have hb2 : Below w1.heap.size w1 (w1.alloc (.cells #[.string ⟨s.txt.toArray⟩] 9)) := (Below.refl _ w1).alloc (Nat.le_refl _) _
    have h2 := h1.below hb2
    have m5 : (w1.alloc (.cells #[.string ⟨s.txt.toArray⟩] 9)).cell? ⟨b, 4, none⟩ = some wv := h2.cell 4
    clear hd hstr
    go_wp2_with fail
    refine wpAny_ready (rs := [4, 9]) (by kernel_rfl) (by simp) ?_
    refine AllReady.cons rfl (fun K hK => ?_) (AllReady.cons rfl (fun K hK => ?_) AllReady.nil)
    · go_simp
      refine hK _ _ ?_
      clear hK K
      refine wpAny_ready (rs := [9]) (by kernel_rfl) (by simp) ?_
      refine AllReady.cons rfl (fun K hK => ?_) AllReady.nil
      go_simp
      refine hK _ _ ?_
      clear hK K
      refine wpAny_ready (rs := [10]) (by kernel_rfl) (by simp) ?_
      refine AllReady.cons rfl (fun K hK => ?_) AllReady.nil
      refine words_step rfl (.tmp 6) (.tmp 11) rfl w0.heap.size _ h2.wrd h2.room s.txt w1.heap.size _ (Kit.fresh_block w1 _ _) (by first | rfl | simp [Act.eval, Act.put]) (by first | rfl | simp [Act.eval, Act.put]) HW.out ?_
      intro g5 cap5 w5 ho5 hg5
      have h5 := h2.put4 hg5 ho5
      have hb5 := (hg5.block b h2.lt (fun e => h2.wne e.symm)).trans h2.blk
      have m6 : w5.cell? ⟨b, 4, none⟩ = some wv := by rw [Lib.cell_of_heap hb5]; rfl
      have m7 : w5.frozen? ⟨b, 4, none⟩ = false := Lib.frozen_of_heap hb5 4
      clear ho5 hg5 hb5 h2 h1
      refine hK _ _ ?_
      clear hK K
      refine wpAny_take (i := 11) (v := ?_) rfl (by kernel_rfl) (by kernel_rfl) (by kernel_rfl) (fun _ _ _ h => h) (Or.inl ⟨by rfl, ?_⟩) ?_
      rotate_left 1
      · (intro w; go_simp) <;> with_reducible rfl
      refine wpAny_take (i := 12) (v := ?_) rfl (by kernel_rfl) (by kernel_rfl) (by kernel_rfl) (fun _ _ _ h => h) (Or.inl ⟨by rfl, ?_⟩) ?_
      rotate_left 1
      · (intro w; go_simp) <;> with_reducible rfl
      refine wpAny_ready (rs := [13]) (by kernel_rfl) (by simp) ?_
      refine AllReady.cons rfl (fun K hK => ?_) AllReady.nil
      go_simp
      refine hK _ _ ?_
      clear hK K
      refine wpAny_done (by kernel_rfl) ?_ _
      go_wp2_with fail
      refine (reset_any h5).mono ?_
      rintro e w6 ⟨rfl, h6⟩
      have f0 := h6.y.free 0
      have q0 : w6.cell? ⟨b, 0, none⟩ = some (.int .i64 s.st) := h6.y.cell 0
      have h7 := h6.set0 (.int .i64 0)
      clear h6 h5
      go_wp2_with fail
      go_end0
      exact ⟨rfl, _, _, _, _, h7⟩
    · go_simp
      refine hK _ _ ?_
      clear hK K
      refine wpAny_ready (rs := [4]) (by kernel_rfl) (by simp) ?_
      refine AllReady.cons rfl (fun K hK => ?_) AllReady.nil
      go_simp
      refine hK _ _ ?_
      clear hK K
      refine wpAny_ready (rs := [10]) (by kernel_rfl) (by simp) ?_
      refine AllReady.cons rfl (fun K hK => ?_) AllReady.nil
      refine words_step rfl (.tmp 6) (.tmp 11) rfl w0.heap.size _ h2.wrd h2.room s.txt w1.heap.size _ (Kit.fresh_block w1 _ _) (by first | rfl | simp [Act.eval, Act.put]) (by first | rfl | simp [Act.eval, Act.put]) HW.out ?_
      intro g5 cap5 w5 ho5 hg5
      have h5 := h2.put4 hg5 ho5
      have hb5 := (hg5.block b h2.lt (fun e => h2.wne e.symm)).trans h2.blk
      have m6 : w5.cell? ⟨b, 4, none⟩ = some wv := by rw [Lib.cell_of_heap hb5]; rfl
      have m7 : w5.frozen? ⟨b, 4, none⟩ = false := Lib.frozen_of_heap hb5 4
      clear ho5 hg5 hb5 h2 h1
      refine hK _ _ ?_
      clear hK K
      refine wpAny_take (i := 11) (v := ?_) rfl (by kernel_rfl) (by kernel_rfl) (by kernel_rfl) (fun _ _ _ h => h) (Or.inl ⟨by rfl, ?_⟩) ?_
      rotate_left 1
      · (intro w; go_simp) <;> with_reducible rfl
      refine wpAny_take (i := 12) (v := ?_) rfl (by kernel_rfl) (by kernel_rfl) (by kernel_rfl) (fun _ _ _ h => h) (Or.inl ⟨by rfl, ?_⟩) ?_
      rotate_left 1
      · (intro w; go_simp) <;> with_reducible rfl
      refine wpAny_ready (rs := [13]) (by kernel_rfl) (by simp) ?_
      refine AllReady.cons rfl (fun K hK => ?_) AllReady.nil
      go_simp
      refine hK _ _ ?_
      clear hK K
      refine wpAny_done (by kernel_rfl) ?_ _
      go_wp2_with fail
      refine (reset_any h5).mono ?_
      rintro e w6 ⟨rfl, h6⟩
      have f0 := h6.y.free 0
      have q0 : w6.cell? ⟨b, 0, none⟩ = some (.int .i64 s.st) := h6.y.cell 0
      have h7 := h6.set0 (.int .i64 0)
      clear h6 h5
      go_wp2_with fail
      go_end0
      exact ⟨rfl, _, _, _, _, h7⟩
end Go.Proofs.YtnnbbjdidbggmaaGreatDoor.Ad
namespace Go.Proofs.YtnnbbjdidbggmaaGreatDoor.Ad
open Go Go.RowKit Go.Joins Kit J7
variable {w0 w : World} {b : Nat}

/-! ### A place parted -/
theorem lastAt_none : ∀ {l : List UInt8} (_ : ∀ c ∈ l, c ≠ 64), lastAt l = none
  | [], _ => rfl
  | c :: r, h => by rw [lastAt, lastAt_none (fun x hx => h x (by simp [hx]))]; simp [h c (by simp)]
theorem lastAt_some : ∀ (a : List UInt8) {r : List UInt8} (_ : ∀ c ∈ r, c ≠ 64), lastAt (a ++ 64 :: r) = some a.length
  | [], r, h => by rw [List.nil_append, lastAt, lastAt_none h]; rfl
  | x :: a, r, h => by rw [List.cons_append, lastAt, lastAt_some a h]; rfl
theorem cutA_none {l : List UInt8} (h : ∀ c ∈ l, c ≠ 64) : cutA l = (l, []) := by unfold cutA; rw [lastAt_none h]
theorem cutA_some (a : List UInt8) {r : List UInt8} (h : ∀ c ∈ r, c ≠ 64) : cutA (a ++ 64 :: r) = (a, r) := by
  unfold cutA
  rw [lastAt_some a h]
  simp
theorem bang (s : ByteArray) (j : Nat) (h : j < s.size) : s.data[j]! = s.data.toList[j]'(by rw [← Lib.size_eq]; exact h) := by
  rw [getElem!_pos s.data j (by simpa using h)]
  simp
theorem cut_cases (s : ByteArray) : (Lib.lastIndexByte s 64 = -1 ∧ cutA s.data.toList = (s.data.toList, [])) ∨
    ∃ i : Nat, i < s.size ∧ Lib.lastIndexByte s 64 = i ∧ cutA s.data.toList = ((s.extract 0 i).data.toList, (s.extract (i + 1) s.size).data.toList) := by
  have hl : s.data.toList.length = s.size := (Lib.size_eq s).symm
  rcases Lib.lastIndexByte_spec s 64 with ⟨h1, h2⟩ | ⟨i, hi, h1, h2, h3⟩
  · refine Or.inl ⟨h1, cutA_none fun c hc => ?_⟩
    obtain ⟨j, hj, rfl⟩ := List.mem_iff_getElem.1 hc
    intro e
    refine h2 j (by omega) ?_
    rw [bang s j (by omega), e]
    rfl
  · refine Or.inr ⟨i, hi, h1, ?_⟩
    have h64 : s.data.toList[i]'(by omega) = 64 := by
      rw [bang s i hi] at h2
      exact UInt8.toNat_inj.1 (by have : ((s.data.toList[i]'(by omega)).toNat : Int) = ((64 : Nat) : Int) := h2; exact Int.ofNat.inj this)
    have hsp : s.data.toList = s.data.toList.take i ++ 64 :: s.data.toList.drop (i + 1) := by
      conv => lhs; rw [← List.take_append_drop i s.data.toList, List.drop_eq_getElem_cons (by omega), h64]
    have hno : ∀ c ∈ s.data.toList.drop (i + 1), c ≠ 64 := by
      intro c hc e
      obtain ⟨j, hj, rfl⟩ := List.mem_iff_getElem.1 hc
      rw [List.length_drop] at hj
      rw [List.getElem_drop] at e
      refine h3 (i + 1 + j) (by omega) (by omega) ?_
      rw [bang s (i + 1 + j) (by omega), e]
      rfl
    have := cutA_some (s.data.toList.take i) hno
    rw [← hsp] at this
    rw [this, Lib.extract_data, Lib.extract_data, List.drop_zero, Nat.sub_zero]
    refine Prod.ext rfl ?_
    show List.drop (i + 1) s.data.toList = _
    exact (List.take_of_length_le (by rw [List.length_drop]; omega)).symm

set_option maxHeartbeats 1000000 in
set_option maxRecDepth 100000 in
theorem cut_any (s : ByteArray) (w : World) (hs : s.size ≤ 1099511627776) :
    Calls Tryz.prog 162 #[.string s] w fun e w' => ∃ B H : ByteArray, e = .returned (.tuple #[.string B, .string H]) ∧ B.data.toList = (cutA s.data.toList).1 ∧ H.data.toList = (cutA s.data.toList).2 ∧ Below w.heap.size w w' := by
  rcases cut_cases s with ⟨h1, h2⟩ | ⟨i, hi, h1, h2⟩
  · have HC := Lib.hid h2
    clear h2
    have hI := Tryz.strings_LastIndexByte s 64 (by omega) w
    rw [h1] at hI
    clear h1
    go_enter Tryz.func162, Tryz.ntmps162
    go_wp2_with fail
    refine hI.mono ?_
    rintro e w1 ⟨rfl, rfl⟩
    go_wp2_with fail
    go_ret2
    exact ⟨s, ⟨#[]⟩, rfl, by rw [HC.out], by rw [HC.out], Below.refl _ _⟩
  · have HC := Lib.hid h2
    clear h2
    have hI := Tryz.strings_LastIndexByte s 64 (by omega) w
    rw [h1] at hI
    have gi : (i : Int) < (s.size : Int) := by omega
    have gs : (s.size : Int) ≤ 1099511627776 := by omega
    clear h1 hs
    go_enter Tryz.func162, Tryz.ntmps162
    go_wp2_with fail
    refine hI.mono ?_
    rintro e w1 ⟨rfl, rfl⟩
    go_upto_region 4 with fail
    go_quiet (fail)
    go_wp2_with fail
    go_ret2
    exact ⟨s.extract 0 i, s.extract (i + 1) s.size, rfl, by rw [HC.out], by rw [HC.out], below_drewN (Below.refl _ _) _⟩

/-! ### The words joined -/
theorem words_data (ws : List (List UInt8)) : (ws.map (fun x => (⟨x.toArray⟩ : ByteArray))).map (·.data.toList) = ws := by
  rw [List.map_map]
  conv => rhs; rw [← List.map_id ws]
  rfl
theorem joinW_any {B n : Nat} {wv : Value} {ws : List (List UInt8)} (hn : ws.length = n) (sep : ByteArray) (hs : sep.size ≤ 1) (h : w.ownsRow B 9 1 wv n (ws.map sV)) (hl : lenW ws ≤ 1099511627776) :
    Calls Tryz.prog 161 #[wv, .string sep] w fun e w' => e = .returned (.string ⟨(Lib.join ws sep.data.toList).toArray⟩) ∧ Below w.heap.size w w' := by
  have hj := join_len ws sep.data.toList (by rw [← Lib.size_eq]; exact hs)
  have hle := lens_le ws
  rcases h.2 with ⟨rfl, h0⟩ | ⟨g, cap, cur, rfl, _, hg, hnc, _⟩
  · have : ws = [] := List.eq_nil_of_length_eq_zero (by omega)
    subst this
    refine (Tryz.strings_Join_none none 0 sep w).mono ?_
    rintro e w' ⟨rfl, rfl⟩
    exact ⟨rfl, Below.refl _ _⟩
  · have := Tryz.strings_Join g 0 cap (ws.map (fun x => (⟨x.toArray⟩ : ByteArray))) sep w (fun j x hx => by
      rw [List.getElem?_map] at hx
      obtain ⟨y, hy, rfl⟩ := Option.map_eq_some_iff.1 hx
      have hj : j < ws.length := (List.getElem?_eq_some_iff.1 hy).1
      rw [Nat.zero_add, h.cellAt j (by omega), List.getElem?_map, hy]
      rfl) (Array.getElem?_eq_some_iff.1 hg).1 (by rw [List.length_map]; omega) (by rw [List.length_map]; omega) (by rw [words_data]; omega)
    rw [words_data, List.length_map, hn] at this
    exact this

/-! ### Addresses appended -/
theorem infoA : (Tryz.prog.info? 103).map (fun i => (i.zero, i.size, i.bytes)) = some (some (.agg #[.string ⟨#[]⟩, .string ⟨#[]⟩, .string ⟨#[]⟩]), 3, 48) := by kernel_rfl
theorem addrs_app {tv : Value} {T : List Ad3} {ops : Array Oper} {rest : List Oper} {o : Oper} {a : Act} {Q : Exit → Act → World → Prop} (hgd : o.guard = none) (sl x : Operand)
    (ho : o.op = .call { callee := .builtin .append, args := #[sl, x], argTypes := #[63, 63] })
    (B : Nat) (W : World) (h : W.ownsRow B 103 3 tv T.length (aC T)) (hB : B ≤ W.heap.size) (f : Ad3) (g cap : Nat) (hblk : W.heap[g]? = some (.cells #[sV f.1, sV f.2.1, sV f.2.2] 103 (0, 0))) (hs : a.eval sl = tv) (hx : a.eval x = .slice (some ⟨g, 0, none⟩) 1 cap)
    (hlen : T.length ≤ 1099511627776)
    (k : ∀ g' c w', w'.ownsRow B 103 3 (.slice (some ⟨g', 0, none⟩) (T.length + 1) c) (T ++ [f]).length (aC (T ++ [f])) → W.grownBy w' tv.ownBlock → wpList Tryz.prog ops Q rest (a.put o.dst (.slice (some ⟨g', 0, none⟩) (T.length + 1) c)) w') : wpList Tryz.prog ops Q (o :: rest) a W := by
  obtain ⟨i0, hi, hz0, hz1, hz2⟩ := info_parts infoA
  refine wpList_append_lies W hgd sl x 63 ho B 103 i0 _ 3 48 Tryz.underlying63 hi hz0 hz1 hz2 rfl (by decide) tv T.length _ hs h ⟨g, 0, none⟩ 1 cap [sV f.1, sV f.2.1, sV f.2.2] hx rfl ?_ ?_ Nat.zero_lt_one ?_ ?_ hB W.heap.size rfl ?_
  · intro j u hj
    exact World.news_of_block hblk j u hj
  · intro u hu
    simp only [List.mem_cons, List.not_mem_nil, or_false] at hu
    rcases hu with rfl | rfl | rfl <;> rfl
  · unfold maxLen; omega
  · omega
  · intro g' c w' ho' hg hat _
    refine k g' c w' ?_ hg
    rw [List.length_append, aC_append]
    exact ho'
end Go.Proofs.YtnnbbjdidbggmaaGreatDoor.Ad
namespace Go.Proofs.YtnnbbjdidbggmaaGreatDoor.Ad
open Go Go.RowKit Go.Joins Kit J7
variable {w0 w : World} {b : Nat}

set_option maxHeartbeats 4000000 in
set_option maxRecDepth 100000 in
theorem tell_any {s : St} (h : RM w0 b s w) (hE : Srch.Env w0) (hw : lenW s.words ≤ 1000000000) (ha : s.angle.length ≤ 1000000000) (ht : s.told.length ≤ 1000000000) :
    Calls Tryz.prog 149 #[.pointer (some ⟨b, 0, none⟩)] w fun e w' => e = .returned (.tuple #[]) ∧ RM w0 b (tellS s) w' := by
  have HE := Lib.hid hE
  have HW := Lib.hid (And.intro hw (And.intro ha ht))
  clear hE hw ha ht
  have q5 : w.cell? ⟨b, 5, none⟩ = some (.string ⟨s.angle.toArray⟩) := h.c5
  have HR := Lib.hid h
  clear h
  go_enter Tryz.func149, Tryz.ntmps149
  go_upto_region 0 with fail
  go_quiet (fail)
  have hR1 : RM w0 b s (w.drewN nq) := HR.out.below (below_drewN (Below.refl _ _) nq)
  generalize w.drewN nq = w1 at hR1
  clear HR q5
  have q6 := hR1.c6
  have HR := Lib.hid hR1
  clear hR1
  go_upto_if 13 with fail
  go_cut [2, 3] from 10 to 25 (fun nv pv wx => ∃ N P : ByteArray, nv = .string N ∧ pv = .string P ∧ P.size ≤ 1000000000 ∧ Hid (N.data.toList = nameA s ∧ P.data.toList = placeA s) ∧ Hid (RM w0 b s wx))
  case first =>
    cases had : s.angled with
    | true =>
      have HA := Lib.hid had
      rw [had] at q6
      obtain ⟨p, v, wv, tv, hx⟩ := HR.out
      have q4 : w1.cell? ⟨b, 4, none⟩ = some wv := hx.y.cell 4
      have hj := joinW_any (n := s.words.length) rfl ⟨#[32]⟩ (by decide) hx.y.wrd (by have := HW.out.1; omega)
      have hjl := join_len s.words [32] (by decide)
      obtain ⟨X, hX⟩ : ∃ X : ByteArray, (⟨(Lib.join s.words (ByteArray.mk #[32]).data.toList).toArray⟩ : ByteArray) = X := ⟨_, rfl⟩
      have HX : Hid (X.data.toList = Lib.join s.words [32]) := Lib.hid (by rw [← hX])
      have HZ : Hid (X.size ≤ 1099511627) := Lib.hid (by rw [Lib.size_eq, HX.out]; have := HW.out.1; omega)
      rw [hX] at hj
      clear hX hjl hx had
      go_wp2_with fail
      refine hj.mono ?_
      rintro e w2 ⟨rfl, hb2⟩
      have h2 := Lib.hid (HR.out.below hb2)
      clear hb2
      go_wp2_with fail
      refine (Wd.decode_any X w2 HZ.out (HE.out.next h2.out.bel)).mono ?_
      rintro e w3 ⟨rfl, hb3⟩
      have h3 := Lib.hid (h2.out.below hb3)
      clear hb3
      go_wp2_with fail
      go_meet
      exact ⟨_, _, rfl, rfl, by rw [Lib.size_eq]; exact HW.out.2.1, Lib.hid ⟨by unfold nameA; rw [HA.out, if_pos rfl, HX.out], by unfold placeA; rw [HA.out, if_pos rfl]⟩, h3⟩
    | false =>
      have HA := Lib.hid had
      rw [had] at q6
      obtain ⟨p, v, wv, tv, hx⟩ := HR.out
      have q4 : w1.cell? ⟨b, 4, none⟩ = some wv := hx.y.cell 4
      have hj := joinW_any (n := s.words.length) rfl ⟨#[]⟩ (by decide) hx.y.wrd (by have := HW.out.1; omega)
      have hjl := join_len s.words [] (by decide)
      obtain ⟨X, hX⟩ : ∃ X : ByteArray, (⟨(Lib.join s.words (ByteArray.mk #[]).data.toList).toArray⟩ : ByteArray) = X := ⟨_, rfl⟩
      have HX : Hid (X.data.toList = Lib.join s.words []) := Lib.hid (by rw [← hX])
      have HZ : Hid (X.size ≤ 1000000000) := Lib.hid (by rw [Lib.size_eq, HX.out]; have := HW.out.1; omega)
      rw [hX] at hj
      clear hX hjl hx had
      go_wp2_with fail
      refine hj.mono ?_
      rintro e w2 ⟨rfl, hb2⟩
      have h2 := Lib.hid (HR.out.below hb2)
      clear hb2
      go_wp2_with fail
      go_meet
      exact ⟨⟨#[]⟩, X, rfl, rfl, HZ.out, Lib.hid ⟨by unfold nameA; rw [HA.out, if_neg (by decide)], by unfold placeA; rw [HA.out, if_neg (by decide), HX.out]⟩, h2⟩
  case rest =>
    obtain ⟨N, P, rfl, rfl, hP, HNP, HR2⟩ := hcut
    clear HR q6
    go_wp2_with fail
    refine (cut_any P _ (by omega)).mono ?_
    rintro e w3 ⟨B, H, rfl, hB, hH, hb3⟩
    have h3 := HR2.out.below hb3
    obtain ⟨p, v, wv, tv, hx⟩ := h3
    have HO : Hid (oneA (nameA s) (placeA s) = if B.data.toList = [] ∧ H.data.toList = [] then [] else [(N.data.toList, B.data.toList, H.data.toList)]) := Lib.hid (by unfold oneA; rw [← HNP.out.1, ← HNP.out.2, ← hB, ← hH])
    clear hB hH hb3 HNP
    have hend : ∀ wx, B.data.toList = [] → H.data.toList = [] → RM w0 b s wx → RM w0 b (tellS s) wx := fun wx e1 e2 h => by
      have ht : tellS s = s := by
        unfold tellS
        rw [HO.out, if_pos ⟨e1, e2⟩, List.append_nil]
      rw [ht]
      exact h
    have hput : ¬ (B.data.toList = [] ∧ H.data.toList = []) → tellS s = { s with told := s.told ++ [(N.data.toList, B.data.toList, H.data.toList)] } := fun h => by
      unfold tellS
      rw [HO.out, if_neg h]
    have q7 : w3.cell? ⟨b, 7, none⟩ = some tv := hx.y.cell 7
    have hb2 : Below w3.heap.size w3 (w3.alloc (.cells #[.string N, .string B, .string H] 103)) := (Below.refl _ w3).alloc (Nat.le_refl _) _
    have h4 := hx.below hb2
    have HEND := Lib.hid hend
    have HPUT := Lib.hid hput
    have HX := Lib.hid hx
    have H4 := Lib.hid h4
    clear hend hput hx h4 hb2 HO
    by_cases hB : B.data.toList = []
    · have gB : B.toList = [] := by rw [Lib.toList_data]; exact hB
      by_cases hH : H.data.toList = []
      · have gH : H.toList = [] := by rw [Lib.toList_data]; exact hH
        have HF := Lib.hid (HEND.out w3 hB hH ⟨_, _, _, _, HX.out⟩)
        clear hB hH
        go_wp2_with fail
        go_end0
        exact ⟨rfl, HF.out⟩
      · have gH : H.toList.isEmpty = false := by rw [Lib.toList_data]; cases h : H.data.toList with | nil => exact absurd h hH | cons _ _ => rfl
        have HT := Lib.hid (HPUT.out (fun h => hH h.2))
        clear hB hH
        go_wp2_with (at_builtin; refine addrs_app rfl _ _ rfl w0.heap.size _ H4.out.y.tld H4.out.y.room (N.data.toList, B.data.toList, H.data.toList) w3.heap.size 1 (Kit.fresh_block w3 _ _) rfl rfl (by have := HW.out.2.2; omega) ?_)
        intro g5 cap5 w5 ho5 hg5
        have h5 := H4.out.put7 (T' := s.told ++ [(N.data.toList, B.data.toList, H.data.toList)]) hg5 (by rw [List.length_append]; exact ho5)
        have hb5 := (hg5.block b H4.out.y.lt (fun e => H4.out.y.tne e.symm)).trans H4.out.y.blk
        have m6 : w5.cell? ⟨b, 7, none⟩ = some tv := by rw [Lib.cell_of_heap hb5]; rfl
        have m7 : w5.frozen? ⟨b, 7, none⟩ = false := Lib.frozen_of_heap hb5 7
        clear ho5 hg5 hb5
        go_wp2_with fail
        go_end0
        rw [HT.out]
        exact ⟨rfl, _, _, _, _, h5⟩
    · have gB : B.toList.isEmpty = false := by rw [Lib.toList_data]; cases h : B.data.toList with | nil => exact absurd h hB | cons _ _ => rfl
      have HT := Lib.hid (HPUT.out (fun h => hB h.1))
      clear hB
      go_wp2_with (at_builtin; refine addrs_app rfl _ _ rfl w0.heap.size _ H4.out.y.tld H4.out.y.room (N.data.toList, B.data.toList, H.data.toList) w3.heap.size 1 (Kit.fresh_block w3 _ _) rfl rfl (by have := HW.out.2.2; omega) ?_)
      intro g5 cap5 w5 ho5 hg5
      have h5 := H4.out.put7 (T' := s.told ++ [(N.data.toList, B.data.toList, H.data.toList)]) hg5 (by rw [List.length_append]; exact ho5)
      have hb5 := (hg5.block b H4.out.y.lt (fun e => H4.out.y.tne e.symm)).trans H4.out.y.blk
      have m6 : w5.cell? ⟨b, 7, none⟩ = some tv := by rw [Lib.cell_of_heap hb5]; rfl
      have m7 : w5.frozen? ⟨b, 7, none⟩ = false := Lib.frozen_of_heap hb5 7
      clear ho5 hg5 hb5
      go_wp2_with fail
      go_end0
      rw [HT.out]
      exact ⟨rfl, _, _, _, _, h5⟩
end Go.Proofs.YtnnbbjdidbggmaaGreatDoor.Ad
namespace Go.Proofs.YtnnbbjdidbggmaaGreatDoor.Ad
open Go Go.RowKit Go.Joins Kit J7
variable {w0 w : World} {b : Nat}

theorem RM.clear {s : St} (h : RM w0 b s w) : RM w0 b (clearS s) (((w.setCell ⟨b, 4, none⟩ (.slice none 0 0)).setCell ⟨b, 5, none⟩ (.string ⟨#[]⟩)).setCell ⟨b, 6, none⟩ (.bool false)) := by
  obtain ⟨_, _, _, _, h⟩ := h
  exact ⟨_, _, _, _, (h.clear4.set5 (.string ⟨#[]⟩)).set6 (.bool false)⟩
theorem RM.cells {s : St} (h : RM w0 b s w) : ∃ wv, w.cell? ⟨b, 4, none⟩ = some wv ∧ (w.setCell ⟨b, 4, none⟩ (.slice none 0 0)).cell? ⟨b, 5, none⟩ = some (.string ⟨s.angle.toArray⟩) ∧
    ((w.setCell ⟨b, 4, none⟩ (.slice none 0 0)).setCell ⟨b, 5, none⟩ (.string ⟨#[]⟩)).cell? ⟨b, 6, none⟩ = some (.bool s.angled) ∧ w.frozen? ⟨b, 4, none⟩ = false ∧ (w.setCell ⟨b, 4, none⟩ (.slice none 0 0)).frozen? ⟨b, 5, none⟩ = false ∧
    ((w.setCell ⟨b, 4, none⟩ (.slice none 0 0)).setCell ⟨b, 5, none⟩ (.string ⟨#[]⟩)).frozen? ⟨b, 6, none⟩ = false := by
  obtain ⟨_, _, wv, _, h⟩ := h
  exact ⟨wv, h.y.cell 4, h.clear4.y.cell 5, (h.clear4.set5 (.string ⟨#[]⟩)).y.cell 6, h.y.free 4, h.clear4.y.free 5, (h.clear4.set5 (.string ⟨#[]⟩)).y.free 6⟩

set_option maxHeartbeats 2000000 in
set_option maxRecDepth 100000 in
theorem begin_any {s : St} (h : RM w0 b s w) (hE : Srch.Env w0) {n : Nat} (hb : Bd n s) (hn : n ≤ 1000000000) (c : UInt8) :
    Calls Tryz.prog 145 #[.pointer (some ⟨b, 0, none⟩), .int .u8 (c.toNat : Int)] w fun e w' => e = .returned (.tuple #[]) ∧ RM w0 b (beginS s c) w' := by
  have HE := Lib.hid hE
  have HB := Lib.hid hb
  have HN := Lib.hid hn
  clear hE hb hn
  have q0 := h.c0
  have q1 := h.c1
  have f0 := h.free 0
  have HR := Lib.hid h
  clear h
  by_cases h34 : c = 34
  · have hr : beginS s c = { s with st := 2 } := by unfold beginS; rw [if_pos h34]
    rw [hr]
    have g34 := eqt h34 34 rfl
    have hn := HR.out.to 2
    clear hr h34
    go_enter Tryz.func145, Tryz.ntmps145
    go_wp2_with fail
    go_end0
    exact ⟨rfl, hn⟩
  have g34 := eqf h34 34 rfl
  by_cases h60 : c = 60
  · have hr : beginS s c = { s with st := 4 } := by unfold beginS; rw [if_neg h34, if_pos h60]
    rw [hr]
    have g60 := eqt h60 60 rfl
    have hn := HR.out.to 4
    clear hr h34 h60
    go_enter Tryz.func145, Tryz.ntmps145
    go_wp2_with fail
    go_end0
    exact ⟨rfl, hn⟩
  have g60 := eqf h60 60 rfl
  by_cases h40 : c = 40
  · have hr : beginS s c = { s with st := 5, rem := 1 } := by unfold beginS; rw [if_neg h34, if_neg h60, if_pos h40]
    rw [hr]
    have g40 := eqt h40 40 rfl
    have h5 := HR.out.to 5
    have e1 : (w.setCell ⟨b, 0, none⟩ (.int .i64 5)).cell? ⟨b, 1, none⟩ = some (.int .i64 s.rem) := h5.c1
    have e2 : (w.setCell ⟨b, 0, none⟩ (.int .i64 5)).frozen? ⟨b, 1, none⟩ = false := h5.free 1
    have hn := h5.rm 1
    clear h5 hr h34 h60 h40
    go_enter Tryz.func145, Tryz.ntmps145
    go_wp2_with fail
    go_end0
    exact ⟨rfl, hn⟩
  have g40 := eqf h40 40 rfl
  by_cases h44 : c = 44
  · have hr : beginS s c = clearS (tellS s) := by unfold beginS; rw [if_neg h34, if_neg h60, if_neg h40, if_pos (Or.inl h44)]
    rw [hr]
    have g44 := eqt h44 44 rfl
    clear hr h34 h60 h40 h44
    go_enter Tryz.func145, Tryz.ntmps145
    go_wp2_with fail
    refine (tell_any HR.out HE.out (by have := HB.out.wt; have := HN.out; omega) (by have := HB.out.angle; have := HN.out; omega) (by have := HB.out.told; have := HN.out; omega)).mono ?_
    rintro e w1 ⟨rfl, h1⟩
    obtain ⟨wv, p4, p5, p6, r4, r5, r6⟩ := h1.cells
    have hn := h1.clear
    clear h1
    go_wp2_with fail
    go_end0
    exact ⟨rfl, hn⟩
  have g44 := eqf h44 44 rfl
  by_cases h59 : c = 59
  · have hr : beginS s c = clearS (tellS s) := by unfold beginS; rw [if_neg h34, if_neg h60, if_neg h40, if_pos (Or.inr h59)]
    rw [hr]
    have g59 := eqt h59 59 rfl
    clear hr h34 h60 h40 h44 h59
    go_enter Tryz.func145, Tryz.ntmps145
    go_wp2_with fail
    refine (tell_any HR.out HE.out (by have := HB.out.wt; have := HN.out; omega) (by have := HB.out.angle; have := HN.out; omega) (by have := HB.out.told; have := HN.out; omega)).mono ?_
    rintro e w1 ⟨rfl, h1⟩
    obtain ⟨wv, p4, p5, p6, r4, r5, r6⟩ := h1.cells
    have hn := h1.clear
    clear h1
    go_wp2_with fail
    go_end0
    exact ⟨rfl, hn⟩
  have g59 := eqf h59 59 rfl
  by_cases h58 : c = 58
  · have hr : beginS s c = clearS s := by unfold beginS; rw [if_neg h34, if_neg h60, if_neg h40, if_neg (by simp [h44, h59]), if_pos h58]
    rw [hr]
    have g58 := eqt h58 58 rfl
    obtain ⟨wv, p4, p5, p6, r4, r5, r6⟩ := HR.out.cells
    have hn := HR.out.clear
    clear hr h34 h60 h40 h44 h59 h58
    go_enter Tryz.func145, Tryz.ntmps145
    go_wp2_with fail
    go_end0
    exact ⟨rfl, hn⟩
  have g58 := eqf h58 58 rfl
  by_cases h32 : c = 32
  · have hr : beginS s c = s := by unfold beginS; rw [if_neg h34, if_neg h60, if_neg h40, if_neg (by simp [h44, h59]), if_neg h58, if_pos (by simp [h32])]
    rw [hr]
    have g32 := eqt h32 32 rfl
    clear hr h34 h60 h40 h44 h59 h58 h32
    go_enter Tryz.func145, Tryz.ntmps145
    go_wp2_with fail
    go_end0
    exact ⟨rfl, HR.out⟩
  have g32 := eqf h32 32 rfl
  by_cases h9 : c = 9
  · have hr : beginS s c = s := by unfold beginS; rw [if_neg h34, if_neg h60, if_neg h40, if_neg (by simp [h44, h59]), if_neg h58, if_pos (by simp [h9])]
    rw [hr]
    have g9 := eqt h9 9 rfl
    clear hr h34 h60 h40 h44 h59 h58 h32 h9
    go_enter Tryz.func145, Tryz.ntmps145
    go_wp2_with fail
    go_end0
    exact ⟨rfl, HR.out⟩
  have g9 := eqf h9 9 rfl
  by_cases h13 : c = 13
  · have hr : beginS s c = s := by unfold beginS; rw [if_neg h34, if_neg h60, if_neg h40, if_neg (by simp [h44, h59]), if_neg h58, if_pos (by simp [h13])]
    rw [hr]
    have g13 := eqt h13 13 rfl
    clear hr h34 h60 h40 h44 h59 h58 h32 h9 h13
    go_enter Tryz.func145, Tryz.ntmps145
    go_wp2_with fail
    go_end0
    exact ⟨rfl, HR.out⟩
  have g13 := eqf h13 13 rfl
  by_cases h10 : c = 10
  · have hr : beginS s c = s := by unfold beginS; rw [if_neg h34, if_neg h60, if_neg h40, if_neg (by simp [h44, h59]), if_neg h58, if_pos (by simp [h10])]
    rw [hr]
    have g10 := eqt h10 10 rfl
    clear hr h34 h60 h40 h44 h59 h58 h32 h9 h13 h10
    go_enter Tryz.func145, Tryz.ntmps145
    go_wp2_with fail
    go_end0
    exact ⟨rfl, HR.out⟩
  have g10 := eqf h10 10 rfl
  have hr : beginS s c = { s with txt := s.txt ++ [c], st := 1 } := by unfold beginS; rw [if_neg h34, if_neg h60, if_neg h40, if_neg (by simp [h44, h59]), if_neg h58, if_neg (by simp [h32, h9, h13, h10])]
  rw [hr]
  clear hr h34 h60 h40 h44 h59 h58 h32 h9 h13 h10
  go_enter Tryz.func145, Tryz.ntmps145
  go_wp2_with fail
  refine (put_any HR.out c (by have := HB.out.wt; have := HN.out; omega)).mono ?_
  rintro e w1 ⟨rfl, h1⟩
  have p0 := h1.c0
  have r0 := h1.free 0
  have hn := h1.to 1
  clear h1
  go_wp2_with fail
  go_end0
  exact ⟨rfl, hn⟩

/-! ### A byte -/
theorem ends_idx (c : UInt8) : (endsB c = true ∧ 0 ≤ Lib.indexByte [34, 40, 60, 58, 44, 59, 32, 9, 13, 10] c) ∨ (endsB c = false ∧ Lib.indexByte [34, 40, 60, 58, 44, 59, 32, 9, 13, 10] c < 0) := by
  rcases Srch.idx_cases c [34, 40, 60, 58, 44, 59, 32, 9, 13, 10] with ⟨h1, h2⟩ | ⟨a, r, h1, _, h3⟩
  · refine Or.inr ⟨?_, by omega⟩
    unfold endsB
    simp only [List.mem_cons, List.not_mem_nil, or_false, forall_eq_or_imp, forall_eq] at h2
    obtain ⟨a1, a2, a3, a4, a5, a6, a7, a8, a9, a10⟩ := h2
    simp [Ne.symm a1, Ne.symm a2, Ne.symm a3, Ne.symm a4, Ne.symm a5, Ne.symm a6, Ne.symm a7, Ne.symm a8, Ne.symm a9, Ne.symm a10]
  · refine Or.inl ⟨?_, by omega⟩
    have hm : c ∈ ([34, 40, 60, 58, 44, 59, 32, 9, 13, 10] : List UInt8) := by rw [h1]; simp
    simp only [List.mem_cons, List.not_mem_nil, or_false] at hm
    unfold endsB
    rcases hm with rfl | rfl | rfl | rfl | rfl | rfl | rfl | rfl | rfl | rfl <;> rfl
theorem index_any (c : UInt8) (w : World) : Calls Tryz.prog 98 #[.string ⟨#[34, 40, 60, 58, 44, 59, 32, 9, 13, 10]⟩, .int .u8 (c.toNat : Int)] w fun e w' => (∃ i : Int, e = .returned (.int .i64 i) ∧ (endsB c = true ∧ 0 ≤ i ∨ endsB c = false ∧ i < 0)) ∧ w' = w := by
  refine (Tryz.strings_IndexByte _ _ w).mono ?_
  rintro e w' ⟨rfl, rfl⟩
  refine ⟨⟨_, rfl, ?_⟩, rfl⟩
  have hc : ((c.toNat : Int)).toNat.toUInt8 = c := by simp
  rw [hc]
  exact ends_idx c

set_option maxHeartbeats 2000000 in
set_option maxRecDepth 100000 in
theorem take_any {s : St} (h : RM w0 b s w) (hE : Srch.Env w0) {n : Nat} (hb : Bd n s) (hn : n ≤ 100000000) (c : UInt8) :
    Calls Tryz.prog 117 #[.pointer (some ⟨b, 0, none⟩), .int .u8 (c.toNat : Int)] w fun e w' => e = .returned (.tuple #[]) ∧ RM w0 b (stepS s c) w' := by
  have h6 := hb.st
  have HE := Lib.hid hE
  have HB := Lib.hid hb
  have HN := Lib.hid hn
  clear hE hb hn
  have f0 := h.free 0
  have HR := Lib.hid h
  have hq := h.c0
  clear h
  have hst : s.st = 1 ∨ s.st = 0 ∨ s.st = 2 ∨ s.st = 3 ∨ s.st = 4 ∨ s.st = 5 ∨ s.st = 6 := by omega
  clear h6
  rcases hst with h1 | h1 | h1 | h1 | h1 | h1 | h1
  · have q0 : w.cell? ⟨b, 0, none⟩ = some (.int .i64 1) := by rw [hq, h1]; rfl
    have hs : stepS s c = if endsB c = true then beginS (endWordS s) c else { s with txt := s.txt ++ [c] } := by unfold stepS; rw [if_pos h1]
    rw [hs]
    clear hs hq h1
    by_cases he : endsB c = true
    · rw [if_pos he]
      have H0 := Lib.hid he
      clear he
      go_enter Tryz.func117, Tryz.ntmps117
      go_wp2_with fail
      refine (index_any c w).mono ?_
      rintro e w1 ⟨⟨i, rfl, hi⟩, rfl⟩
      have g1 : ¬ i < 0 := by rcases hi with ⟨_, hi⟩ | ⟨he, _⟩; omega; exact absurd (H0.out.symm.trans he) (by decide)
      clear hi
      go_wp2_with fail
      refine (endWord_any HR.out (by have := lens_le s.words; have := HB.out.wt; have := HN.out; omega)).mono ?_
      rintro e w2 ⟨rfl, h2⟩
      have H2 := Lib.hid h2
      clear h2 q0
      go_wp2_with fail
      refine (begin_any H2.out HE.out HB.out.endWord (by have := HN.out; omega) c).mono ?_
      rintro e w3 ⟨rfl, h3⟩
      go_wp2_with fail
      go_end0
      exact ⟨rfl, h3⟩
    · rw [if_neg he]
      have H0 := Lib.hid he
      clear he
      go_enter Tryz.func117, Tryz.ntmps117
      go_wp2_with fail
      refine (index_any c w).mono ?_
      rintro e w1 ⟨⟨i, rfl, hi⟩, rfl⟩
      have g1 : i < 0 := by rcases hi with ⟨he, _⟩ | ⟨_, hi⟩; exact absurd he H0.out; omega
      clear hi
      go_wp2_with fail
      refine (put_any HR.out c (by have := HB.out.wt; have := HN.out; omega)).mono ?_
      rintro e w2 ⟨rfl, h2⟩
      go_wp2_with fail
      refine bodyPost_ret (results_none rfl _ _ _) rfl ?_
      exact ⟨rfl, h2⟩
  · have q0 : w.cell? ⟨b, 0, none⟩ = some (.int .i64 0) := by rw [hq, h1]; rfl
    have hs : stepS s c = beginS s c := by unfold stepS; rw [h1]; rfl
    rw [hs]
    clear hs hq h1
    go_enter Tryz.func117, Tryz.ntmps117
    go_wp2_with fail
    refine (begin_any HR.out HE.out HB.out (by have := HN.out; omega) c).mono ?_
    rintro e w3 ⟨rfl, h3⟩
    go_wp2_with fail
    go_end0
    exact ⟨rfl, h3⟩
  · have q0 : w.cell? ⟨b, 0, none⟩ = some (.int .i64 2) := by rw [hq, h1]; rfl
    have hs : stepS s c = if c = 34 then endWordS s else if c = 92 then { s with st := 3 } else { s with txt := s.txt ++ [c], st := 2 } := by unfold stepS; rw [h1]; rfl
    rw [hs]
    clear hs hq h1
    by_cases h34 : c = 34
    · rw [if_pos h34]
      have g34 := eqt h34 34 rfl
      clear h34
      go_enter Tryz.func117, Tryz.ntmps117
      go_wp2_with fail
      refine (endWord_any HR.out (by have := lens_le s.words; have := HB.out.wt; have := HN.out; omega)).mono ?_
      rintro e w2 ⟨rfl, h2⟩
      go_wp2_with fail
      refine bodyPost_ret (results_none rfl _ _ _) rfl ?_
      exact ⟨rfl, h2⟩
    rw [if_neg h34]
    have g34 := eqf h34 34 rfl
    by_cases h92 : c = 92
    · rw [if_pos h92]
      have g92 := eqt h92 92 rfl
      have hn := HR.out.to 3
      clear h34 h92
      go_enter Tryz.func117, Tryz.ntmps117
      go_wp2_with fail
      refine bodyPost_ret (results_none rfl _ _ _) rfl ?_
      exact ⟨rfl, hn⟩
    rw [if_neg h92]
    have g92 := eqf h92 92 rfl
    clear h34 h92
    go_enter Tryz.func117, Tryz.ntmps117
    go_wp2_with fail
    refine (put_any HR.out c (by have := HB.out.wt; have := HN.out; omega)).mono ?_
    rintro e w1 ⟨rfl, h1⟩
    have p0 := h1.c0
    have r0 := h1.free 0
    have hn := h1.to 2
    clear h1 q0 f0
    go_wp2_with fail
    go_end0
    exact ⟨rfl, hn⟩
  · have q0 : w.cell? ⟨b, 0, none⟩ = some (.int .i64 3) := by rw [hq, h1]; rfl
    have hs : stepS s c = { s with txt := s.txt ++ [c], st := 2 } := by unfold stepS; rw [h1]; rfl
    rw [hs]
    clear hs hq h1
    go_enter Tryz.func117, Tryz.ntmps117
    go_wp2_with fail
    refine (put_any HR.out c (by have := HB.out.wt; have := HN.out; omega)).mono ?_
    rintro e w1 ⟨rfl, h1⟩
    have p0 := h1.c0
    have r0 := h1.free 0
    have hn := h1.to 2
    clear h1 q0 f0
    go_wp2_with fail
    go_end0
    exact ⟨rfl, hn⟩
  · have q0 : w.cell? ⟨b, 0, none⟩ = some (.int .i64 4) := by rw [hq, h1]; rfl
    have hs : stepS s c = angleS s c := by unfold stepS; rw [h1]; rfl
    rw [hs]
    clear hs hq h1
    go_enter Tryz.func117, Tryz.ntmps117
    go_wp2_with fail
    refine (takeAngle_any HR.out c (by have := HB.out.wt; have := HN.out; omega)).mono ?_
    rintro e w3 ⟨rfl, h3⟩
    go_wp2_with fail
    go_end0
    exact ⟨rfl, h3⟩
  · have q0 : w.cell? ⟨b, 0, none⟩ = some (.int .i64 5) := by rw [hq, h1]; rfl
    have hs : stepS s c = remarkS s c := by unfold stepS; rw [h1]; rfl
    rw [hs]
    clear hs hq h1
    go_enter Tryz.func117, Tryz.ntmps117
    go_wp2_with fail
    refine (takeRemark_any HR.out c (by have := HB.out.lo; have := HN.out; omega) (by have := HB.out.hi; have := HN.out; omega)).mono ?_
    rintro e w3 ⟨rfl, h3⟩
    go_wp2_with fail
    go_end0
    exact ⟨rfl, h3⟩
  · have q0 : w.cell? ⟨b, 0, none⟩ = some (.int .i64 6) := by rw [hq, h1]; rfl
    have hs : stepS s c = { s with st := 5 } := by unfold stepS; rw [h1]; rfl
    rw [hs]
    clear hs hq h1
    have hn := HR.out.to 5
    go_enter Tryz.func117, Tryz.ntmps117
    go_wp2_with fail
    go_end0
    exact ⟨rfl, hn⟩
end Go.Proofs.YtnnbbjdidbggmaaGreatDoor.Ad
namespace Go.Proofs.YtnnbbjdidbggmaaGreatDoor.Ad
open Go Go.RowKit Go.Joins Kit J7
variable {w0 w : World} {b : Nat}

theorem Bd.words {n : Nat} {s : St} (h : Bd n s) (hn : n ≤ 1000000000) : s.words.length ≤ 1099511627776 := by
  have := lens_le s.words
  have := h.wt
  omega
theorem tells {s : St} (h : RM w0 b s w) (hE : Srch.Env w0) {n : Nat} (hb : Bd n s) (hn : n ≤ 1000000000) :
    Calls Tryz.prog 149 #[.pointer (some ⟨b, 0, none⟩)] w fun e w' => e = .returned (.tuple #[]) ∧ RM w0 b (tellS s) w' :=
  tell_any h hE (by have := hb.wt; omega) (by have := hb.angle; omega) (by have := hb.told; omega)

set_option maxHeartbeats 2000000 in
set_option maxRecDepth 100000 in
theorem end_any {s : St} (h : RM w0 b s w) (hE : Srch.Env w0) {n : Nat} (hb : Bd n s) (hn : n ≤ 100000000) :
    Calls Tryz.prog 118 #[.pointer (some ⟨b, 0, none⟩)] w fun e w' => e = .returned (.tuple #[]) ∧ RM w0 b (endS s) w' := by
  have h6 := hb.st
  have HE := Lib.hid hE
  have HB := Lib.hid hb
  have HN := Lib.hid (show n + 2 ≤ 1000000000 by omega)
  have HL := Lib.hid (show s.txt.length ≤ 100000000000000 by have := hb.wt; omega)
  clear hE hb hn
  have f0 := h.free 0
  have HR := Lib.hid h
  have hq := h.c0
  clear h
  have hst : s.st = 3 ∨ s.st = 2 ∨ s.st = 1 ∨ s.st = 4 ∨ s.st = 0 ∨ s.st = 5 ∨ s.st = 6 := by omega
  clear h6
  rcases hst with h1 | h1 | h1 | h1 | h1 | h1 | h1
  · have q0 : w.cell? ⟨b, 0, none⟩ = some (.int .i64 3) := by rw [hq, h1]; rfl
    have hs : endS s = tellS (endWordS { s with txt := s.txt ++ [92] }) := by unfold endS; rw [h1]; rfl
    rw [hs]
    clear hs hq h1
    have hp : Calls Tryz.prog 99 #[.pointer (some ⟨b, 2, none⟩), .int .u8 92] w fun e w' => e = .returned .nilIface ∧ RM w0 b { s with txt := s.txt ++ [92] } w' := put_any HR.out 92 HL.out
    have hB2 : Hid (Bd (n + 1) { s with txt := s.txt ++ [92] }) := Lib.hid (HB.out.put 92 HB.out.st)
    go_enter Tryz.func118, Tryz.ntmps118
    go_wp2_with fail
    refine hp.mono ?_
    rintro e w1 ⟨rfl, h2⟩
    have H2 := Lib.hid h2
    clear h2 q0 f0 hp
    go_wp2_with fail
    refine (endWord_any H2.out (hB2.out.words (by have := HN.out; omega))).mono ?_
    rintro e w2 ⟨rfl, h3⟩
    have H3 := Lib.hid h3
    clear h3
    go_wp2_with fail
    refine (tells H3.out HE.out hB2.out.endWord (by have := HN.out; omega)).mono ?_
    rintro e w9 ⟨rfl, h9⟩
    go_wp2_with fail
    go_end0
    exact ⟨rfl, h9⟩
  · have q0 : w.cell? ⟨b, 0, none⟩ = some (.int .i64 2) := by rw [hq, h1]; rfl
    have hs : endS s = tellS (endWordS s) := by unfold endS; rw [h1]; rfl
    rw [hs]
    clear hs hq h1
    go_enter Tryz.func118, Tryz.ntmps118
    go_wp2_with fail
    refine (endWord_any HR.out (HB.out.words (by have := HN.out; omega))).mono ?_
    rintro e w2 ⟨rfl, h3⟩
    have H3 := Lib.hid h3
    clear h3
    go_wp2_with fail
    refine (tells H3.out HE.out HB.out.endWord (by have := HN.out; omega)).mono ?_
    rintro e w9 ⟨rfl, h9⟩
    go_wp2_with fail
    go_end0
    exact ⟨rfl, h9⟩
  · have q0 : w.cell? ⟨b, 0, none⟩ = some (.int .i64 1) := by rw [hq, h1]; rfl
    have hs : endS s = tellS (endWordS s) := by unfold endS; rw [h1]; rfl
    rw [hs]
    clear hs hq h1
    go_enter Tryz.func118, Tryz.ntmps118
    go_wp2_with fail
    refine (endWord_any HR.out (HB.out.words (by have := HN.out; omega))).mono ?_
    rintro e w2 ⟨rfl, h3⟩
    have H3 := Lib.hid h3
    clear h3
    go_wp2_with fail
    refine (tells H3.out HE.out HB.out.endWord (by have := HN.out; omega)).mono ?_
    rintro e w9 ⟨rfl, h9⟩
    go_wp2_with fail
    go_end0
    exact ⟨rfl, h9⟩
  · have q0 : w.cell? ⟨b, 0, none⟩ = some (.int .i64 4) := by rw [hq, h1]; rfl
    have hs : endS s = tellS (endAngleS s) := by unfold endS; rw [h1]; rfl
    rw [hs]
    clear hs hq h1
    go_enter Tryz.func118, Tryz.ntmps118
    go_wp2_with fail
    refine (endAngle_any HR.out).mono ?_
    rintro e w2 ⟨rfl, h3⟩
    have H3 := Lib.hid h3
    clear h3
    go_wp2_with fail
    refine (tells H3.out HE.out HB.out.endAngle (by have := HN.out; omega)).mono ?_
    rintro e w9 ⟨rfl, h9⟩
    go_wp2_with fail
    go_end0
    exact ⟨rfl, h9⟩
  · have q0 : w.cell? ⟨b, 0, none⟩ = some (.int .i64 0) := by rw [hq, h1]; rfl
    have hs : endS s = tellS (s) := by unfold endS; rw [h1]; rfl
    rw [hs]
    clear hs hq h1
    go_enter Tryz.func118, Tryz.ntmps118
    go_wp2_with fail
    refine (tells HR.out HE.out HB.out (by have := HN.out; omega)).mono ?_
    rintro e w9 ⟨rfl, h9⟩
    go_wp2_with fail
    go_end0
    exact ⟨rfl, h9⟩
  · have q0 : w.cell? ⟨b, 0, none⟩ = some (.int .i64 5) := by rw [hq, h1]; rfl
    have hs : endS s = tellS (s) := by unfold endS; rw [h1]; rfl
    rw [hs]
    clear hs hq h1
    go_enter Tryz.func118, Tryz.ntmps118
    go_wp2_with fail
    refine (tells HR.out HE.out HB.out (by have := HN.out; omega)).mono ?_
    rintro e w9 ⟨rfl, h9⟩
    go_wp2_with fail
    go_end0
    exact ⟨rfl, h9⟩
  · have q0 : w.cell? ⟨b, 0, none⟩ = some (.int .i64 6) := by rw [hq, h1]; rfl
    have hs : endS s = tellS (s) := by unfold endS; rw [h1]; rfl
    rw [hs]
    clear hs hq h1
    go_enter Tryz.func118, Tryz.ntmps118
    go_wp2_with fail
    refine (tells HR.out HE.out HB.out (by have := HN.out; omega)).mono ?_
    rintro e w9 ⟨rfl, h9⟩
    go_wp2_with fail
    go_end0
    exact ⟨rfl, h9⟩

/-- What List returns: the addresses, in a row of the call's own. -/
def RowA (B : Nat) (v : Value) (T : List Ad3) (w : World) : Prop := w.ownsRow B 103 3 v T.length (aC T)

set_option maxHeartbeats 2000000 in
set_option maxRecDepth 100000 in
theorem list_any (s : ByteArray) (w : World) (hs : s.size ≤ 1000000) (hE : Srch.Env w) :
    Calls Tryz.prog 74 #[.string s] w fun e w' => ∃ v, e = .returned v ∧ RowA w.heap.size v (docA s.data.toList) w' ∧ Below w.heap.size w w' := by
  have HE := Lib.hid hE
  clear hE
  obtain ⟨b, hb⟩ : ∃ b, w.heap.size = b := ⟨_, rfl⟩
  have h0 : RM w b (fresh []) (w.alloc (.cells #[.int .i64 0, .int .i64 0, .pointer none, .slice none 0 0, .slice none 0 0, .string ⟨#[]⟩, .bool false, .slice none 0 0] 134)) := by
    refine ⟨_, _, _, _, ⟨⟨(Below.refl _ w).alloc (Nat.le_refl _) _, by omega, ?_, World.ownsRow_nil _ _ _ _, World.ownsRow_nil _ _ _ _⟩, World.ownsRow_nil _ _ _ _, fun _ => rfl, Or.inl rfl⟩⟩
    rw [← hb]
    exact Kit.fresh_block w _ _
  go_enter Tryz.func74, Tryz.ntmps74
  go_wp2_with fail
  go_loopg [7] s.size (fun m i wr => ∃ k : Nat, m = s.size - k ∧ i = .int .i64 (k : Int) ∧ k ≤ s.size ∧ Hid (RM w b (run (fresh []) (s.data.toList.take k)) wr))
  case atStart => exact ⟨0, rfl, rfl, Nat.zero_le _, Lib.hid h0⟩
  case round =>
    clear h0
    obtain ⟨k, rfl, rfl, hk, HR⟩ := hrel
    by_cases hlt : k < s.size
    · have g1 : (k : Int) < (s.size : Int) := by omega
      have hkl : k < s.data.toList.length := by rw [← Lib.size_eq]; exact hlt
      have hr := run_take (fresh []) s k hkl
      rw [byte_get s k hlt] at hr
      have hbd := run_bd (s.data.toList.take k)
      rw [List.length_take] at hbd
      have HBD : Hid (Bd 2000000 (run (fresh []) (s.data.toList.take k))) := Lib.hid (hbd.up (by omega))
      have HQ := Lib.hid hr
      clear hr hbd hkl
      go_wp2_with fail
      refine (take_any HR.out HE.out HBD.out (by omega) s[k]).mono ?_
      rintro e w2 ⟨rfl, h2⟩
      rw [← HQ.out] at h2
      have H2 := Lib.hid h2
      clear h2
      go_wp2_with fail
      go_roundg (s.size - (k + 1))
      case measure => omega
      case rel => exact ⟨k + 1, rfl, by go_num, by omega, H2⟩
    · have g1 : ¬ (k : Int) < (s.size : Int) := by omega
      have hall : s.data.toList.take k = s.data.toList := List.take_of_length_le (by rw [← Lib.size_eq]; omega)
      have hbd := run_bd s.data.toList
      rw [← Lib.size_eq] at hbd
      have hR := HR.out
      rw [hall] at hR
      have HBD : Hid (Bd 2000000 (run (fresh []) s.data.toList)) := Lib.hid (hbd.up (by omega))
      have H1 := Lib.hid hR
      clear hall hbd hR HR
      go_wp2_with fail
      refine (end_any H1.out HE.out HBD.out (by omega)).mono ?_
      rintro e w2 ⟨rfl, p, v, wv, tv, h2⟩
      have q7 : w2.cell? ⟨b, 7, none⟩ = some tv := h2.y.cell 7
      have hd := h2.y.tld
      have hbl := h2.y.bel
      clear h2
      go_wp2_with fail
      go_ret
      exact ⟨tv, rfl, hd, hbl⟩
end Go.Proofs.YtnnbbjdidbggmaaGreatDoor.Ad
namespace Go.Proofs.YtnnbbjdidbggmaaGreatDoor.Ad
open Go Go.RowKit Go.Joins Kit J7

/-- A slice of addresses that is read. -/
structure AAt (w : World) (v : Value) (T : List Ad3) : Prop where
  form : ∃ a cap, v = .slice a T.length cap ∧ ∀ k (h : k < T.length), ∃ g o, a = some ⟨g, o, none⟩ ∧ g < w.heap.size ∧ w.cell? ⟨g, o + k * 3, none⟩ = some (sV T[k].1) ∧ w.cell? ⟨g, o + k * 3 + 1, none⟩ = some (sV T[k].2.1) ∧ w.cell? ⟨g, o + k * 3 + 2, none⟩ = some (sV T[k].2.2)
theorem AAt.below {w w' : World} {v : Value} {T : List Ad3} (h : AAt w v T) (hb : Below w.heap.size w w') : AAt w' v T := by
  obtain ⟨a, cap, hv, hc⟩ := h.form
  refine ⟨a, cap, hv, fun k hk => ?_⟩
  obtain ⟨g, o, ha, hl, h1, h2, h3⟩ := hc k hk
  exact ⟨g, o, ha, Nat.lt_of_lt_of_le hl hb.size, by rw [← h1]; exact hb.cell (p := ⟨g, o + k * 3, none⟩) hl, by rw [← h2]; exact hb.cell (p := ⟨g, o + k * 3 + 1, none⟩) hl, by rw [← h3]; exact hb.cell (p := ⟨g, o + k * 3 + 2, none⟩) hl⟩
theorem RowA.at {B : Nat} {v : Value} {T : List Ad3} {w : World} (h : RowA B v T w) : AAt w v T := by
  obtain ⟨a, cap, hv⟩ := row_form h
  refine ⟨a, cap, hv, fun k hk => ?_⟩
  rcases h.2 with ⟨hv2, h0⟩ | ⟨g, cap2, cur, hv2, hb, hh, hr⟩
  · omega
  · rw [hv] at hv2
    injection hv2 with e1 e2 e3
    subst e1
    have hl := aC_length T
    have h' : w.ownsRow B 103 3 (.slice (some ⟨g, 0, none⟩) T.length cap) T.length (aC T) := by rw [← hv]; exact h
    obtain ⟨q1, q2, q3⟩ := aC_at T k hk
    refine ⟨g, 0, rfl, (Array.getElem?_eq_some_iff.1 hh).1, ?_, ?_, ?_⟩
    · rw [Nat.zero_add, h'.cellAt (k * 3) (by omega), q1]
    · rw [Nat.zero_add, h'.cellAt (k * 3 + 1) (by omega), q2]
    · rw [Nat.zero_add, h'.cellAt (k * 3 + 2) (by omega), q3]
theorem RowA.below {B : Nat} {v : Value} {T : List Ad3} {w w' : World} (h : RowA B v T w) (hb : Below w.heap.size w w') : RowA B v T w' := row_below h hb

end Go.Proofs.YtnnbbjdidbggmaaGreatDoor.Ad
namespace Go.Proofs.YtnnbbjdidbggmaaGreatDoor.Tx
open Go Go.RowKit

/-- What Number hands back. -/
def numV (o : Option Nat) : Value := .tuple #[.int .i64 (o.getD 0 : Nat), .bool o.isSome]
theorem ret_num_none {l : List UInt8} (h : numL l = none) : Ending.returned (.tuple #[.int .i64 0, .bool false]) = Ending.returned (numV (numL l)) := by rw [h]; rfl
theorem ret_num_some {l : List UInt8} {m : Nat} (h : numL l = some m) : Ending.returned (.tuple #[.int .i64 (m : Int), .bool true]) = Ending.returned (numV (numL l)) := by rw [h]; rfl

theorem toList_nil {s : ByteArray} (h : s.size = 0) : s.toList = [] := by
  rw [Lib.toList_data, ← List.length_eq_zero_iff, ← Lib.size_eq]; exact h
theorem toList_isEmpty {s : ByteArray} (h : s.size ≠ 0) : s.toList.isEmpty = false := by
  rw [Lib.toList_data]
  cases e : s.data.toList with
  | nil => exact absurd (by rw [Lib.size_eq, e]; rfl) h
  | cons a r => rfl
theorem data_ne {s : ByteArray} (h : s.size ≠ 0) : s.data.toList ≠ [] := fun e => h (by rw [Lib.size_eq, e]; rfl)
theorem data_head {s : ByteArray} (h : 0 < s.size) : s.data.toList.head? = some s[0] := by
  have hl : 0 < s.data.toList.length := by rw [← Lib.size_eq]; exact h
  rw [← byte_get s 0 h, List.head?_eq_getElem?, List.getElem?_eq_getElem hl]
theorem numFrom_step (l : List UInt8) (k m : Nat) (h : k < l.length) : numFrom (l.drop k) m = if isDig l[k] then numFrom (l.drop (k + 1)) (m * 10 + (l[k].toNat - 48)) else none := by
  rw [List.drop_eq_getElem_cons h]
  rfl
theorem numL_open {l : List UInt8} (h0 : l ≠ []) (h1 : l.length ≤ 10) (h2 : ¬ (l.head? = some 48 ∧ 1 < l.length)) : numL l = match numFrom l 0 with | some n => if n ≤ 4294967295 then some n else none | none => none := by
  unfold numL
  refine if_neg fun h => ?_
  rcases h with h | h | h
  · exact h0 h
  · omega
  · exact h2 h

theorem pow_le (k : Nat) (h : k ≤ 10) : 10 ^ k ≤ 10000000000 := Nat.pow_le_pow_right (n := 10) (by decide) h
theorem pow_next {m d k : Nat} (h : m < 10 ^ k) (hd : d ≤ 9) : m * 10 + d < 10 ^ (k + 1) := by rw [Nat.pow_succ]; omega

set_option maxHeartbeats 400000 in
theorem number_core (s : ByteArray) (w : World) (h0 : 0 < s.size) (h1 : s.size ≤ 10) (h2 : ((s[0].toNat : Int) = 48 ∧ s.size ≤ 1) ∨ ¬ (s[0].toNat : Int) = 48) :
    Calls Tryz.prog 82 #[.string s] w fun e w' => e = .returned (numV (numL s.data.toList)) ∧ w = w' := by
  have hE := toList_isEmpty (s := s) (by omega)
  have hopen : Hid (numL s.data.toList = match numFrom s.data.toList 0 with | some n => if n ≤ 4294967295 then some n else none | none => none) :=
    numL_open (data_ne (by omega)) (by rw [← Lib.size_eq]; exact h1) (by
      rw [data_head h0, ← Lib.size_eq]
      rintro ⟨e, h⟩
      have e' := Option.some.inj e
      rcases h2 with h2 | h2
      · omega
      · rw [e'] at h2; exact h2 rfl)
  have g1 : (s.size : Int) ≤ 10 := by omega
  have hstart : Hid (numFrom (s.data.toList.drop 0) 0 = numFrom s.data.toList 0) := by show _ = _; rfl
  rcases h2 with ⟨h2, h3⟩ | h2
  all_goals
    go_enter Tryz.func82, Tryz.ntmps82
    go_wp2_with fail
    go_loop [4, 24] (fun n i => ∃ k m : Nat, k ≤ s.size ∧ m < 10 ^ k ∧ Hid (numFrom (s.data.toList.drop k) m = numFrom s.data.toList 0) ∧ i = .int .i64 k ∧ n = .int .i64 m) (fun _ i => s.size - (intOf i).toNat)
    case atStart => exact ⟨0, 0, by omega, by decide, hstart, rfl, rfl⟩
    case round =>
      obtain ⟨k, m, hk, hm, hn, rfl, rfl⟩ := hrel
      have hp := pow_le k (by omega)
      have hm' : m ≤ 10000000000 := by omega
      clear hp
      have HM : Hid (m < 10 ^ k) := hm
      clear hm
      by_cases hlt : k < s.size
      · have hl : k < s.data.toList.length := by rw [← Lib.size_eq]; exact hlt
        have hst := numFrom_step s.data.toList k m hl
        rw [byte_get s k hlt] at hst
        have HST := Lib.hid hst
        clear hst
        by_cases hd : 48 ≤ s[k].toNat ∧ s[k].toNat ≤ 57
        · obtain ⟨d1, d2⟩ := hd
          have g2 : (48 : Int) ≤ s[k].toNat := by omega
          have g3 : (s[k].toNat : Int) ≤ 57 := by omega
          go_wp2
          go_round
          case rel =>
            refine ⟨k + 1, m * 10 + (s[k].toNat - 48), by omega, pow_next HM.out (by omega), ?_, by go_num, ?_⟩
            · show _ = _
              rw [← hn.out, HST.out, if_pos ((isDig_iff _).2 ⟨d1, d2⟩)]
            · congr 1; omega
          case measure => simp [intOf]; omega
        · have hnone : Hid (numL s.data.toList = none) := by
            show _ = _
            rw [hopen.out, ← hn.out, HST.out, if_neg (fun h => hd ((isDig_iff _).1 h))]
          have hd' : ¬ ((48 : Int) ≤ s[k].toNat ∧ (s[k].toNat : Int) ≤ 57) := by omega
          clear hd
          go_wp2
          all_goals
            go_ret2
            exact ⟨ret_num_none hnone.out, rfl⟩
      · have he : k = s.size := by omega
        have hend : Hid (numL s.data.toList = if m ≤ 4294967295 then some m else none) := by
          show _ = _
          rw [hopen.out, ← hn.out, List.drop_of_length_le (by rw [← Lib.size_eq]; omega)]
          rfl
        clear he
        by_cases hg : 4294967295 < m
        · have g4 : (4294967295 : Int) < m := by omega
          go_wp2
          go_ret2
          exact ⟨ret_num_none (by rw [hend.out, if_neg (by omega)]), rfl⟩
        · have g4 : (m : Int) ≤ 4294967295 := by omega
          go_wp2
          go_ret2
          exact ⟨ret_num_some (by rw [hend.out, if_pos (by omega)]), rfl⟩

theorem number_loop (s : ByteArray) (w : World) (h0 : 0 < s.size) (h1 : s.size ≤ 10) (h2 : ¬ ((s[0].toNat : Int) = 48 ∧ 1 < s.size)) :
    Calls Tryz.prog 82 #[.string s] w fun e w' => e = .returned (numV (numL s.data.toList)) ∧ w = w' := by
  by_cases h3 : (s[0].toNat : Int) = 48
  · have h4 : s.size ≤ 1 := by omega
    clear h2
    exact number_core s w h0 h1 (Or.inl ⟨h3, h4⟩)
  · exact number_core s w h0 h1 (Or.inr h3)

set_option maxHeartbeats 400000 in
theorem number_any (s : ByteArray) (w : World) (hs : s.size ≤ 140737488355328) :
    Calls Tryz.prog 82 #[.string s] w fun e w' => e = .returned (numV (numL s.data.toList)) ∧ w = w' := by
  by_cases h0 : s.size = 0
  · have e := toList_nil h0
    have hn : Hid (numL s.data.toList = none) := by
      rw [Lib.toList_data] at e
      rw [e]; rfl
    go_enter Tryz.func82, Tryz.ntmps82
    go_wp2
    go_ret2
    exact ⟨ret_num_none hn.out, rfl⟩
  have hE := toList_isEmpty h0
  by_cases h1 : 10 < s.size
  · have hn : Hid (numL s.data.toList = none) := by
      show _ = _
      unfold numL
      rw [if_pos (Or.inr (Or.inl (by rw [← Lib.size_eq]; exact h1)))]
    have g : (10 : Int) < s.size := by omega
    go_enter Tryz.func82, Tryz.ntmps82
    go_wp2
    go_ret2
    exact ⟨ret_num_none hn.out, rfl⟩
  by_cases h2 : ((s[0]'(by omega)).toNat : Int) = 48 ∧ 1 < s.size
  · have hn : Hid (numL s.data.toList = none) := by
      show _ = _
      unfold numL
      refine if_pos (Or.inr (Or.inr ⟨?_, by rw [← Lib.size_eq]; exact h2.2⟩))
      rw [data_head (by omega)]
      congr 1
      refine UInt8.toNat_inj.1 ?_
      have := h2.1
      simp only [UInt8.reduceToNat]
      omega
    have g : (s.size : Int) ≤ 10 := by omega
    obtain ⟨g1, g2⟩ := h2
    have g3 : (1 : Int) < s.size := by omega
    go_enter Tryz.func82, Tryz.ntmps82
    go_wp2
    go_ret2
    exact ⟨ret_num_none hn.out, rfl⟩
  · exact number_loop s w (by omega) (by omega) h2
end Go.Proofs.YtnnbbjdidbggmaaGreatDoor.Tx
namespace Go.Proofs.YtnnbbjdidbggmaaGreatDoor.Tx
open Go Go.RowKit Go.Joins

theorem plainB_iff (c : UInt8) : plainB c = true ↔ 32 ≤ c.toNat ∧ c.toNat ≤ 126 := by simp [plainB]
theorem signB_iff (c : UInt8) : signB c = true ↔ c.toNat = 34 ∨ c.toNat = 92 := by simp [signB]
theorem all_take_succ (p : UInt8 → Bool) (l : List UInt8) (k : Nat) (h : k < l.length) : (l.take (k + 1)).all p = ((l.take k).all p && p l[k]) := by
  rw [List.take_succ_eq_append_getElem h, List.all_append]
  simp

set_option maxHeartbeats 400000 in
theorem quotable_any (s : ByteArray) (w : World) (hs : s.size ≤ 140737488355328) :
    Calls Tryz.prog 119 #[.string s] w fun e w' => e = .returned (.bool (plainL s.data.toList)) ∧ w = w' := by
  have hlen : Hid (s.data.toList.length = s.size) := (Lib.size_eq s).symm
  by_cases h0 : 200 < s.size
  · have g : (200 : Int) < s.size := by omega
    go_enter Tryz.func119, Tryz.ntmps119
    go_wp2
    go_ret
    exact ⟨ret_bool (by unfold plainL; rw [hlen.out]; simp; omega), rfl⟩
  · have g : (s.size : Int) ≤ 200 := by omega
    go_enter Tryz.func119, Tryz.ntmps119
    go_wp2_with fail
    go_loop [9] (fun i => ∃ k : Nat, k ≤ s.size ∧ Hid ((s.data.toList.take k).all plainB = true) ∧ i = .int .i64 k) (fun i => s.size - (intOf i).toNat)
    case atStart => exact ⟨0, by omega, rfl, rfl⟩
    case round =>
      obtain ⟨k, hk, hall, rfl⟩ := hrel
      by_cases hlt : k < s.size
      · have hl : k < s.data.toList.length := by rw [← Lib.size_eq]; exact hlt
        have hst := all_take_succ plainB s.data.toList k hl
        rw [byte_get s k hlt] at hst
        have HST := Lib.hid hst
        clear hst
        by_cases hb : 32 ≤ s[k].toNat ∧ s[k].toNat ≤ 126
        · have hyes : Hid (plainB s[k] = true) := (plainB_iff _).2 hb
          obtain ⟨b1, b2⟩ := hb
          have g2 : (32 : Int) ≤ s[k].toNat := by omega
          have g3 : (s[k].toNat : Int) ≤ 126 := by omega
          go_wp2
          go_round
          case rel =>
            refine ⟨k + 1, by omega, ?_, by go_num⟩
            show _ = _
            rw [HST.out, hall.out, hyes.out]; rfl
          case measure => simp [intOf]; omega
        · have hno : Hid (plainL s.data.toList = false) := by
            show _ = _
            unfold plainL
            rw [Bool.and_eq_false_iff]
            right
            rw [List.all_eq_false]
            exact ⟨s[k], by rw [← byte_get s k hlt]; exact List.getElem_mem hl, fun h => hb ((plainB_iff _).1 h)⟩
          rcases (show (s[k].toNat : Int) < 32 ∨ ((32 : Int) ≤ s[k].toNat ∧ (126 : Int) < s[k].toNat) by omega) with g2 | ⟨g2, g3⟩
          all_goals
            clear hb
            go_wp2
            go_ret
            exact ⟨ret_bool hno.out.symm, rfl⟩
      · have he : k = s.size := by omega
        subst he
        go_wp2
        go_ret
        refine ⟨ret_bool (a := true) ?_, rfl⟩
        have hfull : s.data.toList.all plainB = true := by
          have := hall.out
          rwa [List.take_of_length_le (by rw [← Lib.size_eq]; exact Nat.le_refl _)] at this
        unfold plainL
        rw [hfull, hlen.out]
        simp
        omega

theorem bytes_ext {a b : ByteArray} (h : a.data.toList = b.data.toList) : a = b := by
  obtain ⟨⟨x⟩⟩ := a
  obtain ⟨⟨y⟩⟩ := b
  simp only at h
  rw [h]
theorem ret_bytes {a : ByteArray} {l : List UInt8} (h : a.data.toList = l) : Ending.returned (.string a) = Ending.returned (.string ⟨l.toArray⟩) := by
  rw [show a = ⟨l.toArray⟩ from bytes_ext (by rw [h])]
theorem digits_short {u : Nat} (h : u ≤ 1099511627776) : (Lib.decDigits u).length ≤ 13 := by
  rw [Lib.decDigits_length]
  exact nDigits_le (k := 12) (by omega)
theorem lit_bytes (s : ByteArray) : ((({ data := #[123] } : ByteArray) ++ { data := (Lib.decDigits s.size).toArray } ++ { data := #[125, 13, 10] } ++ s)).data.toList = litL s.data.toList := by
  simp only [data_append]
  unfold litL
  rw [← Lib.size_eq]
  simp

set_option maxHeartbeats 400000 in
theorem string_lit (s : ByteArray) (w : World) (hs : s.size ≤ 1099511627776) (hE : Env w) (hp : plainL s.data.toList = false) :
    Calls Tryz.prog 75 #[.string s] w fun e w' => e = .returned (.string ⟨(strL s.data.toList).toArray⟩) ∧ Below w.heap.size w w' := by
  have hres : Hid (litL s.data.toList = strL s.data.toList) := by show _ = _; unfold strL; rw [hp]; rfl
  have HP := Lib.hid hp
  have hd := digits_short hs
  clear hp
  go_enter Tryz.func75, Tryz.ntmps75
  go_wp2_with fail
  refine (quotable_any s w (by omega)).mono ?_
  rintro e w' ⟨rfl, rfl⟩
  rw [HP.out]
  go_wp2_with fail
  refine (digits_any s.size (by omega) (by omega) w hE).mono ?_
  rintro e w1 ⟨rfl, hb⟩
  go_wp2_with fail
  go_ret
  exact ⟨ret_bytes ((lit_bytes s).trans hres.out), hb⟩

theorem cells_one (l : List UInt8) : Lib.byteCells (l ++ [34]) = Lib.byteCells l ++ [.int .u8 34] := cells_snoc l 34
theorem cells_back (l : List UInt8) : Lib.byteCells (l ++ [92]) = Lib.byteCells l ++ [.int .u8 92] := cells_snoc l 92

theorem cells_two (l : List UInt8) (c : UInt8) : Lib.byteCells (l ++ [92, c]) = Lib.byteCells l ++ [.int .u8 92] ++ [.int .u8 (c.toNat : Int)] := by
  rw [show l ++ [92, c] = (l ++ [92]) ++ [c] by simp, cells_snoc, cells_back]

set_option maxHeartbeats 1000000 in
set_option maxRecDepth 100000 in
theorem string_quoted (s : ByteArray) (w : World) (hs : s.size ≤ 1099511627776) (hp : plainL s.data.toList = true) :
    Calls Tryz.prog 75 #[.string s] w fun e w' => e = .returned (.string ⟨(strL s.data.toList).toArray⟩) ∧ Below w.heap.size w w' := by
  have hres : Hid (34 :: escL s.data.toList ++ [34] = strL s.data.toList) := by show _ = _; unfold strL; rw [hp]; rfl
  have HP := Lib.hid hp
  clear hp
  have hb0 : Below w.heap.size w (w.alloc (Obj.cells #[Value.pointer none, Value.slice none 0 0] 87)) := (Below.refl _ w).alloc (Nat.le_refl _) _
  have hfresh := Lib.fresh_isBuilder 87 5 w
  go_enter Tryz.func75, Tryz.ntmps75
  go_wp2_with fail
  refine (quotable_any s w (by omega)).mono ?_
  rintro e w' ⟨rfl, rfl⟩
  rw [HP.out]
  go_wp2_with fail
  refine (Tryz.Builder_WriteByte w.heap.size w.heap.size _ 34 _ hfresh (by simp) (by simp)).mono ?_
  rintro e w1 ⟨rfl, h1, hb1⟩
  have hb : Below w.heap.size w w1 := hb0.trans hb1
  have hI0 : Lib.IsBuilder 87 5 w.heap.size w.heap.size (Lib.byteCells (34 :: escL (s.data.toList.take 0))) w1 := Or.inr h1
  clear hfresh hb0 h1 hb1
  go_wp2_with fail
  go_loopw [19] (fun i wr => ∃ k : Nat, k ≤ s.size ∧ i = .int .i64 k ∧ Lib.IsBuilder 87 5 w.heap.size w.heap.size (Lib.byteCells (34 :: escL (s.data.toList.take k))) wr ∧ Below w.heap.size w wr) (fun i _ => s.size - (intOf i).toNat)
  case atStart => exact ⟨0, Nat.zero_le _, rfl, hI0, hb⟩
  case round =>
    clear hI0 hb
    obtain ⟨k, hk, rfl, hI, hb⟩ := hrel
    have hsz : w.heap.size ≤ wr.heap.size := hb.size
    have hel := (escL_length (s.data.toList.take k)).2
    have htl : (s.data.toList.take k).length ≤ s.size := by rw [List.length_take, ← Lib.size_eq]; omega
    have hlen : (Lib.byteCells (34 :: escL (s.data.toList.take k))).length ≤ 3 * 1099511627776 := by
      rw [Lib.byteCells_length, List.length_cons]
      omega
    clear hel htl
    by_cases hlt : k < s.size
    · have hl : k < s.data.toList.length := by rw [← Lib.size_eq]; exact hlt
      have hfs := escL_take_succ s.data.toList k hl
      rw [byte_get s k hlt] at hfs
      have HFS := Lib.hid hfs
      clear hfs
      by_cases hq : s[k].toNat = 34 ∨ s[k].toNat = 92
      · have hesc : Hid (escB s[k] = [92, s[k]]) := if_pos ((signB_iff _).2 hq)
        rcases hq with hq | hq
        · have g1 : ((s[k].toNat : Int) == 34) = true := by rw [hq]; rfl
          clear hq
          go_wp2_with fail
          refine (Tryz.Builder_WriteByte w.heap.size w.heap.size _ 92 _ hI (by omega) hsz).mono ?_
          rintro e w2 ⟨rfl, h2, hb2⟩
          have hb3 := hb.trans hb2
          go_wp2_with fail
          refine (Tryz.Builder_WriteByte w.heap.size w.heap.size _ _ _ (Or.inr h2) (by simp; omega) hb3.size).mono ?_
          rintro e w3 ⟨rfl, h4, hb4⟩
          go_wp2
          go_roundw
          case rel =>
            refine ⟨k + 1, by omega, by go_num, ?_, hb3.trans hb4⟩
            rw [HFS.out, hesc.out, ← List.cons_append, cells_two]
            exact Or.inr h4
          case measure => simp [intOf]; omega
        · have g1 : ((s[k].toNat : Int) == 34) = false := by rw [hq]; rfl
          have g2 : ((s[k].toNat : Int) == 92) = true := by rw [hq]; rfl
          clear hq
          go_wp2_with fail
          refine (Tryz.Builder_WriteByte w.heap.size w.heap.size _ 92 _ hI (by omega) hsz).mono ?_
          rintro e w2 ⟨rfl, h2, hb2⟩
          have hb3 := hb.trans hb2
          go_wp2_with fail
          refine (Tryz.Builder_WriteByte w.heap.size w.heap.size _ _ _ (Or.inr h2) (by simp; omega) hb3.size).mono ?_
          rintro e w3 ⟨rfl, h4, hb4⟩
          go_wp2
          go_roundw
          case rel =>
            refine ⟨k + 1, by omega, by go_num, ?_, hb3.trans hb4⟩
            rw [HFS.out, hesc.out, ← List.cons_append, cells_two]
            exact Or.inr h4
          case measure => simp [intOf]; omega
      · have hesc : Hid (escB s[k] = [s[k]]) := if_neg (fun h => hq ((signB_iff _).1 h))
        have g1 : ((s[k].toNat : Int) == 34) = false := by rw [beq_eq_false_iff_ne]; omega
        have g2 : ((s[k].toNat : Int) == 92) = false := by rw [beq_eq_false_iff_ne]; omega
        clear hq
        go_wp2_with fail
        refine (Tryz.Builder_WriteByte w.heap.size w.heap.size _ _ _ hI (by omega) hsz).mono ?_
        rintro e w2 ⟨rfl, h2, hb2⟩
        go_wp2
        go_roundw
        case rel =>
          refine ⟨k + 1, by omega, by go_num, ?_, hb.trans hb2⟩
          rw [HFS.out, hesc.out, ← List.cons_append, cells_snoc]
          exact Or.inr h2
        case measure => simp [intOf]; omega
    · have he : k = s.size := by omega
      subst he
      rw [List.take_of_length_le (by rw [← Lib.size_eq]; exact Nat.le_refl _)] at hI
      go_wp2_with fail
      refine (Tryz.Builder_WriteByte w.heap.size w.heap.size _ 34 _ hI (by rw [List.take_of_length_le (by rw [← Lib.size_eq]; exact Nat.le_refl _)] at hlen; omega) hsz).mono ?_
      rintro e w2 ⟨rfl, h2, hb2⟩
      rw [← cells_one] at h2
      have hb3 := hb.trans hb2
      go_wp2_with fail
      refine (Tryz.Builder_String_any w.heap.size w.heap.size _ _ (Or.inr h2) hb3.size).mono ?_
      rintro e w3 ⟨rfl, hb4⟩
      go_wp2
      go_ret
      exact ⟨ret_str hres.out, hb3.trans hb4⟩

theorem string_any (s : ByteArray) (w : World) (hs : s.size ≤ 1099511627776) (hE : Env w) :
    Calls Tryz.prog 75 #[.string s] w fun e w' => e = .returned (.string ⟨(strL s.data.toList).toArray⟩) ∧ Below w.heap.size w w' := by
  cases hp : plainL s.data.toList
  · exact string_lit s w hs hE hp
  · exact string_quoted s w hs hp

end Go.Proofs.YtnnbbjdidbggmaaGreatDoor.Tx
