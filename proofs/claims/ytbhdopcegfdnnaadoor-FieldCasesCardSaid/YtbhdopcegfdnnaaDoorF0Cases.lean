/-
  The law FieldCases returns true, of any two bytes. Condition: the bound of the library's search is some number.
-/
import Derived.Test.YtbhdopcegfdnnaaDoorF0Any
import Derived.Test.YtbhdopcegfdnnaaDoorF0First
namespace Go.Proofs.YtbhdopcegfdnnaaDoor.F0
open Go Go.RowKit Go.Joins Kit

/-- A letter. -/
def letB (a : Nat) : UInt8 := UInt8.ofNat (97 + a % 26)
theorem letB_nat (a : Nat) : (letB a).toNat = 97 + a % 26 := by
  unfold letB
  simp
  omega
def hdrL (x y : UInt8) : List UInt8 := [88, 45, 79, 110, 101, 58, 32, x] ++ 10 :: ([120, 45, 79, 78, 69, 58, 32, y] ++ 10 :: ([] ++ 10 :: []))
def hdrOk (p q : Nat) : Bool := decide (docS (hdrL (UInt8.ofNat (97 + p)) (UInt8.ofNat (97 + q))) 0 19 = ([([88, 45, 79, 110, 101], [UInt8.ofNat (97 + p)]), ([120, 45, 79, 78, 69], [UInt8.ofNat (97 + q)])], 19))
theorem hdr_run : ((List.range 26).all fun p => (List.range 26).all fun q => hdrOk p q) = true := by decide +kernel
theorem hdr_all (p : Nat) (hp : p < 26) (q : Nat) (hq : q < 26) : docS (hdrL (UInt8.ofNat (97 + p)) (UInt8.ofNat (97 + q))) 0 19 = ([([88, 45, 79, 110, 101], [UInt8.ofNat (97 + p)]), ([120, 45, 79, 78, 69], [UInt8.ofNat (97 + q)])], 19) := by
  have h := List.all_eq_true.1 (List.all_eq_true.1 hdr_run p (List.mem_range.2 hp)) q (List.mem_range.2 hq)
  exact of_decide_eq_true h
theorem hdr_split (a b : Nat) : docS (hdrL (letB a) (letB b)) 0 19 = ([([88, 45, 79, 110, 101], [letB a]), ([120, 45, 79, 78, 69], [letB b])], 19) := hdr_all (a % 26) (Nat.mod_lt _ (by decide)) (b % 26) (Nat.mod_lt _ (by decide))
theorem find_one (x y : UInt8) : firstL [([88, 45, 79, 110, 101], [x]), ([120, 45, 79, 78, 69], [y])] [120, 45, 111, 110, 101] = some ([88, 45, 79, 110, 101], [x]) := rfl
theorem find_two (x y : UInt8) : firstL [([88, 45, 79, 110, 101], [x]), ([120, 45, 79, 78, 69], [y])] [88, 45, 79, 78, 69] = some ([88, 45, 79, 110, 101], [x]) := rfl
theorem find_no (x y : UInt8) : firstL [([88, 45, 79, 110, 101], [x]), ([120, 45, 79, 78, 69], [y])] [88, 45, 79, 110] = none := rfl

/-- A letter, as a text of its own. -/
theorem let_text (a : Int) (h0 : 0 ≤ a) (h1 : a ≤ 255) (W : World) : (convert 39 9 (.slice (some ⟨W.heap.size, 0, none⟩) 1 1)).run Tryd.prog (W.alloc (Obj.cells #[Value.int IntKind.u8 (97 + a % 26)] 5)) = .ok (.string ⟨#[letB a.toNat]⟩) (W.alloc (Obj.cells #[Value.int IntKind.u8 (97 + a % 26)] 5)) := by
  have h := Kit.run_oneB (97 + a % 26) (by omega) (by omega) W
  rw [h]
  have e : Kit.oneB (97 + a % 26) = ⟨#[letB a.toNat]⟩ := by
    unfold Kit.oneB letB
    rw [show (97 + a % 26).toNat = 97 + a.toNat % 26 by omega]
  rw [e]
def hdrB (x y : UInt8) : ByteArray := ⟨#[88, 45, 79, 110, 101, 58, 32]⟩ ++ ⟨#[x]⟩ ++ ⟨#[10, 120, 45, 79, 78, 69, 58, 32]⟩ ++ ⟨#[y]⟩ ++ ⟨#[10, 10]⟩
theorem hdrB_list (x y : UInt8) : (hdrB x y).data.toList = hdrL x y := by
  unfold hdrB
  rw [Joins.data_append, Joins.data_append, Joins.data_append, Joins.data_append]
  rfl
theorem hdrB_size (x y : UInt8) : (hdrB x y).size = 19 := by rw [Lib.size_eq, hdrB_list]; rfl

set_option maxHeartbeats 2000000 in
set_option maxRecDepth 100000 in
theorem fieldCases_walk (a b : Int) (h0 : 0 ≤ a) (h1 : a ≤ 255) (h2 : 0 ≤ b) (h3 : b ≤ 255) (w : World) (hE : Srch.Env w) :
    Calls Tryd.prog 7 #[.int .u8 a, .int .u8 b] w fun e w' => e = .returned (.bool true) ∧ Below w.heap.size w w' := by
  have HE := Lib.hid hE
  clear hE
  have ea : a.tmod 26 = a % 26 := IntWalk.rem_in _ _ h0
  have eb : b.tmod 26 = b % 26 := IntWalk.rem_in _ _ h2
  have ca := let_text a h0 h1 w
  have cb := let_text b h2 h3 (w.alloc (Obj.cells #[Value.int IntKind.u8 (97 + a % 26)] 5))
  rw [World.size_alloc] at cb
  have CA := Lib.hid (fun W => let_text a h0 h1 W)
  have bsz : (⟨#[letB a.toNat]⟩ : ByteArray).size = 1 := rfl
  have bsz2 : (⟨#[letB b.toNat]⟩ : ByteArray).size = 1 := rfl
  obtain ⟨XA, hXA⟩ : ∃ X : ByteArray, (⟨#[letB a.toNat]⟩ : ByteArray) = X := ⟨_, rfl⟩
  obtain ⟨XB, hXB⟩ : ∃ X : ByteArray, (⟨#[letB b.toNat]⟩ : ByteArray) = X := ⟨_, rfl⟩
  rw [hXA] at ca CA bsz
  rw [hXB] at cb bsz2
  have HX := Lib.hid (And.intro hXA hXB)
  clear hXA hXB
  go_enter Tryd.func7, Tryd.ntmps7
  go_wp2_with fail
  have hXS : (⟨#[88, 45, 79, 110, 101, 58, 32]⟩ ++ XA ++ ⟨#[10, 120, 45, 79, 78, 69, 58, 32]⟩ ++ XB ++ ⟨#[10, 10]⟩ : ByteArray) = hdrB (letB a.toNat) (letB b.toNat) := by
    unfold hdrB
    rw [HX.out.1, HX.out.2]
  have hss : (⟨#[88, 45, 79, 110, 101, 58, 32]⟩ ++ XA ++ ⟨#[10, 120, 45, 79, 78, 69, 58, 32]⟩ ++ XB ++ ⟨#[10, 10]⟩ : ByteArray).size ≤ 32768 := by rw [hXS, hdrB_size]; decide
  have hB2 : Below w.heap.size w ((w.alloc (Obj.cells #[Value.int IntKind.u8 (97 + a % 26)] 5)).alloc (Obj.cells #[Value.int IntKind.u8 (97 + b % 26)] 5)) := ((Below.refl _ w).alloc (Nat.le_refl _) _).alloc (by simp) _
  have HB2 := Lib.hid hB2
  have HSP : Hid (docS (⟨#[88, 45, 79, 110, 101, 58, 32]⟩ ++ XA ++ ⟨#[10, 120, 45, 79, 78, 69, 58, 32]⟩ ++ XB ++ ⟨#[10, 10]⟩ : ByteArray).data.toList 0 19 = ([([88, 45, 79, 110, 101], [letB a.toNat]), ([120, 45, 79, 78, 69], [letB b.toNat])], 19)) := Lib.hid (by rw [hXS, hdrB_list]; exact hdr_split _ _)
  have HW := Lib.hid (split_any _ 0 19 _ hss (HE.out.next hB2))
  clear hB2 hss hXS
  refine HW.out.mono ?_
  rintro e w1 ⟨f, rfl, hr1, hb1⟩
  rw [HSP.out] at hr1 ⊢
  have A1 := Lib.hid (RowF.at hr1)
  obtain ⟨fa, fc, rfl⟩ := hr1.form
  have B1 := Lib.hid (HB2.out.trans (hb1.mono HB2.out.size))
  clear hr1 hb1 HW HSP
  obtain ⟨FS, hFS⟩ : ∃ FS : List Fl, [([88, 45, 79, 110, 101], [letB a.toNat]), ([120, 45, 79, 78, 69], [letB b.toNat])] = FS := ⟨_, rfl⟩
  have hln : FS.length = 2 := by rw [← hFS]; rfl
  have HSZ : Hid (∀ f ∈ FS, f.1.length ≤ 140737488351232 ∧ f.2.length ≤ 140737488351232) := Lib.hid (fun f hf => by
    rw [← hFS] at hf
    rcases List.mem_cons.1 hf with rfl | hf
    · exact ⟨by simp, by simp⟩
    · simp only [List.mem_singleton] at hf
      rw [hf]
      exact ⟨by simp, by simp⟩)
  have HSV : Hid (oV (some ([88, 45, 79, 110, 101], [letB a.toNat])) = .tuple #[.string XA, .bool true]) := Lib.hid (by rw [← HX.out.1]; rfl)
  have H1 : Hid (firstL FS [120, 45, 111, 110, 101] = some ([88, 45, 79, 110, 101], [letB a.toNat])) := Lib.hid (by rw [← hFS]; exact find_one _ _)
  have H2 : Hid (firstL FS [88, 45, 79, 78, 69] = some ([88, 45, 79, 110, 101], [letB a.toNat])) := Lib.hid (by rw [← hFS]; exact find_two _ _)
  have H3 : Hid (firstL FS [88, 45, 79, 110] = none) := Lib.hid (by rw [← hFS]; exact find_no _ _)
  rw [hFS] at A1 ⊢
  rw [hln] at A1 ⊢
  have HFL : Hid (FS.length ≤ 140737488351232) := Lib.hid (by rw [hln]; decide)
  clear hFS hln
  go_wp2_with fail
  refine (first_any _ FS ⟨#[120, 45, 111, 110, 101]⟩ w1 A1.out HSZ.out (by decide) HFL.out).mono ?_
  rintro e w2 ⟨rfl, hb2⟩
  rw [show (ByteArray.mk #[120, 45, 111, 110, 101]).data.toList = [120, 45, 111, 110, 101] from rfl, H1.out]
  have A2 := Lib.hid (A1.out.below hb2)
  have B2 := Lib.hid (B1.out.trans (hb2.mono B1.out.size))
  clear hb2 A1
  rw [HSV.out]
  go_wp2_with fail
  refine (first_any _ FS ⟨#[88, 45, 79, 78, 69]⟩ w2 A2.out HSZ.out (by decide) HFL.out).mono ?_
  rintro e w3 ⟨rfl, hb3⟩
  rw [show (ByteArray.mk #[88, 45, 79, 78, 69]).data.toList = [88, 45, 79, 78, 69] from rfl, H2.out]
  have A3 := Lib.hid (A2.out.below hb3)
  have B3 := Lib.hid (B2.out.trans (hb3.mono B2.out.size))
  clear hb3 A2
  rw [HSV.out]
  go_wp2_with fail
  refine (first_any _ FS ⟨#[88, 45, 79, 110]⟩ w3 A3.out HSZ.out (by decide) HFL.out).mono ?_
  rintro e w4 ⟨rfl, hb4⟩
  rw [show (ByteArray.mk #[88, 45, 79, 110]).data.toList = [88, 45, 79, 110] from rfl, H3.out]
  have B4 := Lib.hid (B3.out.trans (hb4.mono B3.out.size))
  clear hb4 A3
  have c4 := CA.out w4
  have B5 := Lib.hid (B4.out.alloc B4.out.size (Obj.cells #[Value.int IntKind.u8 (97 + a % 26)] 5))
  unfold oV
  go_wp2_with fail
  refine (awake_any _ (HE.out.next B5.out)).mono ?_
  rintro e w5 ⟨rfl, hb5⟩
  go_wp2_with fail
  go_ret
  exact ⟨rfl, B5.out.trans (hb5.mono B5.out.size)⟩
end Go.Proofs.YtbhdopcegfdnnaaDoor.F0
