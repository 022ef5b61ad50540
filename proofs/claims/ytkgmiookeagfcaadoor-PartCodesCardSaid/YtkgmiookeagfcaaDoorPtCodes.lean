/-
  The law PartCodes returns true, where Tree is right. Condition: the bound of the library's search is some number.
-/
import Derived.Test.YtkgmiookeagfcaaDoorPtTop
import Derived.Test.YtkgmiookeagfcaaDoorPtMadeP
import Derived.Test.YtkgmiookeagfcaaDoorPtCont
import Derived.Test.YtkgmiookeagfcaaDoorB6Enc
import Derived.Test.YtkgmiookeagfcaaDoorQ4Encode
namespace Go.Proofs.YtkgmiookeagfcaaDoor.Pt
open Go Go.RowKit Go.Joins Kit F0

def CodeOk (H E t : List UInt8) : Prop :=
    (treeL (H ++ ([13, 10] ++ ([13, 10] ++ t)))).fm = H.length + 4 ∧ (treeL (H ++ ([13, 10] ++ ([13, 10] ++ t)))).to = (H ++ ([13, 10] ++ ([13, 10] ++ t))).length ∧ (treeL (H ++ ([13, 10] ++ ([13, 10] ++ t)))).enc = E ∧
      segL (H ++ ([13, 10] ++ ([13, 10] ++ t))) (H.length + 4) (H ++ ([13, 10] ++ ([13, 10] ++ t))).length = t
theorem code_tree {H E t : List UInt8} {fs : List Fl} (h10 : ∀ c ∈ H, c ≠ 10) (h13 : H.getLast? ≠ some 13) (h0 : H ≠ []) (hg : goesL H = false) (h1 : oneL H = fs) (h2 : fstL fs ctypeT = none) (h3 : encL fs = E) : CodeOk H E t := by
  have hs : segL (H ++ ([13, 10] ++ ([13, 10] ++ t))) 0 (H ++ ([13, 10] ++ ([13, 10] ++ t))).length = H ++ ([13, 10] ++ ([13, 10] ++ t)) := by
    unfold segL
    rw [List.take_length, List.drop_zero]
  have hh : headL (H ++ ([13, 10] ++ ([13, 10] ++ t))) 0 (H ++ ([13, 10] ++ ([13, 10] ++ t))).length = (fs, H.length + 4) := by
    unfold headL
    rw [hs, head_one (e := [13, 10]) (Or.inr rfl) H t 0 _ h10 h13 h0 hg, h1]
    simp
  have hn : hasL (H ++ ([13, 10] ++ ([13, 10] ++ t))) 0 (H ++ ([13, 10] ++ ([13, 10] ++ t))).length = none := has_none hh (by rw [type_none h2]; decide)
  have hp : treeL (H ++ ([13, 10] ++ ([13, 10] ++ t))) = partL (H ++ ([13, 10] ++ ([13, 10] ++ t))) 0 (H ++ ([13, 10] ++ ([13, 10] ++ t))).length [] := by
    unfold treeL
    rw [read_leaf hn]
  obtain ⟨_, _, q3, q4, q5, _⟩ := part_parts (H ++ ([13, 10] ++ ([13, 10] ++ t))) 0 (H ++ ([13, 10] ++ ([13, 10] ++ t))).length []
  unfold CodeOk
  rw [hp, q3, q4, q5, hh]
  refine ⟨rfl, rfl, h3, ?_⟩
  refine seg_at (A := H ++ ([13, 10] ++ [13, 10])) (Z := []) (by simp) (by simp) (by simp; omega)
def codH0 : List UInt8 := cencT ++ [58, 32, 32, 66, 97, 115, 101, 54, 52, 32]
def codH1 : List UInt8 := cencT ++ [58, 32, 32, 113, 117, 111, 116, 101, 100, 45, 112, 114, 105, 110, 116, 97, 98, 108, 101, 32]
def codH2 : List UInt8 := cencT ++ [58, 32, 32, 56, 98, 105, 116, 32]
theorem code0 (t : List UInt8) : CodeOk codH0 [98, 97, 115, 101, 54, 52] t := code_tree (H := codH0) (E := [98, 97, 115, 101, 54, 52]) (t := t) (fs := oneL codH0) (by decide) (by decide) (by decide) (by decide) rfl (by decide +kernel) (by decide +kernel)
theorem code1 (t : List UInt8) : CodeOk codH1 [113, 117, 111, 116, 101, 100, 45, 112, 114, 105, 110, 116, 97, 98, 108, 101] t := code_tree (H := codH1) (E := [113, 117, 111, 116, 101, 100, 45, 112, 114, 105, 110, 116, 97, 98, 108, 101]) (t := t) (fs := oneL codH1) (by decide) (by decide) (by decide) (by decide) rfl (by decide +kernel) (by decide +kernel)
theorem code2 (t : List UInt8) : CodeOk codH2 [56, 98, 105, 116] t := code_tree (H := codH2) (E := [56, 98, 105, 116]) (t := t) (fs := oneL codH2) (by decide) (by decide) (by decide) (by decide) rfl (by decide +kernel) (by decide +kernel)

set_option maxHeartbeats 4000000 in
set_option maxRecDepth 100000 in
theorem partCodes_of (hT : TreeOk) (b : ByteArray) (n : Nat) (hn : n < 256) (w : World) (hE : Srch.Env w) :
    Calls Tryd.prog 7 #[.string b, .int .u8 (n : Int)] w fun e w' => e = .returned (.bool true) ∧ Below w.heap.size w w' := by
  have HE := Lib.hid hE
  have HT := Lib.hid hT
  clear hE hT
  by_cases hs : 1000 < b.size
  · have g1 : (1000 : Int) < (b.size : Int) := by omega
    go_enter Tryd.func7, Tryd.ntmps7
    go_wp2_with fail
    refine (awake_any HT.out w HE.out).mono ?_
    rintro e w1 ⟨rfl, hb1⟩
    go_wp2
    go_ret
    exact ⟨rfl, hb1⟩
  · have g1 : ¬ (1000 : Int) < (b.size : Int) := by omega
    have hs2 : b.size ≤ 1000 := by omega
    clear hs
    have h3 : n % 3 = 0 ∨ n % 3 = 1 ∨ n % 3 = 2 := by omega
    rcases h3 with h3 | h3 | h3
    · have g2 : (n : Int) % 3 = 0 := by omega
      go_enter Tryd.func7, Tryd.ntmps7
      go_wp2_with fail
      have hbA : Below w.heap.size w (w.alloc (.cells #[.string ⟨#[66, 97, 115, 101, 54, 52]⟩, .string ⟨#[113, 117, 111, 116, 101, 100, 45, 112, 114, 105, 110, 116, 97, 98, 108, 101]⟩, .string ⟨#[56, 98, 105, 116]⟩] 9)) := (Below.refl _ w).alloc (Nat.le_refl _) _
      generalize w.alloc (.cells #[.string ⟨#[66, 97, 115, 101, 54, 52]⟩, .string ⟨#[113, 117, 111, 116, 101, 100, 45, 112, 114, 105, 110, 116, 97, 98, 108, 101]⟩, .string ⟨#[56, 98, 105, 116]⟩] 9) = WA at *
      refine (B6.encode_any b WA (by omega)).mono ?_
      rintro e w2 ⟨rfl, hb2⟩
      obtain ⟨T, hT⟩ : ∃ T : ByteArray, T = ⟨(B6.encL b.data.toList).toArray⟩ := ⟨_, rfl⟩
      have HTX := Lib.hid (show T.data.toList = B6.encL b.data.toList by rw [hT])
      have hts : T.size ≤ 6000 := by
        have := B6.encL_length b.data.toList
        rw [Lib.size_eq, HTX.out, this, ← Lib.size_eq]
        omega
      rw [← hT]
      clear hT
      have HB := Lib.hid (hbA.trans (hb2.mono hbA.size))
      clear hbA hb2
      go_wp2_with fail
      obtain ⟨S, hS⟩ : ∃ S : ByteArray, S = (⟨#[67, 111, 110, 116, 101, 110, 116, 45, 84, 114, 97, 110, 115, 102, 101, 114, 45, 69, 110, 99, 111, 100, 105, 110, 103, 58, 32, 32]⟩ : ByteArray) ++ ⟨#[66, 97, 115, 101, 54, 52]⟩ ++ ⟨#[32, 13, 10, 13, 10]⟩ ++ T := ⟨_, rfl⟩
      have HSL := Lib.hid (show S.data.toList = codH0 ++ ([13, 10] ++ ([13, 10] ++ T.data.toList)) by rw [hS]; simp [codH0, cencT])
      have hsz : S.size ≤ 32768 := by
        rw [Lib.size_eq, HSL.out, List.length_append, List.length_append, List.length_append, ← Lib.size_eq]
        have : codH0.length ≤ 100 := by decide
        simp only [List.length_cons, List.length_nil]
        omega
      rw [← hS]
      clear hS
      refine (HT.out S w2 hsz (HE.out.next HB.out)).mono ?_
      rintro e w3 ⟨c0, c1, c2, c3, c4, c5, c6, c7, rfl, hp, hb3⟩
      obtain ⟨t1, t2, t3, t4⟩ := code0 T.data.toList
      have hc := part_cells hp
      rw [HSL.out, t1, t2, t3] at hc
      rw [← HSL.out, ← Lib.size_eq] at hc t4
      have HC4 := Lib.hid t4
      obtain ⟨ap, mp, ak, mk, e, -⟩ := hc
      injection e with e
      injection e with e
      injection e with e0 e
      injection e with e1 e
      injection e with e2 e
      injection e with e3 e
      injection e with e4 e
      injection e with e5 e
      injection e with e6 e
      injection e with e7 e
      subst e0 e1 e2 e3 e4 e5 e6 e7
      have HB3 := Lib.hid (HB.out.trans (hb3.mono HB.out.size))
      have HFT : Hid (codH0.length + 4 ≤ S.size) := Lib.hid (by
        have h9 := congrArg List.length HSL.out
        rw [← Lib.size_eq] at h9
        simp only [List.length_append, List.length_cons, List.length_nil] at h9
        omega)
      clear hp hb3 t1 t2 t3 t4
      unfold sV
      go_wp2_with fail
      refine (content_any S [98, 97, 115, 101, 54, 52] (codH0.length + 4) S.size _ _ _ _ _ w3 hsz HFT.out (Nat.le_refl _) (HE.out.next HB3.out)).mono ?_
      rintro e w4 ⟨rfl, hb4⟩
      have HBK : Hid ((ByteArray.mk (contL S.data.toList [98, 97, 115, 101, 54, 52] (codH0.length + 4) S.size).toArray) = b) := Lib.hid (by
        have hq : contL S.data.toList [98, 97, 115, 101, 54, 52] (codH0.length + 4) S.size = b.data.toList := by
          unfold contL
          rw [HC4.out]
          rw [HTX.out, if_pos (show ([98, 97, 115, 101, 54, 52] : List UInt8) = b64T from rfl), B6.loose_enc]
        exact (congrArg (fun l : List UInt8 => ByteArray.mk l.toArray) hq).trans rfl)
      rw [HBK.out]
      have HB4 := Lib.hid (HB3.out.trans (hb4.mono HB3.out.size))
      clear hb4
      go_wp2_with fail
      refine (awake_any HT.out w4 (HE.out.next HB4.out)).mono ?_
      rintro e w5 ⟨rfl, hb5⟩
      go_wp2
      go_ret
      exact ⟨rfl, HB4.out.trans (hb5.mono HB4.out.size)⟩
    · have g2 : (n : Int) % 3 = 1 := by omega
      go_enter Tryd.func7, Tryd.ntmps7
      go_wp2_with fail
      have hbA : Below w.heap.size w (w.alloc (.cells #[.string ⟨#[66, 97, 115, 101, 54, 52]⟩, .string ⟨#[113, 117, 111, 116, 101, 100, 45, 112, 114, 105, 110, 116, 97, 98, 108, 101]⟩, .string ⟨#[56, 98, 105, 116]⟩] 9)) := (Below.refl _ w).alloc (Nat.le_refl _) _
      generalize w.alloc (.cells #[.string ⟨#[66, 97, 115, 101, 54, 52]⟩, .string ⟨#[113, 117, 111, 116, 101, 100, 45, 112, 114, 105, 110, 116, 97, 98, 108, 101]⟩, .string ⟨#[56, 98, 105, 116]⟩] 9) = WA at *
      refine (Q4.encode_any b WA (by omega)).mono ?_
      rintro e w2 ⟨rfl, hb2⟩
      obtain ⟨T, hT⟩ : ∃ T : ByteArray, T = ⟨(Q4.quoL 0 b.data.toList).toArray⟩ := ⟨_, rfl⟩
      have HTX := Lib.hid (show T.data.toList = Q4.quoL 0 b.data.toList by rw [hT])
      have hts : T.size ≤ 6000 := by
        have := Q4.quo_len 0 b.data.toList
        rw [Lib.size_eq, HTX.out]
        rw [← Lib.size_eq] at this
        omega
      rw [← hT]
      clear hT
      have HB := Lib.hid (hbA.trans (hb2.mono hbA.size))
      clear hbA hb2
      go_wp2_with fail
      obtain ⟨S, hS⟩ : ∃ S : ByteArray, S = (⟨#[67, 111, 110, 116, 101, 110, 116, 45, 84, 114, 97, 110, 115, 102, 101, 114, 45, 69, 110, 99, 111, 100, 105, 110, 103, 58, 32, 32]⟩ : ByteArray) ++ ⟨#[113, 117, 111, 116, 101, 100, 45, 112, 114, 105, 110, 116, 97, 98, 108, 101]⟩ ++ ⟨#[32, 13, 10, 13, 10]⟩ ++ T := ⟨_, rfl⟩
      have HSL := Lib.hid (show S.data.toList = codH1 ++ ([13, 10] ++ ([13, 10] ++ T.data.toList)) by rw [hS]; simp [codH1, cencT])
      have hsz : S.size ≤ 32768 := by
        rw [Lib.size_eq, HSL.out, List.length_append, List.length_append, List.length_append, ← Lib.size_eq]
        have : codH1.length ≤ 100 := by decide
        simp only [List.length_cons, List.length_nil]
        omega
      rw [← hS]
      clear hS
      refine (HT.out S w2 hsz (HE.out.next HB.out)).mono ?_
      rintro e w3 ⟨c0, c1, c2, c3, c4, c5, c6, c7, rfl, hp, hb3⟩
      obtain ⟨t1, t2, t3, t4⟩ := code1 T.data.toList
      have hc := part_cells hp
      rw [HSL.out, t1, t2, t3] at hc
      rw [← HSL.out, ← Lib.size_eq] at hc t4
      have HC4 := Lib.hid t4
      obtain ⟨ap, mp, ak, mk, e, -⟩ := hc
      injection e with e
      injection e with e
      injection e with e0 e
      injection e with e1 e
      injection e with e2 e
      injection e with e3 e
      injection e with e4 e
      injection e with e5 e
      injection e with e6 e
      injection e with e7 e
      subst e0 e1 e2 e3 e4 e5 e6 e7
      have HB3 := Lib.hid (HB.out.trans (hb3.mono HB.out.size))
      have HFT : Hid (codH1.length + 4 ≤ S.size) := Lib.hid (by
        have h9 := congrArg List.length HSL.out
        rw [← Lib.size_eq] at h9
        simp only [List.length_append, List.length_cons, List.length_nil] at h9
        omega)
      clear hp hb3 t1 t2 t3 t4
      unfold sV
      go_wp2_with fail
      refine (content_any S [113, 117, 111, 116, 101, 100, 45, 112, 114, 105, 110, 116, 97, 98, 108, 101] (codH1.length + 4) S.size _ _ _ _ _ w3 hsz HFT.out (Nat.le_refl _) (HE.out.next HB3.out)).mono ?_
      rintro e w4 ⟨rfl, hb4⟩
      have HBK : Hid ((ByteArray.mk (contL S.data.toList [113, 117, 111, 116, 101, 100, 45, 112, 114, 105, 110, 116, 97, 98, 108, 101] (codH1.length + 4) S.size).toArray) = b) := Lib.hid (by
        have hq : contL S.data.toList [113, 117, 111, 116, 101, 100, 45, 112, 114, 105, 110, 116, 97, 98, 108, 101] (codH1.length + 4) S.size = b.data.toList := by
          unfold contL
          rw [HC4.out]
          rw [HTX.out, if_neg (show ¬ ([113, 117, 111, 116, 101, 100, 45, 112, 114, 105, 110, 116, 97, 98, 108, 101] : List UInt8) = b64T by decide), if_pos (show ([113, 117, 111, 116, 101, 100, 45, 112, 114, 105, 110, 116, 97, 98, 108, 101] : List UInt8) = quotT from rfl), Q4.plain_quo]
        exact (congrArg (fun l : List UInt8 => ByteArray.mk l.toArray) hq).trans rfl)
      rw [HBK.out]
      have HB4 := Lib.hid (HB3.out.trans (hb4.mono HB3.out.size))
      clear hb4
      go_wp2_with fail
      refine (awake_any HT.out w4 (HE.out.next HB4.out)).mono ?_
      rintro e w5 ⟨rfl, hb5⟩
      go_wp2
      go_ret
      exact ⟨rfl, HB4.out.trans (hb5.mono HB4.out.size)⟩
    · have g2 : (n : Int) % 3 = 2 := by omega
      go_enter Tryd.func7, Tryd.ntmps7
      go_wp2_with fail
      have hbA : Below w.heap.size w (w.alloc (.cells #[.string ⟨#[66, 97, 115, 101, 54, 52]⟩, .string ⟨#[113, 117, 111, 116, 101, 100, 45, 112, 114, 105, 110, 116, 97, 98, 108, 101]⟩, .string ⟨#[56, 98, 105, 116]⟩] 9)) := (Below.refl _ w).alloc (Nat.le_refl _) _
      generalize w.alloc (.cells #[.string ⟨#[66, 97, 115, 101, 54, 52]⟩, .string ⟨#[113, 117, 111, 116, 101, 100, 45, 112, 114, 105, 110, 116, 97, 98, 108, 101]⟩, .string ⟨#[56, 98, 105, 116]⟩] 9) = WA at *
      have HB := Lib.hid hbA
      clear hbA
      obtain ⟨S, hS⟩ : ∃ S : ByteArray, S = (⟨#[67, 111, 110, 116, 101, 110, 116, 45, 84, 114, 97, 110, 115, 102, 101, 114, 45, 69, 110, 99, 111, 100, 105, 110, 103, 58, 32, 32]⟩ : ByteArray) ++ ⟨#[56, 98, 105, 116]⟩ ++ ⟨#[32, 13, 10, 13, 10]⟩ ++ b := ⟨_, rfl⟩
      have HSL := Lib.hid (show S.data.toList = codH2 ++ ([13, 10] ++ ([13, 10] ++ b.data.toList)) by rw [hS]; simp [codH2, cencT])
      have hsz : S.size ≤ 32768 := by
        rw [Lib.size_eq, HSL.out, List.length_append, List.length_append, List.length_append, ← Lib.size_eq]
        have : codH2.length ≤ 100 := by decide
        simp only [List.length_cons, List.length_nil]
        omega
      rw [← hS]
      clear hS
      refine (HT.out S WA hsz (HE.out.next HB.out)).mono ?_
      rintro e w3 ⟨c0, c1, c2, c3, c4, c5, c6, c7, rfl, hp, hb3⟩
      obtain ⟨t1, t2, t3, t4⟩ := code2 b.data.toList
      have hc := part_cells hp
      rw [HSL.out, t1, t2, t3] at hc
      rw [← HSL.out, ← Lib.size_eq] at hc t4
      have HC4 := Lib.hid t4
      obtain ⟨ap, mp, ak, mk, e, -⟩ := hc
      injection e with e
      injection e with e
      injection e with e0 e
      injection e with e1 e
      injection e with e2 e
      injection e with e3 e
      injection e with e4 e
      injection e with e5 e
      injection e with e6 e
      injection e with e7 e
      subst e0 e1 e2 e3 e4 e5 e6 e7
      have HB3 := Lib.hid (HB.out.trans (hb3.mono HB.out.size))
      have HFT : Hid (codH2.length + 4 ≤ S.size) := Lib.hid (by
        have h9 := congrArg List.length HSL.out
        rw [← Lib.size_eq] at h9
        simp only [List.length_append, List.length_cons, List.length_nil] at h9
        omega)
      clear hp hb3 t1 t2 t3 t4
      unfold sV
      go_wp2_with fail
      refine (content_any S [56, 98, 105, 116] (codH2.length + 4) S.size _ _ _ _ _ w3 hsz HFT.out (Nat.le_refl _) (HE.out.next HB3.out)).mono ?_
      rintro e w4 ⟨rfl, hb4⟩
      have HBK : Hid ((ByteArray.mk (contL S.data.toList [56, 98, 105, 116] (codH2.length + 4) S.size).toArray) = b) := Lib.hid (by
        have hq : contL S.data.toList [56, 98, 105, 116] (codH2.length + 4) S.size = b.data.toList := by
          unfold contL
          rw [HC4.out]
          rw [if_neg (show ¬ ([56, 98, 105, 116] : List UInt8) = b64T by decide), if_neg (show ¬ ([56, 98, 105, 116] : List UInt8) = quotT by decide)]
        exact (congrArg (fun l : List UInt8 => ByteArray.mk l.toArray) hq).trans rfl)
      rw [HBK.out]
      have HB4 := Lib.hid (HB3.out.trans (hb4.mono HB3.out.size))
      clear hb4
      go_wp2_with fail
      refine (awake_any HT.out w4 (HE.out.next HB4.out)).mono ?_
      rintro e w5 ⟨rfl, hb5⟩
      go_wp2
      go_ret
      exact ⟨rfl, HB4.out.trans (hb5.mono HB4.out.size)⟩
end Go.Proofs.YtkgmiookeagfcaaDoor.Pt
