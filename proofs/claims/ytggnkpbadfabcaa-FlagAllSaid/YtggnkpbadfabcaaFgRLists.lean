/-
  flag.List, and the document's answer for it as the statements have it, return what IMAP tells keywords by. Conditions: the list has at most 100 texts of at most 300 bytes.
-/
import Derived.Test.YtggnkpbadfabcaaFgRef
import Derived.Test.YtggnkpbadfabcaaFgLists
namespace Go.Proofs.Ytggnkpbadfabcaa.Fg
open Go Go.RowKit Go.Joins Kit

theorem join_snoc (ws : List Tl) (x : Tl) (sep : List UInt8) : Lib.join (ws ++ [x]) sep = if ws = [] then x else Lib.join ws sep ++ sep ++ x := by
  cases ws with
  | nil => rw [if_pos rfl, List.nil_append, Lib.join_one]
  | cons y r =>
    rw [if_neg (by simp), List.cons_append, Lib.join_cons, Lib.join_cons]
    simp [Lib.joinTail]
def toldL (zs : List Tl) : List UInt8 := Lib.join (zs.map flagL) [32]
theorem lens_flags : ∀ {zs : List Tl} (_ : ∀ z ∈ zs, z.length ≤ 300), Lib.lens (zs.map flagL) ≤ 309 * zs.length
  | [], _ => by simp [Lib.lens]
  | z :: r, h => by
    have h1 := lens_flags (zs := r) (fun z hz => h z (List.mem_cons_of_mem _ hz))
    have h2 := flag_len z
    have h3 := h z List.mem_cons_self
    simp only [Lib.lens, List.map_cons, List.sum_cons, List.length_cons] at h1 ⊢
    omega
theorem told_len {zs : List Tl} (h : ∀ z ∈ zs, z.length ≤ 300) : (toldL zs).length ≤ 310 * zs.length := by
  unfold toldL
  have h1 := lens_flags h
  cases zs with
  | nil => simp [Lib.join_nil]
  | cons z r =>
    rw [List.map_cons] at h1 ⊢
    rw [Lib.join_length]
    simp only [List.length_cons, List.length_nil, List.length_map] at h1 ⊢
    omega
theorem told_snoc (zs : List Tl) (z : Tl) : toldL (zs ++ [z]) = if zs = [] then flagL z else toldL zs ++ [32] ++ flagL z := by
  unfold toldL
  rw [List.map_append, List.map_cons, List.map_nil, join_snoc]
  by_cases h : zs = []
  · rw [if_pos h, if_pos (by rw [h]; rfl)]
  · rw [if_neg h, if_neg (by simpa using h)]
theorem listL_told (zs : List Tl) : listL zs = [40] ++ toldL zs ++ [41] := by simp [listL, toldL]
theorem join_call {B : Nat} {a : Option Addr} {n cap : Nat} {ws : List Tl} {w : World} (hn : ws.length = n) (h : RowT B (.slice a n cap) ws w) (hl : (Lib.join ws [32]).length ≤ 1000000) (hw : ws.length ≤ 1000000) :
    Calls Try.prog 34 #[.slice a n cap, .string ⟨#[32]⟩] w fun e w' => e = .returned (.string ⟨(Lib.join ws [32]).toArray⟩) ∧ Below w.heap.size w w' := by
  subst hn
  have hd : (ws.map (fun x => (⟨x.toArray⟩ : ByteArray))).map (·.data.toList) = ws := by
    rw [List.map_map]
    conv => rhs; rw [← List.map_id ws]
    rfl
  rcases h.2 with ⟨e, h0⟩ | ⟨g, cap', cur, e, hg0, hg, hnc, _⟩
  · obtain rfl : ws = [] := List.eq_nil_of_length_eq_zero (by omega)
    refine (Try.strings_Join_none a cap ⟨#[32]⟩ w).mono ?_
    rintro e w' ⟨rfl, rfl⟩
    exact ⟨rfl, Below.refl _ _⟩
  · injection e with e1 _ e3
    subst e1
    have := Try.strings_Join g 0 cap (ws.map (fun x => (⟨x.toArray⟩ : ByteArray))) ⟨#[32]⟩ w (fun j x hx => by
      rw [List.getElem?_map] at hx
      obtain ⟨y, hy, rfl⟩ := Option.map_eq_some_iff.1 hx
      obtain ⟨hj, rfl⟩ := List.getElem?_eq_some_iff.1 hy
      obtain ⟨g', e', _, hc⟩ := h.at j hj
      injection e' with e'
      injection e' with e'
      subst e'
      rw [Nat.zero_add, hc]) (Array.getElem?_eq_some_iff.1 hg).1 (by rw [List.length_map]; omega) (by rw [List.length_map]; omega) (by rw [hd]; exact Nat.le_trans hl (by decide))
    rw [hd, List.length_map] at this
    exact this

set_option maxHeartbeats 2000000 in
set_option maxRecDepth 100000 in
theorem list_any (A : Option Addr) (c : Nat) (zs : List Tl) (w : World) (hA : TsAt w.heap.size w A zs) (hl : zs.length ≤ 100) (hz : ∀ z ∈ zs, z.length ≤ 300) :
    Calls Try.prog 20 #[.slice A zs.length c] w fun e w' => e = .returned (.string ⟨(listL zs).toArray⟩) ∧ Below w.heap.size w w' := by
  have HA := Lib.hid hA
  have HZ := Lib.hid hz
  have hl2 : (zs.length : Int) ≤ 100 := by omega
  have htl := told_len hz
  clear hA hz
  go_enter Try.func20, Try.ntmps20
  go_wp2_with fail
  go_loopw [3, 8] (fun kv i wr => ∃ (k : Nat) (v : Value), k ≤ zs.length ∧ kv = v ∧ i = .int .i64 (k : Int) ∧ Hid (RowT w.heap.size v ((zs.take k).map flagL) wr) ∧ Hid (Below w.heap.size w wr)) (fun _ i _ => zs.length - (intOf i).toNat)
  case atStart => exact ⟨0, _, Nat.zero_le _, rfl, rfl, Lib.hid (by rw [List.take_zero]; exact RowT.new _ _), Lib.hid (Below.refl _ _)⟩
  case round =>
    obtain ⟨k, v, hk, rfl, rfl, hrow, hb⟩ := hrel
    by_cases hlt : k < zs.length
    · have gk : (k : Int) < (zs.length : Int) := by omega
      obtain ⟨g, o, rfl, hc⟩ := HA.out.cell hb.out k hlt
      have hzk := HZ.out zs[k] (List.getElem_mem hlt)
      have HTK : Hid ((zs.take (k + 1)).map flagL = (zs.take k).map flagL ++ [flagL zs[k]]) := Lib.hid (by rw [List.take_succ_eq_append_getElem hlt, List.map_append]; rfl)
      obtain ⟨z, hzz⟩ : ∃ z, zs[k] = z := ⟨_, rfl⟩
      rw [hzz] at hc hzk HTK
      obtain ⟨av, cv, hvf⟩ := RowT.form hrow.out
      rw [List.length_map, List.length_take, Nat.min_eq_left (by omega)] at hvf
      subst hvf
      have HLN : Hid (((zs.take k).map flagL).length = k) := Lib.hid (by rw [List.length_map, List.length_take, Nat.min_eq_left (by omega)])
      clear hzz
      go_wp2_with fail
      refine (flag_any ⟨z.toArray⟩ wr (by rw [Lib.size_mk]; omega)).mono ?_
      rintro e w5 ⟨rfl, hb5⟩
      rw [show (ByteArray.mk z.toArray).data.toList = z from rfl]
      obtain ⟨f, hf⟩ : ∃ f, flagL z = f := ⟨_, rfl⟩
      rw [hf] at HTK ⊢
      have HB5 := Lib.hid (hb.out.trans (hb5.mono hb.out.size))
      have HRW := Lib.hid (RowT.below (RowT.below hrow.out hb5) ((Below.refl _ w5).alloc (Nat.le_refl _) (.cells #[encT f] 9)))
      have HSZ : Hid (w.heap.size ≤ (w5.alloc (.cells #[encT f] 9)).heap.size) := Lib.hid (by rw [World.size_alloc]; have := HB5.out.size; omega)
      have HTL : Hid (((zs.take k).map flagL).length ≤ 1099511627776) := Lib.hid (by rw [HLN.out]; omega)
      have HBK : Hid ((w5.alloc (.cells #[encT f] 9)).heap[w5.heap.size]? = some (.cells #[encT f] 9 (0, 0))) := Lib.hid (Kit.fresh_block w5 _ _)
      clear hb5 hf
      go_wp2_with (at_builtin; refine RowT.app rfl _ _ rfl w.heap.size _ _ ((zs.take k).map flagL) HRW.out f w5.heap.size _ HBK.out rfl rfl HTL.out HSZ.out ?_)
      intro g2 c2' w6 hr6 hg6
      have HB6 : Hid (Below w.heap.size w w6) := Lib.hid ((HB5.out.alloc HB5.out.size _).grown hg6 (by have := HB5.out.size; simp; omega) (fun k e => RowT.own HRW.out k e))
      rw [← List.map_take, ← HTK.out] at hr6
      have HR6 := Lib.hid hr6
      clear hr6 hg6
      go_wp2_with fail
      go_roundw
      case rel => exact ⟨k + 1, _, by omega, rfl, by go_num, HR6, HB6⟩
      case measure => simp [intOf]; omega
    · obtain rfl : k = zs.length := by omega
      have gk : ¬ (zs.length : Int) < (zs.length : Int) := by omega
      rw [List.take_of_length_le (Nat.le_refl _)] at hrow
      obtain ⟨av, cv, hvf⟩ := RowT.form hrow.out
      rw [List.length_map] at hvf
      subst hvf
      have HLT := Lib.hid (listL_told zs)
      have HJ := Lib.hid (join_call (List.length_map _) hrow.out (by show (toldL zs).length ≤ _; omega) (by rw [List.length_map]; omega))
      rw [show Lib.join (zs.map flagL) [32] = toldL zs from rfl] at HJ
      obtain ⟨T, hT⟩ : ∃ T, toldL zs = T := ⟨_, rfl⟩
      rw [hT] at HJ HLT htl
      clear hT
      go_wp2_with fail
      refine HJ.out.mono ?_
      rintro e w7 ⟨rfl, hb7⟩
      have hTs : (ByteArray.mk T.toArray).size ≤ 31000 := by rw [Lib.size_mk]; omega
      obtain ⟨X, hX⟩ : ∃ X : ByteArray, ByteArray.mk T.toArray = X := ⟨_, rfl⟩
      have HX := Lib.hid hX
      rw [hX] at hTs ⊢
      clear hX
      go_wp2_with fail
      go_ret
      refine ⟨?_, hb.out.trans (hb7.mono hb.out.size)⟩
      rw [HLT.out]
      refine congrArg (fun x => Ending.returned (.string x)) (text_of ?_)
      rw [← HX.out]
      simp

set_option maxHeartbeats 2000000 in
set_option maxRecDepth 100000 in
theorem rflags_any (A : Option Addr) (c : Nat) (zs : List Tl) (w : World) (hA : TsAt w.heap.size w A zs) (hl : zs.length ≤ 100) (hz : ∀ z ∈ zs, z.length ≤ 300) :
    Calls Try.prog 21 #[.slice A zs.length c] w fun e w' => e = .returned (.string ⟨(listL zs).toArray⟩) ∧ Below w.heap.size w w' := by
  have HA := Lib.hid hA
  have HZ := Lib.hid hz
  have hl2 : (zs.length : Int) ≤ 100 := by omega
  clear hA hz
  go_enter Try.func21, Try.ntmps21
  go_wp2_with fail
  go_loopw [3, 4] (fun sv i wr => ∃ (k : Nat) (X : ByteArray), k ≤ zs.length ∧ sv = .string X ∧ i = .int .i64 (k : Int) ∧ X.size ≤ 40000 ∧ Hid (X.data.toList = [40] ++ toldL (zs.take k)) ∧ Hid (Below w.heap.size w wr)) (fun _ i _ => zs.length - (intOf i).toNat)
  case atStart => exact ⟨0, _, Nat.zero_le _, rfl, rfl, by decide, Lib.hid rfl, Lib.hid (Below.refl _ _)⟩
  case round =>
    obtain ⟨k, X, hk, rfl, rfl, hXs, hX, hb⟩ := hrel
    by_cases hlt : k < zs.length
    · have gk : (k : Int) < (zs.length : Int) := by omega
      obtain ⟨g, o, rfl, hc⟩ := HA.out.cell hb.out k hlt
      have hzk := HZ.out zs[k] (List.getElem_mem hlt)
      have hst := told_snoc (zs.take k) zs[k]
      rw [← List.take_succ_eq_append_getElem hlt] at hst
      have htl := told_len (zs := zs.take (k + 1)) (fun z h => HZ.out z (List.mem_of_mem_take h))
      rw [List.length_take, Nat.min_eq_left (by omega)] at htl
      obtain ⟨z, hzz⟩ : ∃ z, zs[k] = z := ⟨_, rfl⟩
      rw [hzz] at hc hzk hst
      have hfz := flag_len z
      have HFL : Hid (∀ W, Calls Try.prog 17 #[.string ⟨z.toArray⟩] W fun e w' => e = .returned (.string ⟨(flagL z).toArray⟩) ∧ Below W.heap.size W w') := Lib.hid (fun W => rflag_any ⟨z.toArray⟩ W)
      obtain ⟨f, hf⟩ : ∃ f, flagL z = f := ⟨_, rfl⟩
      rw [hf] at HFL hst hfz
      obtain ⟨F, hF⟩ : ∃ F : ByteArray, ByteArray.mk f.toArray = F := ⟨_, rfl⟩
      have hFs : F.size ≤ 309 := by rw [← hF, Lib.size_mk]; omega
      have HFd : Hid (F.data.toList = f) := Lib.hid (by rw [← hF])
      rw [hF] at HFL
      clear hzz hF hf
      by_cases hk0 : k = 0
      · subst hk0
        rw [Nat.add_zero] at hc
        have HNX : Hid ((X ++ F).data.toList = [40] ++ toldL (zs.take (0 + 1))) := Lib.hid (by rw [hst, List.take_zero, if_pos rfl, Joins.data_append, hX.out, HFd.out, List.take_zero]; rfl)
        have HSZ : Hid ((X ++ F).size ≤ 40000) := Lib.hid (by rw [Lib.size_eq, HNX.out, List.length_append, List.length_singleton]; omega)
        clear hst htl
        go_wp2_with fail
        refine (HFL.out wr).mono ?_
        rintro e w1 ⟨rfl, hb1⟩
        go_wp2_with fail
        go_roundw
        case rel => exact ⟨1, _, by omega, rfl, by go_num, HSZ.out, HNX, Lib.hid (hb.out.trans (hb1.mono hb.out.size))⟩
        case measure => simp [intOf]; omega
      · have gk0 : (0 : Int) < (k : Int) := by omega
        have HNX : Hid ((X ++ ⟨#[32]⟩ ++ F).data.toList = [40] ++ toldL (zs.take (k + 1))) := Lib.hid (by
          rw [hst, if_neg (by intro e; have := congrArg List.length e; rw [List.length_take, Nat.min_eq_left (by omega)] at this; exact hk0 this), Joins.data_append, Joins.data_append, hX.out, HFd.out]
          simp only [List.append_assoc])
        have HSZ : Hid ((X ++ ⟨#[32]⟩ ++ F).size ≤ 40000) := Lib.hid (by rw [Lib.size_eq, HNX.out, List.length_append, List.length_singleton]; omega)
        clear hst htl hk0
        go_wp2_with fail
        refine (HFL.out wr).mono ?_
        rintro e w1 ⟨rfl, hb1⟩
        go_wp2_with fail
        go_roundw
        case rel => exact ⟨k + 1, _, by omega, rfl, by go_num, HSZ.out, HNX, Lib.hid (hb.out.trans (hb1.mono hb.out.size))⟩
        case measure => simp [intOf]; omega
    · obtain rfl : k = zs.length := by omega
      have gk : ¬ (zs.length : Int) < (zs.length : Int) := by omega
      have HLT : Hid ((X ++ ⟨#[41]⟩ : ByteArray).data.toList = listL zs) := Lib.hid (by
        rw [listL_told, Joins.data_append, hX.out, List.take_of_length_le (Nat.le_refl _)])
      clear hX
      go_wp2_with fail
      go_ret
      exact ⟨congrArg (fun x => Ending.returned (.string x)) (text_of HLT.out), hb.out⟩
end Go.Proofs.Ytggnkpbadfabcaa.Fg
