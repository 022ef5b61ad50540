/-
  The program's reader of addresses: what is gathered is told. No law in this text. Conditions: what is gathered has at most 10^9 bytes; the bound of the library's search is some number.
-/
import Derived.Test.YtigamkdomdglhaaDoorAdTell
namespace Go.Proofs.YtigamkdomdglhaaDoor.Ad
open Go Go.RowKit Go.Joins Kit J7
variable {w0 w : World} {b : Nat}

set_option maxHeartbeats 4000000 in
set_option maxRecDepth 100000 in
theorem tell_any {s : St} (h : RM w0 b s w) (hE : Srch.Env w0) (hw : lenW s.words ≤ 1000000000) (ha : s.angle.length ≤ 1000000000) (ht : s.told.length ≤ 1000000000) :
    Calls Tryd.prog 18 #[.pointer (some ⟨b, 0, none⟩)] w fun e w' => e = .returned (.tuple #[]) ∧ RM w0 b (tellS s) w' := by
  have HE := Lib.hid hE
  have HW := Lib.hid (And.intro hw (And.intro ha ht))
  clear hE hw ha ht
  have q5 : w.cell? ⟨b, 5, none⟩ = some (.string ⟨s.angle.toArray⟩) := h.c5
  have HR := Lib.hid h
  clear h
  go_enter Tryd.func18, Tryd.ntmps18
  go_upto_region 0 with fail
  go_quiet (fail)
  have hR1 : RM w0 b s (w.drewN nq) := HR.out.below (below_drewN (Below.refl _ _) nq)
  generalize w.drewN nq = w1 at hR1
  clear HR q5
  have q6 := hR1.c6
  have HR := Lib.hid hR1
  clear hR1
  go_upto_if 13 with fail
  go_cut [2, 3] from 10 to 25 (fun nv pv wx => ∃ N P : ByteArray, nv = .string N ∧ pv = .string P ∧ P.size ≤ 1000000000 ∧ Hid (N.data.toList = nameA s ∧ P.data.toList = placeA s) ∧ Hid (RM w0 b s wx))
  case first =>
    cases had : s.angled with
    | true =>
      have HA := Lib.hid had
      rw [had] at q6
      obtain ⟨p, v, wv, tv, hx⟩ := HR.out
      have q4 : w1.cell? ⟨b, 4, none⟩ = some wv := hx.y.cell 4
      have hj := joinW_any (n := s.words.length) rfl ⟨#[32]⟩ (by decide) hx.y.wrd (by have := HW.out.1; omega)
      have hjl := join_len s.words [32] (by decide)
      obtain ⟨X, hX⟩ : ∃ X : ByteArray, (⟨(Lib.join s.words (ByteArray.mk #[32]).data.toList).toArray⟩ : ByteArray) = X := ⟨_, rfl⟩
      have HX : Hid (X.data.toList = Lib.join s.words [32]) := Lib.hid (by rw [← hX])
      have HZ : Hid (X.size ≤ 1099511627) := Lib.hid (by rw [Lib.size_eq, HX.out]; have := HW.out.1; omega)
      rw [hX] at hj
      clear hX hjl hx had
      go_wp2_with fail
      refine hj.mono ?_
      rintro e w2 ⟨rfl, hb2⟩
      have h2 := Lib.hid (HR.out.below hb2)
      clear hb2
      go_wp2_with fail
      refine (Wd.decode_any X w2 HZ.out (HE.out.next h2.out.bel)).mono ?_
      rintro e w3 ⟨rfl, hb3⟩
      have h3 := Lib.hid (h2.out.below hb3)
      clear hb3
      go_wp2_with fail
      go_meet
      exact ⟨_, _, rfl, rfl, by rw [Lib.size_eq]; exact HW.out.2.1, Lib.hid ⟨by unfold nameA; rw [HA.out, if_pos rfl, HX.out], by unfold placeA; rw [HA.out, if_pos rfl]⟩, h3⟩
    | false =>
      have HA := Lib.hid had
      rw [had] at q6
      obtain ⟨p, v, wv, tv, hx⟩ := HR.out
      have q4 : w1.cell? ⟨b, 4, none⟩ = some wv := hx.y.cell 4
      have hj := joinW_any (n := s.words.length) rfl ⟨#[]⟩ (by decide) hx.y.wrd (by have := HW.out.1; omega)
      have hjl := join_len s.words [] (by decide)
      obtain ⟨X, hX⟩ : ∃ X : ByteArray, (⟨(Lib.join s.words (ByteArray.mk #[]).data.toList).toArray⟩ : ByteArray) = X := ⟨_, rfl⟩
      have HX : Hid (X.data.toList = Lib.join s.words []) := Lib.hid (by rw [← hX])
      have HZ : Hid (X.size ≤ 1000000000) := Lib.hid (by rw [Lib.size_eq, HX.out]; have := HW.out.1; omega)
      rw [hX] at hj
      clear hX hjl hx had
      go_wp2_with fail
      refine hj.mono ?_
      rintro e w2 ⟨rfl, hb2⟩
      have h2 := Lib.hid (HR.out.below hb2)
      clear hb2
      go_wp2_with fail
      go_meet
      exact ⟨⟨#[]⟩, X, rfl, rfl, HZ.out, Lib.hid ⟨by unfold nameA; rw [HA.out, if_neg (by decide)], by unfold placeA; rw [HA.out, if_neg (by decide), HX.out]⟩, h2⟩
  case rest =>
    obtain ⟨N, P, rfl, rfl, hP, HNP, HR2⟩ := hcut
    clear HR q6
    go_wp2_with fail
    refine (cut_any P _ (by omega)).mono ?_
    rintro e w3 ⟨B, H, rfl, hB, hH, hb3⟩
    have h3 := HR2.out.below hb3
    obtain ⟨p, v, wv, tv, hx⟩ := h3
    have HO : Hid (oneA (nameA s) (placeA s) = if B.data.toList = [] ∧ H.data.toList = [] then [] else [(N.data.toList, B.data.toList, H.data.toList)]) := Lib.hid (by unfold oneA; rw [← HNP.out.1, ← HNP.out.2, ← hB, ← hH])
    clear hB hH hb3 HNP
    have hend : ∀ wx, B.data.toList = [] → H.data.toList = [] → RM w0 b s wx → RM w0 b (tellS s) wx := fun wx e1 e2 h => by
      have ht : tellS s = s := by
        unfold tellS
        rw [HO.out, if_pos ⟨e1, e2⟩, List.append_nil]
      rw [ht]
      exact h
    have hput : ¬ (B.data.toList = [] ∧ H.data.toList = []) → tellS s = { s with told := s.told ++ [(N.data.toList, B.data.toList, H.data.toList)] } := fun h => by
      unfold tellS
      rw [HO.out, if_neg h]
    have q7 : w3.cell? ⟨b, 7, none⟩ = some tv := hx.y.cell 7
    have hb2 : Below w3.heap.size w3 (w3.alloc (.cells #[.string N, .string B, .string H] 27)) := (Below.refl _ w3).alloc (Nat.le_refl _) _
    have h4 := hx.below hb2
    have HEND := Lib.hid hend
    have HPUT := Lib.hid hput
    have HX := Lib.hid hx
    have H4 := Lib.hid h4
    clear hend hput hx h4 hb2 HO
    by_cases hB : B.data.toList = []
    · have gB : B.toList = [] := by rw [Lib.toList_data]; exact hB
      by_cases hH : H.data.toList = []
      · have gH : H.toList = [] := by rw [Lib.toList_data]; exact hH
        have HF := Lib.hid (HEND.out w3 hB hH ⟨_, _, _, _, HX.out⟩)
        clear hB hH
        go_wp2_with fail
        go_end0
        exact ⟨rfl, HF.out⟩
      · have gH : H.toList.isEmpty = false := by rw [Lib.toList_data]; cases h : H.data.toList with | nil => exact absurd h hH | cons _ _ => rfl
        have HT := Lib.hid (HPUT.out (fun h => hH h.2))
        clear hB hH
        go_wp2_with (at_builtin; refine addrs_app rfl _ _ rfl w0.heap.size _ H4.out.y.tld H4.out.y.room (N.data.toList, B.data.toList, H.data.toList) w3.heap.size 1 (Kit.fresh_block w3 _ _) rfl rfl (by have := HW.out.2.2; omega) ?_)
        intro g5 cap5 w5 ho5 hg5
        have h5 := H4.out.put7 (T' := s.told ++ [(N.data.toList, B.data.toList, H.data.toList)]) hg5 (by rw [List.length_append]; exact ho5)
        have hb5 := (hg5.block b H4.out.y.lt (fun e => H4.out.y.tne e.symm)).trans H4.out.y.blk
        have m6 : w5.cell? ⟨b, 7, none⟩ = some tv := by rw [Lib.cell_of_heap hb5]; rfl
        have m7 : w5.frozen? ⟨b, 7, none⟩ = false := Lib.frozen_of_heap hb5 7
        clear ho5 hg5 hb5
        go_wp2_with fail
        go_end0
        rw [HT.out]
        exact ⟨rfl, _, _, _, _, h5⟩
    · have gB : B.toList.isEmpty = false := by rw [Lib.toList_data]; cases h : B.data.toList with | nil => exact absurd h hB | cons _ _ => rfl
      have HT := Lib.hid (HPUT.out (fun h => hB h.1))
      clear hB
      go_wp2_with (at_builtin; refine addrs_app rfl _ _ rfl w0.heap.size _ H4.out.y.tld H4.out.y.room (N.data.toList, B.data.toList, H.data.toList) w3.heap.size 1 (Kit.fresh_block w3 _ _) rfl rfl (by have := HW.out.2.2; omega) ?_)
      intro g5 cap5 w5 ho5 hg5
      have h5 := H4.out.put7 (T' := s.told ++ [(N.data.toList, B.data.toList, H.data.toList)]) hg5 (by rw [List.length_append]; exact ho5)
      have hb5 := (hg5.block b H4.out.y.lt (fun e => H4.out.y.tne e.symm)).trans H4.out.y.blk
      have m6 : w5.cell? ⟨b, 7, none⟩ = some tv := by rw [Lib.cell_of_heap hb5]; rfl
      have m7 : w5.frozen? ⟨b, 7, none⟩ = false := Lib.frozen_of_heap hb5 7
      clear ho5 hg5 hb5
      go_wp2_with fail
      go_end0
      rw [HT.out]
      exact ⟨rfl, _, _, _, _, h5⟩
end Go.Proofs.YtigamkdomdglhaaDoor.Ad
