/-
  The reader of the document's answer for package json: its words and its numbers. Conditions: the text has at most 65536 bytes.
-/
import Derived.Test.YtpnffmimpkimeaaJ7Rd
import Derived.Test.YtpnffmimpkimeaaJ7Bx
namespace Go.Proofs.Ytpnffmimpkimeaa.J7
open Go Go.RowKit Go.Joins Kit

theorem Rd.setAll {R G : Nat} {s : ByteArray} {i d e : Int} {w : World} (h : Rd R s i d e w) (hn : G ≠ R) (d0 d1 d2 d3 d4 : Value) : Rd R s i d e (((((w.setCell ⟨G, 0, none⟩ d0).setCell ⟨G, 1, none⟩ d1).setCell ⟨G, 2, none⟩ d2).setCell ⟨G, 3, none⟩ d3).setCell ⟨G, 4, none⟩ d4) := ⟨by
  have := h.blk
  simp [World.setCell, Array.getElem?_modify, this, hn]⟩
theorem Rd.alloc {R : Nat} {s : ByteArray} {i d e : Int} {w : World} (h : Rd R s i d e w) (o : Obj) : Rd R s i d e (w.alloc o) := ⟨by rw [Below.heap_alloc w o R h.lt]; exact h.blk⟩
theorem word_end {s : ByteArray} {W : ByteArray} {k i : Nat} (hk : W.size ≤ k) : wordL (tail W k) (tail s i) = some (tail s i) := by rw [tail_end hk, wordL]
theorem word_step {s : ByteArray} {W : ByteArray} {k i : Nat} {r : List UInt8} (hk : k < W.size) (h : eatL W[k] (tail s i) = some r) : wordL (tail W k) (tail s i) = wordL (tail W (k + 1)) r := by rw [tail_cons hk, wordL, h]
theorem word_bad {s : ByteArray} {W : ByteArray} {k i : Nat} (hk : k < W.size) (h : eatL W[k] (tail s i) = none) : wordL (tail W k) (tail s i) = none := by rw [tail_cons hk, wordL, h]

/-- What a function of the reader's leaves: the value that is said, behind it the reader at the rest; or the error. -/
def Left (R : Nat) (s : ByteArray) (d : Int) (w : World) (o : Out J) (e' : Ending) (w' : World) : Prop :=
  Step R w w' ∧ ∃ v, e' = .returned v ∧ match o with
    | .ok (j, r) => NodeAt (fun g => w.heap.size ≤ g) w' j v ∧ ∃ k : Nat, k ≤ s.size ∧ r = tail s k ∧ Rd R s (k : Int) d 0 w'
    | .error c => (∃ j, NodeAt (fun g => w.heap.size ≤ g) w' j v) ∧ c ≠ 0 ∧ ∃ k : Nat, k ≤ s.size ∧ Rd R s (k : Int) d (c : Int) w'

set_option maxHeartbeats 2000000 in
theorem word_any (R : Nat) (s W : ByteArray) (i : Nat) (d kd : Int) (w : World) (h : Rd R s i d 0 w) (hs : s.size ≤ 65536) (hi : i ≤ s.size) (hW : W.size ≤ 10) :
    Calls Try.prog 35 #[.pointer (some ⟨R, 0, none⟩), .string W, .int .i64 kd] w fun e' w' => Left R s d w (wordJ W.data.toList kd (tail s i)) e' w' := by
  have hsz : (s.size : Int) ≤ 65536 := by omega
  have hwz : (W.size : Int) ≤ 10 := by omega
  have hRl := h.lt
  obtain ⟨G, hG⟩ : ∃ G, w.heap.size = G := ⟨_, rfl⟩
  have hGR : G ≠ R := by omega
  go_enter Try.func35, Try.ntmps35
  go_wp2
  obtain ⟨w1, hw1⟩ : ∃ w1, (w.alloc (Obj.cells #[Value.int IntKind.i64 0, Value.int IntKind.i64 0, Value.string { data := #[] }, Value.slice none 0 0, Value.slice none 0 0] 27)) = w1 := ⟨_, rfl⟩
  have hbx : Bx G (.int .i64 0) (.int .i64 0) (.string { data := #[] }) (.slice none 0 0) (.slice none 0 0) w1 := by rw [← hw1, ← hG]; exact Bx.made w _ _ _ _ _
  have hst : Step R w w1 := by rw [← hw1]; exact (Step.refl R w).alloc _
  have hr : Rd R s i d 0 w1 := by rw [← hw1]; exact h.alloc _
  rw [hw1]
  have hwl : tail W 0 = W.data.toList := rfl
  have hgs : w.heap.size ≤ G := by omega
  clear hw1
  go_loopw [7] (fun v wr => ∃ k q : Nat, v = .int .i64 k ∧ k ≤ W.size ∧ q ≤ s.size ∧ Step R w wr ∧ Bx G (.int .i64 0) (.int .i64 0) (.string { data := #[] }) (.slice none 0 0) (.slice none 0 0) wr ∧ ((Hid (wordL W.data.toList (tail s i) = wordL (tail W k) (tail s q)) ∧ Rd R s (q : Int) d 0 wr) ∨ (Hid (wordL W.data.toList (tail s i) = none) ∧ Rd R s (q : Int) d 3 wr))) (fun v _ => W.size - (intOf v).toNat)
  case atStart => exact ⟨0, i, rfl, by omega, hi, hst, hbx, Or.inl ⟨rfl, hr⟩⟩
  case round =>
    obtain ⟨k, q, rfl, hk, hq, hst, hbx, hor⟩ := hrel
    rcases Nat.lt_or_ge k W.size with hl | hl
    · rcases hor with ⟨hw, hr⟩ | ⟨hw, hr⟩
      · cases e : eatL W[k] (tail s q) with
        | some r =>
          obtain ⟨hql, -, hre⟩ := eat_place e
          have hnx := Lib.hid (hw.out.trans ((word_step hl e).trans (by rw [hre])))
          have E := Lib.hid e
          clear e hre
          go_wp2_with fail
          refine (is_yes R s q d W[k] wr r hr hs E.out).mono ?_
          rintro e' w2 ⟨rfl, hr2, hs2⟩
          have hst2 := hst.trans hs2
          have hbx2 := hbx.keep hs2 hGR
          go_wp2
          go_roundw
          case rel => exact ⟨k + 1, q + 1, by go_num, by omega, by omega, hst2, hbx2, Or.inl ⟨hnx, hr2⟩⟩
          case measure => simp only [intOf]; omega
        | none =>
          have hnx := Lib.hid (hw.out.trans (word_bad hl e))
          have E := Lib.hid e
          clear e
          go_wp2_with fail
          refine (is_no R s q d W[k] wr hr hs E.out).mono ?_
          rintro e' w2 ⟨rfl, hr2, hs2⟩
          go_wp2_with fail
          refine (fail_any R s q d 0 3 w2 hr2).mono ?_
          rintro e' w3 ⟨rfl, hr3, hs3⟩
          have hst2 := (hst.trans hs2).trans hs3
          have hbx2 := (hbx.keep hs2 hGR).keep hs3 hGR
          go_wp2
          go_roundw
          case rel => exact ⟨k + 1, q, by go_num, by omega, by omega, hst2, hbx2, Or.inr ⟨hnx, by simpa using hr3⟩⟩
          case measure => simp only [intOf]; omega
      · go_wp2_with fail
        refine (is_off R s q d 3 W[k] wr hr (by decide)).mono ?_
        rintro e' w2 ⟨rfl, hr2, hs2⟩
        go_wp2_with fail
        refine (fail_any R s q d 3 3 w2 hr2).mono ?_
        rintro e' w3 ⟨rfl, hr3, hs3⟩
        have hst2 := (hst.trans hs2).trans hs3
        have hbx2 := (hbx.keep hs2 hGR).keep hs3 hGR
        go_wp2
        go_roundw
        case rel => exact ⟨k + 1, q, by go_num, by omega, by omega, hst2, hbx2, Or.inr ⟨hw, by simpa using hr3⟩⟩
        case measure => simp only [intOf]; omega
    · have b0 := hbx.p0
      have b1 := hbx.p1
      have b2 := hbx.p2
      have b3 := hbx.p3
      have b4 := hbx.p4
      have f0 := hbx.free 0
      have f1 := hbx.free 1
      have f2 := hbx.free 2
      have f3 := hbx.free 3
      have f4 := hbx.free 4
      go_wp2
      refine bodyPost_ret (node_result rfl _ rfl (hbx.setAll _ _ _ _ _)) rfl ?_
      refine ⟨hst.setAll hgs _ _ _ _ _, _, rfl, ?_⟩
      rcases hor with ⟨hw, hr⟩ | ⟨hw, hr⟩
      · rw [wordJ, hw.out, word_end hl]
        exact ⟨node_plain _ _ _ _ _, q, hq, rfl, hr.setAll hGR _ _ _ _ _⟩
      · rw [wordJ, hw.out]
        exact ⟨⟨_, node_plain _ _ _ _ _⟩, by decide, q, hq, by simpa using hr.setAll hGR _ _ _ _ _⟩
end Go.Proofs.Ytpnffmimpkimeaa.J7
