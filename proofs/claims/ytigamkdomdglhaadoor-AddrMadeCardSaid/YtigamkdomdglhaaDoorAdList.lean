/-
  The program's List returns the addresses of a text, as AdPlain tells them, in a row of its own. Conditions: the text has at most 10^6 bytes; the bound of the library's search is some number.
-/
import Derived.Test.YtigamkdomdglhaaDoorAdTake
namespace Go.Proofs.YtigamkdomdglhaaDoor.Ad
open Go Go.RowKit Go.Joins Kit J7
variable {w0 w : World} {b : Nat}

theorem Bd.words {n : Nat} {s : St} (h : Bd n s) (hn : n ≤ 1000000000) : s.words.length ≤ 1099511627776 := by
  have := lens_le s.words
  have := h.wt
  omega
theorem tells {s : St} (h : RM w0 b s w) (hE : Srch.Env w0) {n : Nat} (hb : Bd n s) (hn : n ≤ 1000000000) :
    Calls Tryd.prog 18 #[.pointer (some ⟨b, 0, none⟩)] w fun e w' => e = .returned (.tuple #[]) ∧ RM w0 b (tellS s) w' :=
  tell_any h hE (by have := hb.wt; omega) (by have := hb.angle; omega) (by have := hb.told; omega)

set_option maxHeartbeats 2000000 in
set_option maxRecDepth 100000 in
theorem end_any {s : St} (h : RM w0 b s w) (hE : Srch.Env w0) {n : Nat} (hb : Bd n s) (hn : n ≤ 100000000) :
    Calls Tryd.prog 10 #[.pointer (some ⟨b, 0, none⟩)] w fun e w' => e = .returned (.tuple #[]) ∧ RM w0 b (endS s) w' := by
  have h6 := hb.st
  have HE := Lib.hid hE
  have HB := Lib.hid hb
  have HN := Lib.hid (show n + 2 ≤ 1000000000 by omega)
  have HL := Lib.hid (show s.txt.length ≤ 100000000000000 by have := hb.wt; omega)
  clear hE hb hn
  have f0 := h.free 0
  have HR := Lib.hid h
  have hq := h.c0
  clear h
  have hst : s.st = 3 ∨ s.st = 2 ∨ s.st = 1 ∨ s.st = 4 ∨ s.st = 0 ∨ s.st = 5 ∨ s.st = 6 := by omega
  clear h6
  rcases hst with h1 | h1 | h1 | h1 | h1 | h1 | h1
  · have q0 : w.cell? ⟨b, 0, none⟩ = some (.int .i64 3) := by rw [hq, h1]; rfl
    have hs : endS s = tellS (endWordS { s with txt := s.txt ++ [92] }) := by unfold endS; rw [h1]; rfl
    rw [hs]
    clear hs hq h1
    have hp : Calls Tryd.prog 12 #[.pointer (some ⟨b, 2, none⟩), .int .u8 92] w fun e w' => e = .returned .nilIface ∧ RM w0 b { s with txt := s.txt ++ [92] } w' := put_any HR.out 92 HL.out
    have hB2 : Hid (Bd (n + 1) { s with txt := s.txt ++ [92] }) := Lib.hid (HB.out.put 92 HB.out.st)
    go_enter Tryd.func10, Tryd.ntmps10
    go_wp2_with fail
    refine hp.mono ?_
    rintro e w1 ⟨rfl, h2⟩
    have H2 := Lib.hid h2
    clear h2 q0 f0 hp
    go_wp2_with fail
    refine (endWord_any H2.out (hB2.out.words (by have := HN.out; omega))).mono ?_
    rintro e w2 ⟨rfl, h3⟩
    have H3 := Lib.hid h3
    clear h3
    go_wp2_with fail
    refine (tells H3.out HE.out hB2.out.endWord (by have := HN.out; omega)).mono ?_
    rintro e w9 ⟨rfl, h9⟩
    go_wp2_with fail
    go_end0
    exact ⟨rfl, h9⟩
  · have q0 : w.cell? ⟨b, 0, none⟩ = some (.int .i64 2) := by rw [hq, h1]; rfl
    have hs : endS s = tellS (endWordS s) := by unfold endS; rw [h1]; rfl
    rw [hs]
    clear hs hq h1
    go_enter Tryd.func10, Tryd.ntmps10
    go_wp2_with fail
    refine (endWord_any HR.out (HB.out.words (by have := HN.out; omega))).mono ?_
    rintro e w2 ⟨rfl, h3⟩
    have H3 := Lib.hid h3
    clear h3
    go_wp2_with fail
    refine (tells H3.out HE.out HB.out.endWord (by have := HN.out; omega)).mono ?_
    rintro e w9 ⟨rfl, h9⟩
    go_wp2_with fail
    go_end0
    exact ⟨rfl, h9⟩
  · have q0 : w.cell? ⟨b, 0, none⟩ = some (.int .i64 1) := by rw [hq, h1]; rfl
    have hs : endS s = tellS (endWordS s) := by unfold endS; rw [h1]; rfl
    rw [hs]
    clear hs hq h1
    go_enter Tryd.func10, Tryd.ntmps10
    go_wp2_with fail
    refine (endWord_any HR.out (HB.out.words (by have := HN.out; omega))).mono ?_
    rintro e w2 ⟨rfl, h3⟩
    have H3 := Lib.hid h3
    clear h3
    go_wp2_with fail
    refine (tells H3.out HE.out HB.out.endWord (by have := HN.out; omega)).mono ?_
    rintro e w9 ⟨rfl, h9⟩
    go_wp2_with fail
    go_end0
    exact ⟨rfl, h9⟩
  · have q0 : w.cell? ⟨b, 0, none⟩ = some (.int .i64 4) := by rw [hq, h1]; rfl
    have hs : endS s = tellS (endAngleS s) := by unfold endS; rw [h1]; rfl
    rw [hs]
    clear hs hq h1
    go_enter Tryd.func10, Tryd.ntmps10
    go_wp2_with fail
    refine (endAngle_any HR.out).mono ?_
    rintro e w2 ⟨rfl, h3⟩
    have H3 := Lib.hid h3
    clear h3
    go_wp2_with fail
    refine (tells H3.out HE.out HB.out.endAngle (by have := HN.out; omega)).mono ?_
    rintro e w9 ⟨rfl, h9⟩
    go_wp2_with fail
    go_end0
    exact ⟨rfl, h9⟩
  · have q0 : w.cell? ⟨b, 0, none⟩ = some (.int .i64 0) := by rw [hq, h1]; rfl
    have hs : endS s = tellS (s) := by unfold endS; rw [h1]; rfl
    rw [hs]
    clear hs hq h1
    go_enter Tryd.func10, Tryd.ntmps10
    go_wp2_with fail
    refine (tells HR.out HE.out HB.out (by have := HN.out; omega)).mono ?_
    rintro e w9 ⟨rfl, h9⟩
    go_wp2_with fail
    go_end0
    exact ⟨rfl, h9⟩
  · have q0 : w.cell? ⟨b, 0, none⟩ = some (.int .i64 5) := by rw [hq, h1]; rfl
    have hs : endS s = tellS (s) := by unfold endS; rw [h1]; rfl
    rw [hs]
    clear hs hq h1
    go_enter Tryd.func10, Tryd.ntmps10
    go_wp2_with fail
    refine (tells HR.out HE.out HB.out (by have := HN.out; omega)).mono ?_
    rintro e w9 ⟨rfl, h9⟩
    go_wp2_with fail
    go_end0
    exact ⟨rfl, h9⟩
  · have q0 : w.cell? ⟨b, 0, none⟩ = some (.int .i64 6) := by rw [hq, h1]; rfl
    have hs : endS s = tellS (s) := by unfold endS; rw [h1]; rfl
    rw [hs]
    clear hs hq h1
    go_enter Tryd.func10, Tryd.ntmps10
    go_wp2_with fail
    refine (tells HR.out HE.out HB.out (by have := HN.out; omega)).mono ?_
    rintro e w9 ⟨rfl, h9⟩
    go_wp2_with fail
    go_end0
    exact ⟨rfl, h9⟩

/-- What List returns: the addresses, in a row of the call's own. -/
def RowA (B : Nat) (v : Value) (T : List Ad3) (w : World) : Prop := w.ownsRow B 27 3 v T.length (aC T)

set_option maxHeartbeats 2000000 in
set_option maxRecDepth 100000 in
theorem list_any (s : ByteArray) (w : World) (hs : s.size ≤ 1000000) (hE : Srch.Env w) :
    Calls Tryd.prog 7 #[.string s] w fun e w' => ∃ v, e = .returned v ∧ RowA w.heap.size v (docA s.data.toList) w' ∧ Below w.heap.size w w' := by
  have HE := Lib.hid hE
  clear hE
  obtain ⟨b, hb⟩ : ∃ b, w.heap.size = b := ⟨_, rfl⟩
  have h0 : RM w b (fresh []) (w.alloc (.cells #[.int .i64 0, .int .i64 0, .pointer none, .slice none 0 0, .slice none 0 0, .string ⟨#[]⟩, .bool false, .slice none 0 0] 37)) := by
    refine ⟨_, _, _, _, ⟨⟨(Below.refl _ w).alloc (Nat.le_refl _) _, by omega, ?_, World.ownsRow_nil _ _ _ _, World.ownsRow_nil _ _ _ _⟩, World.ownsRow_nil _ _ _ _, fun _ => rfl, Or.inl rfl⟩⟩
    rw [← hb]
    exact Kit.fresh_block w _ _
  go_enter Tryd.func7, Tryd.ntmps7
  go_wp2_with fail
  go_loopg [7] s.size (fun m i wr => ∃ k : Nat, m = s.size - k ∧ i = .int .i64 (k : Int) ∧ k ≤ s.size ∧ Hid (RM w b (run (fresh []) (s.data.toList.take k)) wr))
  case atStart => exact ⟨0, rfl, rfl, Nat.zero_le _, Lib.hid h0⟩
  case round =>
    clear h0
    obtain ⟨k, rfl, rfl, hk, HR⟩ := hrel
    by_cases hlt : k < s.size
    · have g1 : (k : Int) < (s.size : Int) := by omega
      have hkl : k < s.data.toList.length := by rw [← Lib.size_eq]; exact hlt
      have hr := run_take (fresh []) s k hkl
      rw [byte_get s k hlt] at hr
      have hbd := run_bd (s.data.toList.take k)
      rw [List.length_take] at hbd
      have HBD : Hid (Bd 2000000 (run (fresh []) (s.data.toList.take k))) := Lib.hid (hbd.up (by omega))
      have HQ := Lib.hid hr
      clear hr hbd hkl
      go_wp2_with fail
      refine (take_any HR.out HE.out HBD.out (by omega) s[k]).mono ?_
      rintro e w2 ⟨rfl, h2⟩
      rw [← HQ.out] at h2
      have H2 := Lib.hid h2
      clear h2
      go_wp2_with fail
      go_roundg (s.size - (k + 1))
      case measure => omega
      case rel => exact ⟨k + 1, rfl, by go_num, by omega, H2⟩
    · have g1 : ¬ (k : Int) < (s.size : Int) := by omega
      have hall : s.data.toList.take k = s.data.toList := List.take_of_length_le (by rw [← Lib.size_eq]; omega)
      have hbd := run_bd s.data.toList
      rw [← Lib.size_eq] at hbd
      have hR := HR.out
      rw [hall] at hR
      have HBD : Hid (Bd 2000000 (run (fresh []) s.data.toList)) := Lib.hid (hbd.up (by omega))
      have H1 := Lib.hid hR
      clear hall hbd hR HR
      go_wp2_with fail
      refine (end_any H1.out HE.out HBD.out (by omega)).mono ?_
      rintro e w2 ⟨rfl, p, v, wv, tv, h2⟩
      have q7 : w2.cell? ⟨b, 7, none⟩ = some tv := h2.y.cell 7
      have hd := h2.y.tld
      have hbl := h2.y.bel
      clear h2
      go_wp2_with fail
      go_ret
      exact ⟨tv, rfl, hd, hbl⟩
end Go.Proofs.YtigamkdomdglhaaDoor.Ad
