/-
  The program's reader of addresses: a byte in an angle, a byte in a remark. No law in this text. Conditions: what is gathered has at most 10^13 bytes.
-/
import Derived.Test.YtigamkdomdglhaaDoorAdBld
import Derived.IntWalk
namespace Go.Proofs.YtigamkdomdglhaaDoor.Ad
open Go Go.RowKit Go.Joins Kit J7
variable {w0 w : World} {b : Nat}

theorem eqt {c k : UInt8} (h : c = k) (n : Int) (hn : (k.toNat : Int) = n) : ((c.toNat : Int) == n) = true := by rw [h, hn]; exact beq_self_eq_true n
theorem eqf {c k : UInt8} (h : c ≠ k) (n : Int) (hn : (k.toNat : Int) = n) : ((c.toNat : Int) == n) = false := by
  rw [beq_eq_false_iff_ne, ← hn]
  intro e
  exact h (UInt8.toNat_inj.1 (Int.ofNat.inj e))

set_option maxHeartbeats 1000000 in
set_option maxRecDepth 100000 in
theorem endAngle_any {s : St} (h : RM w0 b s w) :
    Calls Tryd.prog 17 #[.pointer (some ⟨b, 0, none⟩)] w fun e w' => e = .returned (.tuple #[]) ∧ RM w0 b (endAngleS s) w' := by
  obtain ⟨p, v, wv, tv, h⟩ := h
  have hstr := bstring_any h
  clear h
  go_enter Tryd.func17, Tryd.ntmps17
  go_wp2_with fail
  refine hstr.mono ?_
  rintro e w1 ⟨rfl, h1⟩
  have q5 : w1.cell? ⟨b, 5, none⟩ = some (.string ⟨s.angle.toArray⟩) := h1.cell 5
  have f5 := h1.free 5
  have h2 := h1.set5 (.string ⟨s.txt.toArray⟩)
  have q6 : (w1.setCell ⟨b, 5, none⟩ (.string ⟨s.txt.toArray⟩)).cell? ⟨b, 6, none⟩ = some (.bool s.angled) := h2.cell 6
  have f6 := h2.free 6
  have h3 := h2.set6 (.bool true)
  clear h1 h2 hstr
  go_wp2_with fail
  refine (reset_any h3).mono ?_
  rintro e w6 ⟨rfl, h6⟩
  have f0 := h6.y.free 0
  have q0 : w6.cell? ⟨b, 0, none⟩ = some (.int .i64 s.st) := h6.y.cell 0
  have h7 := h6.set0 (.int .i64 0)
  clear h6 h3
  go_wp2_with fail
  go_end0
  exact ⟨rfl, _, _, _, _, h7⟩

theorem put_any {s : St} (h : RM w0 b s w) (c : UInt8) (hl : s.txt.length ≤ 100000000000000) :
    Calls Tryd.prog 12 #[.pointer (some ⟨b, 2, none⟩), .int .u8 (c.toNat : Int)] w fun e w' => e = .returned .nilIface ∧ RM w0 b { s with txt := s.txt ++ [c] } w' := by
  obtain ⟨p, v, wv, tv, h⟩ := h
  refine (wbyte_any h c hl).mono ?_
  rintro e w' ⟨rfl, v', h'⟩
  exact ⟨rfl, _, _, _, _, h'⟩
theorem RM.c0 {s : St} (h : RM w0 b s w) : w.cell? ⟨b, 0, none⟩ = some (.int .i64 s.st) := by obtain ⟨_, _, _, _, h⟩ := h; exact h.y.cell 0
theorem RM.c1 {s : St} (h : RM w0 b s w) : w.cell? ⟨b, 1, none⟩ = some (.int .i64 s.rem) := by obtain ⟨_, _, _, _, h⟩ := h; exact h.y.cell 1
theorem RM.c5 {s : St} (h : RM w0 b s w) : w.cell? ⟨b, 5, none⟩ = some (.string ⟨s.angle.toArray⟩) := by obtain ⟨_, _, _, _, h⟩ := h; exact h.y.cell 5
theorem RM.c6 {s : St} (h : RM w0 b s w) : w.cell? ⟨b, 6, none⟩ = some (.bool s.angled) := by obtain ⟨_, _, _, _, h⟩ := h; exact h.y.cell 6
theorem RM.free {s : St} (h : RM w0 b s w) (o : Nat) : w.frozen? ⟨b, o, none⟩ = false := by obtain ⟨_, _, _, _, h⟩ := h; exact h.y.free o
theorem RM.to {s : St} (h : RM w0 b s w) (k : Nat) : RM w0 b { s with st := k } (w.setCell ⟨b, 0, none⟩ (.int .i64 (k : Int))) := by
  obtain ⟨_, _, _, _, h⟩ := h
  exact ⟨_, _, _, _, h.set0 _⟩
theorem RM.rm {s : St} (h : RM w0 b s w) (k : Int) : RM w0 b { s with rem := k } (w.setCell ⟨b, 1, none⟩ (.int .i64 k)) := by
  obtain ⟨_, _, _, _, h⟩ := h
  exact ⟨_, _, _, _, h.set1 _⟩
theorem RM.below {s : St} {w' : World} (h : RM w0 b s w) (hb : Below w.heap.size w w') : RM w0 b s w' := by
  obtain ⟨_, _, _, _, h⟩ := h
  exact ⟨_, _, _, _, h.below hb⟩

set_option maxHeartbeats 1000000 in
set_option maxRecDepth 100000 in
theorem takeAngle_any {s : St} (h : RM w0 b s w) (c : UInt8) (hl : s.txt.length ≤ 100000000000000) :
    Calls Tryd.prog 15 #[.pointer (some ⟨b, 0, none⟩), .int .u8 (c.toNat : Int)] w fun e w' => e = .returned (.tuple #[]) ∧ RM w0 b (angleS s c) w' := by
  by_cases h1 : c = 62
  · have hr : angleS s c = endAngleS s := by unfold angleS; rw [if_pos h1]
    rw [hr]
    have g1 := eqt h1 62 rfl
    clear hr h1
    go_enter Tryd.func15, Tryd.ntmps15
    go_wp2_with fail
    refine (endAngle_any h).mono ?_
    rintro e w1 ⟨rfl, h1⟩
    go_wp2_with fail
    go_end0
    exact ⟨rfl, h1⟩
  have g1 := eqf h1 62 rfl
  by_cases h2 : c = 32
  · have hr : angleS s c = s := by unfold angleS; rw [if_neg h1, if_pos (Or.inl h2)]
    rw [hr]
    have g2 := eqt h2 32 rfl
    clear hr h1 h2
    go_enter Tryd.func15, Tryd.ntmps15
    go_wp2_with fail
    go_end0
    exact ⟨rfl, h⟩
  have g2 := eqf h2 32 rfl
  by_cases h3 : c = 9
  · have hr : angleS s c = s := by unfold angleS; rw [if_neg h1, if_pos (Or.inr h3)]
    rw [hr]
    have g3 := eqt h3 9 rfl
    clear hr h1 h2 h3
    go_enter Tryd.func15, Tryd.ntmps15
    go_wp2_with fail
    go_end0
    exact ⟨rfl, h⟩
  have g3 := eqf h3 9 rfl
  have hr : angleS s c = { s with txt := s.txt ++ [c] } := by unfold angleS; rw [if_neg h1, if_neg (by simp [h2, h3])]
  rw [hr]
  clear hr h1 h2 h3
  go_enter Tryd.func15, Tryd.ntmps15
  go_wp2_with fail
  refine (put_any h c hl).mono ?_
  rintro e w1 ⟨rfl, h1⟩
  go_wp2_with fail
  go_end0
  exact ⟨rfl, h1⟩

set_option maxHeartbeats 1000000 in
set_option maxRecDepth 100000 in
theorem takeRemark_any {s : St} (h : RM w0 b s w) (c : UInt8) (hlo : -1099511627776 ≤ s.rem) (hhi : s.rem ≤ 1099511627776) :
    Calls Tryd.prog 16 #[.pointer (some ⟨b, 0, none⟩), .int .u8 (c.toNat : Int)] w fun e w' => e = .returned (.tuple #[]) ∧ RM w0 b (remarkS s c) w' := by
  have q0 := h.c0
  have q1 := h.c1
  have f0 := h.free 0
  have f1 := h.free 1
  by_cases h1 : c = 92
  · have hr : remarkS s c = { s with st := 6 } := by unfold remarkS; rw [if_pos h1]
    rw [hr]
    have g1 := eqt h1 92 rfl
    have hn := h.to 6
    clear hr h1 h
    go_enter Tryd.func16, Tryd.ntmps16
    go_wp2_with fail
    go_end0
    exact ⟨rfl, hn⟩
  have g1 := eqf h1 92 rfl
  by_cases h2 : c = 40
  · have hr : remarkS s c = { s with rem := s.rem + 1 } := by unfold remarkS; rw [if_neg h1, if_pos h2]
    rw [hr]
    have g2 := eqt h2 40 rfl
    have hn := h.rm (s.rem + 1)
    have hwr : IntKind.i64.wrap (s.rem + 1) = s.rem + 1 := by rw [IntKind.wrap_i64]; omega
    clear hr h1 h2 h
    go_enter Tryd.func16, Tryd.ntmps16
    go_wp2_with fail
    go_end0
    exact ⟨rfl, hn⟩
  have g2 := eqf h2 40 rfl
  by_cases h3 : c = 41
  · have g3 := eqt h3 41 rfl
    have hwr : IntKind.i64.wrap (s.rem - 1) = s.rem - 1 := by rw [IntKind.wrap_i64]; omega
    have hn := h.rm (s.rem - 1)
    have d1 := hn.c1
    have d0 := hn.c0
    have e0 := hn.free 0
    by_cases hz : s.rem - 1 = 0
    · have hr : remarkS s c = { s with rem := s.rem - 1, st := 0 } := by unfold remarkS; rw [if_neg h1, if_neg h2, if_pos h3, if_pos hz]
      rw [hr]
      have gz : (s.rem - 1 == 0) = true := by rw [hz]; rfl
      have hn2 := hn.to 0
      clear hr h1 h2 h3 h hn hz
      go_enter Tryd.func16, Tryd.ntmps16
      go_wp2_with fail
      go_end0
      exact ⟨rfl, hn2⟩
    · have hr : remarkS s c = { s with rem := s.rem - 1 } := by unfold remarkS; rw [if_neg h1, if_neg h2, if_pos h3, if_neg hz]
      rw [hr]
      have gz : (s.rem - 1 == 0) = false := by rw [beq_eq_false_iff_ne]; exact hz
      clear hr h1 h2 h3 h hz
      go_enter Tryd.func16, Tryd.ntmps16
      go_wp2_with fail
      go_end0
      exact ⟨rfl, hn⟩
  have g3 := eqf h3 41 rfl
  have hr : remarkS s c = s := by unfold remarkS; rw [if_neg h1, if_neg h2, if_neg h3]
  rw [hr]
  clear hr h1 h2 h3
  go_enter Tryd.func16, Tryd.ntmps16
  go_wp2_with fail
  go_end0
  exact ⟨rfl, h⟩
end Go.Proofs.YtigamkdomdglhaaDoor.Ad
