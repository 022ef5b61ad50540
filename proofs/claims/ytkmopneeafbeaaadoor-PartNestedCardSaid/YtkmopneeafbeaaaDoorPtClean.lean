/-
  The laws' clean: a text without dashes and line ends. Condition: the text has at most 10^9 bytes.
-/
import Derived.Test.YtkmopneeafbeaaaDoorApm
import Derived.Test.YtkmopneeafbeaaaDoorShelf
import Derived.Test.YtkmopneeafbeaaaDoorPtMadeL
import Derived.Deep.LoopGhost
import Derived.WalkSmall
namespace Go.Proofs.YtkmopneeafbeaaaDoor.Pt
open Go Go.RowKit Go.Joins Kit F0 Apm

def cleanC (c : UInt8) : UInt8 := if c = 45 ∨ c = 10 ∨ c = 13 then 46 else c
def cleanL (l : List UInt8) : List UInt8 := l.map cleanC
theorem clean_pure (l : List UInt8) : Pure (cleanL l) := fun x hx => by
  obtain ⟨c, _, rfl⟩ := List.mem_map.1 hx
  unfold cleanC
  split
  · decide
  · rename_i h
    exact ⟨fun e => h (Or.inl e), fun e => h (Or.inr (Or.inl e)), fun e => h (Or.inr (Or.inr e))⟩
theorem clean_length (l : List UInt8) : (cleanL l).length = l.length := List.length_map _
/-- A row of bytes that may be written. -/
def RowC (w : World) (g : Nat) (l : List UInt8) : Prop := ∀ j (h : j < l.length), w.cell? ⟨g, j, none⟩ = some (.int .u8 (l[j].toNat : Int)) ∧ w.frozen? ⟨g, j, none⟩ = false
theorem RowC.set {w : World} {g : Nat} {l : List UInt8} (h : RowC w g l) (i : Nat) (_hi : i < l.length) (c : UInt8) : RowC (w.setCell ⟨g, i, none⟩ (.int .u8 (c.toNat : Int))) g (l.set i c) := fun j hj => by
  rw [List.length_set] at hj
  obtain ⟨h1, h2⟩ := h j hj
  refine ⟨?_, ?_⟩
  · by_cases e : i = j
    · subst e
      rw [World.cell?_setCell_same _ _ _ h1]
      simp
    · rw [World.cell?_setCell_other _ _ _ _ (by intro e'; injection e' with _ e'; exact e e'), h1, List.getElem_set_ne e]
  · rw [World.frozen?_setCell]
    exact h2
theorem RowC.of {B : Nat} {w : World} {v : Value} {l : List UInt8} (h : RowM B w v l) : ∃ g cap, v = .slice (some ⟨g, 0, none⟩) l.length cap ∧ B ≤ g ∧ RowC w g l := by
  have hc := h.cells
  obtain ⟨g, cap, cur, fz, rfl, hb, hg, hfz, hcap, hl, ht⟩ := h.ex
  refine ⟨g, cap, rfl, hb, fun j hj => ⟨?_, ?_⟩⟩
  · rcases hc with ⟨hv, _⟩ | ⟨ad, cap', hv, hc⟩
    · cases hv
    · injection hv with e1 e2 e3
      injection e1 with e1
      subst e1
      have := hc j hj
      rw [show (⟨g, 0, none⟩ : Addr).add j = ⟨g, j, none⟩ by simp [Addr.add]; omega] at this
      exact this
  · obtain ⟨a, b⟩ := fz
    simp only at hfz
    simp only [World.frozen?, hg, Bool.and_eq_false_iff, decide_eq_false_iff_not]
    omega
theorem RowC.string {w : World} {g cap : Nat} {l : List UInt8} (h : RowC w g l) : (convert 37 9 (.slice (some ⟨g, 0, none⟩) l.length cap)).run Tryd.prog w = .ok (.string ⟨l.toArray⟩) w :=
  run_convert_bytes_back (P := Tryd.prog) w 37 9 5 ⟨g, 0, none⟩ cap l Tryd.underlying37 Tryd.underlying5 Tryd.underlying9 (fun j hj => by
    rw [show (⟨g, 0, none⟩ : Addr).add j = ⟨g, j, none⟩ by simp [Addr.add]; omega]
    exact (h j hj).1)
theorem mix_at {l : List UInt8} {k : Nat} (hk : k < l.length) : ∃ h, (cleanL (l.take k) ++ l.drop k)[k]'h = l[k] := by
  have hl : (cleanL (l.take k)).length = k := by rw [clean_length, List.length_take]; omega
  refine ⟨by rw [List.length_append, hl, List.length_drop]; omega, ?_⟩
  rw [List.getElem_append_right (by omega)]
  simp [hl]
theorem mix_same {l : List UInt8} {k : Nat} (hk : k < l.length) (h : cleanC l[k] = l[k]) : cleanL (l.take k) ++ l.drop k = cleanL (l.take (k + 1)) ++ l.drop (k + 1) := by
  rw [List.take_succ_eq_append_getElem hk, List.drop_eq_getElem_cons hk]
  unfold cleanL
  rw [List.map_append, List.append_assoc, List.map_cons, List.map_nil, h]
  rfl
theorem mix_set {l : List UInt8} {k : Nat} (hk : k < l.length) (h : cleanC l[k] = 46) : (cleanL (l.take k) ++ l.drop k).set k 46 = cleanL (l.take (k + 1)) ++ l.drop (k + 1) := by
  have hl : (cleanL (l.take k)).length = k := by rw [clean_length, List.length_take]; omega
  rw [List.take_succ_eq_append_getElem hk, List.drop_eq_getElem_cons hk, List.set_append_right _ _ (by omega), hl, Nat.sub_self, List.set_cons_zero]
  unfold cleanL
  rw [List.map_append, List.append_assoc, List.map_cons, List.map_nil, h]
  rfl

set_option maxHeartbeats 2000000 in
set_option maxRecDepth 100000 in
theorem clean_any (s : ByteArray) (w : World) (hs : s.size ≤ 1000000000) :
    Calls Tryd.prog 17 #[.string s] w fun e w' => e = .returned (.string ⟨(cleanL s.data.toList).toArray⟩) ∧ Below w.heap.size w w' := by
  obtain ⟨l, hl⟩ : ∃ l, s.data.toList = l := ⟨_, rfl⟩
  have hll : l.length = s.size := by rw [← hl, Lib.size_eq]
  obtain ⟨v, W1, hconv, hrow, hb1⟩ := rowM_conv s w
  rw [hl] at hrow ⊢
  obtain ⟨g, cap, rfl, hg, hC⟩ := RowC.of hrow
  obtain ⟨N, hN⟩ : ∃ N, l.length = N := ⟨_, rfl⟩
  have HNL := Lib.hid hN
  have hNs : N ≤ 1000000000 := by omega
  rw [hN] at hconv
  have HC := Lib.hid hC
  have HB1 := Lib.hid hb1
  clear hl hll hrow hC hb1 hN
  go_enter Tryd.func17, Tryd.ntmps17
  go_wp2_with fail
  go_loopg [4] N (fun m i wr => ∃ k : Nat, m = N - k ∧ k ≤ N ∧ i = .int .i64 (k : Int) ∧ Below w.heap.size w wr ∧ Hid (RowC wr g (cleanL (l.take k) ++ l.drop k)))
  case atStart => exact ⟨0, rfl, Nat.zero_le _, rfl, HB1.out, HC⟩
  case round =>
    obtain ⟨k, rfl, hk, rfl, hb, HR⟩ := hrel
    by_cases hlt : k < N
    · have g1 : (k : Int) < (N : Int) := by omega
      have hkl : k < l.length := by rw [HNL.out]; exact hlt
      obtain ⟨hx, hat⟩ := mix_at hkl
      obtain ⟨c1, f1⟩ := HR.out k hx
      rw [hat] at c1
      obtain ⟨c, hc⟩ : ∃ c, l[k] = c := ⟨_, rfl⟩
      have HSAME := Lib.hid (fun h => mix_same hkl h)
      have HSET := Lib.hid (fun h => mix_set hkl h)
      rw [hc] at c1 HSAME HSET
      have h4 : c = 45 ∨ c = 10 ∨ c = 13 ∨ (c ≠ 45 ∧ c ≠ 10 ∧ c ≠ 13) := by
        by_cases q1 : c = 45
        · exact Or.inl q1
        · by_cases q2 : c = 10
          · exact Or.inr (Or.inl q2)
          · by_cases q3 : c = 13
            · exact Or.inr (Or.inr (Or.inl q3))
            · exact Or.inr (Or.inr (Or.inr ⟨q1, q2, q3⟩))
      rcases h4 with h | h | h | ⟨n1, n2, n3⟩
      · subst h
        have c2 : wr.cell? ⟨g, k, none⟩ = some (.int .u8 45) := c1
        have HS := Lib.hid (HSET.out (by decide))
        have HR2 := Lib.hid (HR.out.set k hx 46)
        clear c1 hc
        go_wp2_with fail
        go_roundg (N - (k + 1))
        case measure => omega
        case rel => exact ⟨k + 1, rfl, by omega, by go_num, hb.setCell (p := ⟨g, k, none⟩) hg _, Lib.hid (by rw [← HS.out]; exact HR2.out)⟩
      · subst h
        have c2 : wr.cell? ⟨g, k, none⟩ = some (.int .u8 10) := c1
        have HS := Lib.hid (HSET.out (by decide))
        have HR2 := Lib.hid (HR.out.set k hx 46)
        clear c1 hc
        go_wp2_with fail
        go_roundg (N - (k + 1))
        case measure => omega
        case rel => exact ⟨k + 1, rfl, by omega, by go_num, hb.setCell (p := ⟨g, k, none⟩) hg _, Lib.hid (by rw [← HS.out]; exact HR2.out)⟩
      · subst h
        have c2 : wr.cell? ⟨g, k, none⟩ = some (.int .u8 13) := c1
        have HS := Lib.hid (HSET.out (by decide))
        have HR2 := Lib.hid (HR.out.set k hx 46)
        clear c1 hc
        go_wp2_with fail
        go_roundg (N - (k + 1))
        case measure => omega
        case rel => exact ⟨k + 1, rfl, by omega, by go_num, hb.setCell (p := ⟨g, k, none⟩) hg _, Lib.hid (by rw [← HS.out]; exact HR2.out)⟩
      · have HS := Lib.hid (HSAME.out (by unfold cleanC; rw [if_neg (by rintro (h | h | h) <;> contradiction)]))
        have b1 : ((c.toNat : Int) == 45) = false := by rw [beq_eq_false_iff_ne]; intro h; exact n1 (UInt8.toNat_inj.1 (by show c.toNat = 45; omega))
        have b2 : ((c.toNat : Int) == 10) = false := by rw [beq_eq_false_iff_ne]; intro h; exact n2 (UInt8.toNat_inj.1 (by show c.toNat = 10; omega))
        have b3 : ((c.toNat : Int) == 13) = false := by rw [beq_eq_false_iff_ne]; intro h; exact n3 (UInt8.toNat_inj.1 (by show c.toNat = 13; omega))
        clear n1 n2 n3 hc
        go_wp2_with fail
        go_roundg (N - (k + 1))
        case measure => omega
        case rel => exact ⟨k + 1, rfl, by omega, by go_num, hb, Lib.hid (by rw [← HS.out]; exact HR.out)⟩
    · have g1 : ¬ (k : Int) < (N : Int) := by omega
      have hkN : k = N := by omega
      subst hkN
      have h9 := RowC.string (cap := cap) HR.out
      rw [List.take_of_length_le (by rw [HNL.out]; exact Nat.le_refl _), List.drop_eq_nil_of_le (by rw [HNL.out]; exact Nat.le_refl _), List.append_nil, clean_length, HNL.out] at h9
      go_wp2_with fail
      go_ret
      exact ⟨rfl, hb⟩
end Go.Proofs.YtkmopneeafbeaaaDoor.Pt
