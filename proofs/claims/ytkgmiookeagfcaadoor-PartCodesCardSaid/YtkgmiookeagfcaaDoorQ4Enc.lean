/-
  quoted.isPlain tells whether a byte stands for itself; quoted.Encode's closure puts a piece behind what a Builder holds, ahead of it the end of a line where the piece would make it too long; quoted.Encode returns a text's quoted-printable. Condition: the text has at most 2^40 bytes.
-/
import Derived.Test.YtkgmiookeagfcaaDoorQ4Plain
import Derived.Test.YtkgmiookeagfcaaDoorBld
import Derived.Test.YtkgmiookeagfcaaDoorShelf
import Derived.IntWalk
import Derived.Deep.RegionWith
import Derived.Deep.CutRange
namespace Go.Proofs.YtkgmiookeagfcaaDoor.Q4
open Go Go.RowKit Go.Joins Kit

theorem isPlain_any (c : UInt8) (w : World) :
    Calls Tryd.prog 39 #[.int .u8 (c.toNat : Int)] w fun e w' => e = .returned (.bool (flatB c.toNat)) ∧ w = w' := by
  have hc := c.toNat_lt
  rcases (show c.toNat ≤ 32 ∨ 126 < c.toNat ∨ c.toNat = 61 ∨ (32 < c.toNat ∧ c.toNat ≤ 126 ∧ c.toNat ≠ 61) by omega) with h | h | h | ⟨h, h1, h2⟩
  · have g : (c.toNat : Int) ≤ 32 := by omega
    have hf : Hid (flatB c.toNat = false) := by show _ = _; unfold flatB; simp; omega
    go_enter Tryd.func39, Tryd.ntmps39
    go_wp2
    go_ret
    exact ⟨ret_bool hf.out.symm, rfl⟩
  · have g : 126 < (c.toNat : Int) := by omega
    have hf : Hid (flatB c.toNat = false) := by show _ = _; unfold flatB; simp; omega
    go_enter Tryd.func39, Tryd.ntmps39
    go_wp2
    go_ret
    exact ⟨ret_bool hf.out.symm, rfl⟩
  · have g : (c.toNat : Int) = 61 := by omega
    have hf : Hid (flatB c.toNat = false) := by show _ = _; rw [h]; rfl
    rw [g]
    go_enter Tryd.func39, Tryd.ntmps39
    go_wp2
    go_ret
    exact ⟨ret_bool hf.out.symm, rfl⟩
  · have g : 32 < (c.toNat : Int) := by omega
    have g1 : (c.toNat : Int) ≤ 126 := by omega
    have g2 : ((c.toNat : Int) == 61) = false := by rw [beq_eq_false_iff_ne]; omega
    have hf : Hid (flatB c.toNat = true) := by show _ = _; unfold flatB; simp; omega
    go_enter Tryd.func39, Tryd.ntmps39
    go_wp2
    go_ret
    exact ⟨ret_bool (by rw [hf.out, bne, g2]; rfl), rfl⟩

/-! ### The closure -/
/-- What the closure goes by: the Builder's bytes, how far the line is filled. -/
structure Held (B b f : Nat) (l : List UInt8) (n : Nat) (w : World) : Prop where
  bld : Lib.IsBuilderF 57 5 B b (Lib.byteCells l) w
  one : w.heap[f]? = some (.cells #[.int .i64 (n : Int)] 3 (0, 0))
  room : B ≤ w.heap.size
theorem Held.cell {B b f : Nat} {l : List UInt8} {n : Nat} {w : World} (h : Held B b f l n w) : w.cell? ⟨f, 0, none⟩ = some (.int .i64 (n : Int)) := cell_of_one h.one
theorem Held.free {B b f : Nat} {l : List UInt8} {n : Nat} {w : World} (h : Held B b f l n w) : w.frozen? ⟨f, 0, none⟩ = false := free_of_one h.one
theorem Held.set {B b f : Nat} {l : List UInt8} {n : Nat} {w : World} (h : Held B b f l n w) (hfb : f ≠ b) (m : Nat) : Held B b f l m (w.setCell ⟨f, 0, none⟩ (.int .i64 (m : Int))) :=
  ⟨Bld.store h.bld h.one (by decide) hfb _ rfl _, one_setCell h.one, by simpa [World.setCell] using h.room⟩
theorem Held.write {B b f : Nat} {l l' : List UInt8} {n : Nat} {w w' : World} (h : Held B b f l n w) (hfb : f ≠ b) (h1 : Lib.BuilderAtF 57 5 B b (.pointer (some ⟨b, 0, none⟩)) (Lib.byteCells l') w') (hb : Below B w w') (hk : Lib.OthersKept 5 (some b) w w') : Held B b f l' n w' :=
  ⟨Or.inr h1, hk f _ h.one (fun e => hfb (Option.some.inj e)) (fun c fz e => by simp at e), Nat.le_trans h.room hb.size⟩
theorem Held.alloc {B b f : Nat} {l : List UInt8} {n : Nat} {w : World} (h : Held B b f l n w) (o : Obj) : Held B b f l n (w.alloc o) :=
  ⟨h.bld.alloc o, Bld.old_one h.one o, Nat.le_trans h.room (Nat.le_of_lt (by have := lt_alloc w o; exact Nat.lt_of_lt_of_le (Nat.lt_succ_self _) this))⟩
theorem Held.drew {B b f : Nat} {l : List UInt8} {n : Nat} {w : World} (h : Held B b f l n w) : Held B b f l n w.drew := ⟨h.bld, h.one, h.room⟩

set_option maxRecDepth 100000 in
theorem put_any (B b f : Nat) (hB : B ≤ f) (hfb : f ≠ b) (l : List UInt8) (n : Nat) (p : ByteArray) (w : World) (h : Held B b f l n w) (hn : n ≤ 75) (hp : p.size ≤ 3) (hl : l.length ≤ 8796093022208) :
    Calls Tryd.prog 37 #[.string p, .pointer (some ⟨f, 0, none⟩), .pointer (some ⟨b, 0, none⟩)] w fun e w' => e = .returned (.tuple #[]) ∧ (Held B b f (l ++ (brk n p.size ++ p.data.toList)) (fill n p.size) w' ∧ Below B w w') := by
  by_cases hx : 75 < n + p.size
  · have g : (75 : Int) < n + p.size := by omega
    have hbr : Hid (l ++ (brk n p.size ++ p.data.toList) = (l ++ [61, 13, 10]) ++ p.data.toList ∧ fill n p.size = 0 + p.size) := by
      show _ ∧ _
      unfold brk fill
      rw [if_pos hx, if_pos hx, List.append_assoc]
      exact ⟨rfl, by omega⟩
    have hc := h.cell
    go_enter Tryd.func37, Tryd.ntmps37
    go_wp2_with fail
    refine (Tryd.Builder_WriteString_k B b _ ⟨#[61, 13, 10]⟩ w h.bld (by rw [Lib.byteCells_length]; show l.length + 3 ≤ _; omega) h.room).mono ?_
    rintro e w1 ⟨rfl, h1, hb1, hk1⟩
    rw [Bld.str_cells] at h1
    have H1 := h.write hfb h1 hb1 hk1
    have hc1 := H1.cell
    have hz1 := H1.free
    have H2 := H1.set hfb 0
    have hb2 := hb1.setCell (p := ⟨f, 0, none⟩) hB (.int .i64 ((0 : Nat) : Int))
    clear hc
    go_wp2_with fail
    refine (Tryd.Builder_WriteString_k B b _ p _ H2.bld (by rw [Lib.byteCells_length, List.length_append]; show l.length + 3 + p.size ≤ _; omega) H2.room).mono ?_
    rintro e w3 ⟨rfl, h3, hb3, hk3⟩
    rw [Bld.str_cells] at h3
    have H3 := H2.write hfb h3 hb3 hk3
    have hc3 := H3.cell
    have hz3 := H3.free
    have H4 := H3.set hfb (0 + p.size)
    have hb4 := (hb2.trans hb3).setCell (p := ⟨f, 0, none⟩) hB (.int .i64 ((0 + p.size : Nat) : Int))
    clear hc1 hz1
    go_wp2
    go_end0
    rw [hbr.out.1, hbr.out.2]
    exact ⟨rfl, by simpa using H4, by simpa using hb4⟩
  · have g : (n : Int) + p.size ≤ 75 := by omega
    have hbr : Hid (l ++ (brk n p.size ++ p.data.toList) = l ++ p.data.toList ∧ fill n p.size = n + p.size) := by
      show _ ∧ _
      unfold brk fill
      rw [if_neg hx, if_neg hx, List.nil_append]
      exact ⟨rfl, rfl⟩
    have hc := h.cell
    go_enter Tryd.func37, Tryd.ntmps37
    go_wp2_with fail
    refine (Tryd.Builder_WriteString_k B b _ p w h.bld (by rw [Lib.byteCells_length]; omega) h.room).mono ?_
    rintro e w3 ⟨rfl, h3, hb3, hk3⟩
    rw [Bld.str_cells] at h3
    have H3 := h.write hfb h3 hb3 hk3
    have hc3 := H3.cell
    have hz3 := H3.free
    have H4 := H3.set hfb (n + p.size)
    have hb4 := hb3.setCell (p := ⟨f, 0, none⟩) hB (.int .i64 ((n + p.size : Nat) : Int))
    clear hc
    go_wp2
    go_end0
    rw [hbr.out.1, hbr.out.2]
    exact ⟨rfl, by simpa using H4, by simpa using hb4⟩
end Go.Proofs.YtkgmiookeagfcaaDoor.Q4
