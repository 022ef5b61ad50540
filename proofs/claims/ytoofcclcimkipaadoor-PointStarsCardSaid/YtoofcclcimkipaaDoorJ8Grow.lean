/-
  The library's slices.Grow of a slice that is nil, at texts and at values: an empty row of the call's own. Condition: at most 65536 elements.
-/
import Derived.Test.YtoofcclcimkipaaDoorKit
import Derived.Test.YtoofcclcimkipaaDoorJ8Rows
import Derived.Shelf.Spec.SlicesGrow
namespace Go.Proofs.YtoofcclcimkipaaDoor.J8
open Go Go.RowKit Go.Joins Kit J7

def growRenS : Go.Shelf.Ren := ⟨fun | 4 => 58 | n => n, fun | 0 => 0 | 3 => 3 | 4 => 4 | 9 => 9 | 20 => 20 | 22 => 22 | 25 => 9 | n => n, fun n => n⟩
def growRenN : Go.Shelf.Ren := ⟨fun | 4 => 60 | n => n, fun | 0 => 0 | 3 => 3 | 4 => 4 | 9 => 9 | 20 => 20 | 22 => 23 | 25 => 25 | n => n, fun n => n⟩
theorem growLayS : Go.Proofs.Lays8.n4 Tryd.prog growRenS := {
  mixed := by kernel_rfl
  f4 := ⟨"slices.Grow[[]string,string]", by decide, Tryd.func58.trans (congrArg some (by kernel_rfl))⟩
  t0 := Tryd.underlying0
  a0 := Tryd.isAgg0
  z0 := Tryd.sizeOf0
  v0 := Tryd.zeroValue0
  t3 := Tryd.underlying3
  a3 := Tryd.isAgg3
  z3 := Tryd.sizeOf3
  v3 := Tryd.zeroValue3
  t4 := Tryd.underlying4
  a4 := Tryd.isAgg4
  z4 := Tryd.sizeOf4
  v4 := Tryd.zeroValue4
  t9 := Tryd.underlying9
  a9 := Tryd.isAgg9
  z9 := Tryd.sizeOf9
  v9 := Tryd.zeroValue9
  t20 := Tryd.underlying20
  a20 := Tryd.isAgg20
  z20 := Tryd.sizeOf20
  v20 := Tryd.zeroValue20
  t22 := Tryd.underlying22
  a22 := Tryd.isAgg22
  z22 := Tryd.sizeOf22
  v22 := Tryd.zeroValue22 }
theorem growLayN : Go.Proofs.Lays8.n4 Tryd.prog growRenN := {
  mixed := by kernel_rfl
  f4 := ⟨"slices.Grow[[]pillarbox/api.Node,pillarbox/api.Node]", by decide, Tryd.func60.trans (congrArg some (by kernel_rfl))⟩
  t0 := Tryd.underlying0
  a0 := Tryd.isAgg0
  z0 := Tryd.sizeOf0
  v0 := Tryd.zeroValue0
  t3 := Tryd.underlying3
  a3 := Tryd.isAgg3
  z3 := Tryd.sizeOf3
  v3 := Tryd.zeroValue3
  t4 := Tryd.underlying4
  a4 := Tryd.isAgg4
  z4 := Tryd.sizeOf4
  v4 := Tryd.zeroValue4
  t9 := Tryd.underlying9
  a9 := Tryd.isAgg9
  z9 := Tryd.sizeOf9
  v9 := Tryd.zeroValue9
  t20 := Tryd.underlying20
  a20 := Tryd.isAgg20
  z20 := Tryd.sizeOf20
  v20 := Tryd.zeroValue20
  t22 := Tryd.underlying23
  a22 := Tryd.isAgg23
  z22 := Tryd.sizeOf23
  v22 := Tryd.zeroValue23 }
theorem zero_size (c : Array Value) (n : Nat) : (Builtin.zeroCells c n).size = n * c.size := by
  induction n with
  | zero => simp [Builtin.zeroCells]
  | succ n ih => simp [Builtin.zeroCells]
/-- A new row of nothing, as Grow makes it. -/
theorem grown_row (w : World) (T : TypeId) (c : Array Value) (n C k : Nat) (hk : c.size = k) (hC : n ≤ C) (hm : C ≤ maxLen) :
    (w.drew.alloc (.cells (#[] ++ Builtin.zeroCells c n ++ Builtin.zeroCells c (C - n)) T)).ownsRow w.heap.size T k (.slice (some ⟨w.heap.size, 0, none⟩) 0 C) 0 [] := by
  refine ⟨by simp, Or.inr ⟨w.heap.size, C, _, rfl, Nat.le_refl _, Kit.fresh_block w.drew _ _, Nat.zero_le _, hm, ?_, by simp⟩⟩
  rw [Array.size_append, Array.size_append, zero_size, zero_size, hk]
  simp
  rw [← Nat.add_mul]
  congr 1
  omega
theorem below_alloc_drew (w : World) (o : Obj) : Below w.heap.size w (w.drew.alloc o) := ((Below.refl _ w).drew).alloc (Nat.le_refl _) o
theorem growS_any (n : Nat) (w : World) (hn : n ≤ 65536) :
    Calls Tryd.prog 58 #[.slice none 0 0, .int .i64 (n : Int)] w fun e w' => ∃ v, e = .returned v ∧ w'.ownsRow w.heap.size 9 1 v 0 [] ∧ Below w.heap.size w w' := by
  by_cases h0 : n = 0
  · subst h0
    refine (Any8.slices_Grow_room growLayS none 0 0 0 w (Nat.le_refl _) (by decide) (by decide) (by decide)).mono ?_
    rintro e w' ⟨rfl, rfl⟩
    exact ⟨_, rfl, World.ownsRow_nil _ _ _ _, Below.refl _ _⟩
  · obtain ⟨i0, hi, hz0, hz1, hz2⟩ := info_parts info8S
    refine (Any8.slices_Grow_grow growLayS i0 _ hi hz0 (by rw [hz1]; decide) none 0 0 n [] w (Nat.le_refl _) (by omega) (by rw [hz2]; omega) (by omega) (by simp) (fun _ => rfl) (fun a h => by cases h)).mono ?_
    rintro e w' ⟨rfl, rfl⟩
    refine ⟨_, rfl, ?_, below_alloc_drew _ _⟩
    have h1 := grownCap_ge w (0 + n) 0 (growRenS.t 25)
    have h2 := grownCap_le_maxLen w (0 + n) 0 (growRenS.t 25) (by unfold maxLen; omega)
    have h3 := grown_row w 9 (Value.string ⟨#[]⟩).cells (0 + n) (grownCap w (0 + n) 0 (growRenS.t 25)) 1 rfl h1 h2
    exact h3
theorem growN_any (n : Nat) (w : World) (hn : n ≤ 65536) :
    Calls Tryd.prog 60 #[.slice none 0 0, .int .i64 (n : Int)] w fun e w' => ∃ v, e = .returned v ∧ w'.ownsRow w.heap.size 25 5 v 0 [] ∧ Below w.heap.size w w' := by
  by_cases h0 : n = 0
  · subst h0
    refine (Any8.slices_Grow_room growLayN none 0 0 0 w (Nat.le_refl _) (by decide) (by decide) (by decide)).mono ?_
    rintro e w' ⟨rfl, rfl⟩
    exact ⟨_, rfl, World.ownsRow_nil _ _ _ _, Below.refl _ _⟩
  · obtain ⟨i0, hi, hz0, hz1, hz2⟩ := info_parts info8N
    refine (Any8.slices_Grow_grow growLayN i0 _ hi hz0 (by rw [hz1]; decide) none 0 0 n [] w (Nat.le_refl _) (by omega) (by rw [hz2]; omega) (by omega) (by simp) (fun _ => rfl) (fun a h => by cases h)).mono ?_
    rintro e w' ⟨rfl, rfl⟩
    refine ⟨_, rfl, ?_, below_alloc_drew _ _⟩
    have h1 := grownCap_ge w (0 + n) 0 (growRenN.t 25)
    have h2 := grownCap_le_maxLen w (0 + n) 0 (growRenN.t 25) (by unfold maxLen; omega)
    have h3 := grown_row w 25 (Value.agg #[.int .i64 0, .int .i64 0, .string ⟨#[]⟩, .slice none 0 0, .slice none 0 0]).cells (0 + n) (grownCap w (0 + n) 0 (growRenN.t 25)) 5 rfl h1 h2
    exact h3
end Go.Proofs.YtoofcclcimkipaaDoor.J8
