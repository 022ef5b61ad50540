/-
  The law LookTexts holds as its card says, for every input: it returns true, and what it is handed reads as it did. Conditions: none of its own.
-/
import Derived.Test.YtnnbbjdidbggmaaGreatDoorF0Lines
import Derived.Test.YtnnbbjdidbggmaaGreatDoorLkPlain
import Derived.Test.YtnnbbjdidbggmaaGreatDoorPtWell
import Derived.Test.YtnnbbjdidbggmaaGreatDoorPtSizes
import Derived.Test.YtnnbbjdidbggmaaGreatDoorLkLow
import Derived.Test.YtnnbbjdidbggmaaGreatDoorPtMem
import Derived.Test.YtnnbbjdidbggmaaGreatDoorPtLine
import Derived.Test.YtnnbbjdidbggmaaGreatDoorU8Clone
import Derived.Test.YtnnbbjdidbggmaaGreatDoorPtMadeP
import Derived.Test.YtnnbbjdidbggmaaGreatDoorU8Valid
import Derived.Test.YtnnbbjdidbggmaaGreatDoorF0Split
import Derived.Test.YtnnbbjdidbggmaaGreatDoorPtType
import Derived.Test.YtnnbbjdidbggmaaGreatDoorU8Put
import Derived.Test.YtnnbbjdidbggmaaGreatDoorU8RefGet
import Derived.Test.YtnnbbjdidbggmaaGreatDoorKit
import Derived.Test.YtnnbbjdidbggmaaGreatDoorCards
import Derived.Test.YtnnbbjdidbggmaaGreatDoorTie
import Derived.Lib.MapLaws
import Derived.Lib.SpaceUEq
import Derived.Lib.Join
import Derived.Lib.Bytealg
import Derived.Lib.IndexBytes
import Derived.Laws.ResultCell
import Derived.Lib.LaidU8
import Derived.RangeFuncNested
import Derived.Deep.CutRange
import Derived.Deep.RegionWith
import Derived.OpenShut
import Derived.ProofKit
import Derived.Deep.DeepHandedRow
import Derived.Lib.LaidTab
import Derived.Lay
import Derived.LaidSub
import Derived.MakeChecks
import Derived.ShutString
import Derived.Carry
namespace Go.Proofs.YtnnbbjdidbggmaaGreatDoor.Lk
open Go

def gapB (c : UInt8) : Bool := decide (c.toNat ≤ 32)
/-- The fields that are told, and the one that is under way. -/
def gapS (st : List (List UInt8) × List UInt8) (c : UInt8) : List (List UInt8) × List UInt8 :=
  if gapB c then (if st.2 = [] then st else (st.1 ++ [st.2], [])) else (st.1, st.2 ++ [c])
def gapRun (l : List UInt8) : List (List UInt8) × List UInt8 := l.foldl gapS ([], [])
def endG (st : List (List UInt8) × List UInt8) : List (List UInt8) := if st.2 = [] then st.1 else st.1 ++ [st.2]
def fldsL (l : List UInt8) : List (List UInt8) := endG (gapRun l)
theorem gap_snoc (l : List UInt8) (c : UInt8) : gapRun (l ++ [c]) = gapS (gapRun l) c := by simp [gapRun]
theorem gap_more : ∀ (m l : List UInt8) (_ : ∀ c ∈ m, gapB c = false), gapRun (l ++ m) = ((gapRun l).1, (gapRun l).2 ++ m)
  | [], l, _ => by simp
  | c :: m, l, h => by
    have h1 := h c (by simp)
    have h2 := gap_more m (l ++ [c]) (fun x hx => h x (by simp [hx]))
    rw [List.append_assoc, List.singleton_append, gap_snoc] at h2
    rw [h2]
    simp [gapS, h1]
theorem gap_at (l : List UInt8) (k : Nat) (h : k < l.length) : gapRun (l.take (k + 1)) = gapS (gapRun (l.take k)) l[k] := by
  rw [List.take_succ_eq_append_getElem h, gap_snoc]
/-- What is told, and what is under way, has no gap in it; no field is empty. -/
def GInv (st : List (List UInt8) × List UInt8) : Prop := (∀ f ∈ st.1, f ≠ [] ∧ ∀ c ∈ f, gapB c = false) ∧ ∀ c ∈ st.2, gapB c = false
theorem gapS_inv {st : List (List UInt8) × List UInt8} (h : GInv st) (c : UInt8) : GInv (gapS st c) := by
  unfold gapS
  split
  · split
    · exact h
    · rename_i h1 h2
      refine ⟨fun f hf => ?_, fun x hx => by simp at hx⟩
      rcases List.mem_append.1 hf with hf | hf
      · exact h.1 f hf
      · rw [List.mem_singleton] at hf
        subst hf
        exact ⟨h2, h.2⟩
  · rename_i h1
    refine ⟨h.1, fun x hx => ?_⟩
    rcases List.mem_append.1 hx with hx | hx
    · exact h.2 x hx
    · rw [List.mem_singleton] at hx
      subst hx
      simpa using h1
theorem foldS_inv : ∀ (l : List UInt8) {st : List (List UInt8) × List UInt8} (_ : GInv st), GInv (l.foldl gapS st)
  | [], _, h => h
  | c :: r, _, h => foldS_inv r (gapS_inv h c)
theorem gap_inv (l : List UInt8) : GInv (gapRun l) := foldS_inv l ⟨fun f h => by simp at h, fun c h => by simp at h⟩
theorem flds_inv (l : List UInt8) : ∀ f ∈ fldsL l, f ≠ [] ∧ ∀ c ∈ f, gapB c = false := by
  intro f hf
  unfold fldsL endG at hf
  split at hf
  · exact (gap_inv l).1 f hf
  · rename_i h
    rcases List.mem_append.1 hf with hf | hf
    · exact (gap_inv l).1 f hf
    · rw [List.mem_singleton] at hf
      subst hf
      exact ⟨h, (gap_inv l).2⟩

theorem gapS_pre (st : List (List UInt8) × List UInt8) (c : UInt8) : st.1 <+: (gapS st c).1 := by
  unfold gapS
  split
  · split
    · exact List.prefix_refl _
    · exact List.prefix_append _ _
  · exact List.prefix_refl _
theorem fold_pre : ∀ (m : List UInt8) (st : List (List UInt8) × List UInt8), st.1 <+: (m.foldl gapS st).1
  | [], _ => List.prefix_refl _
  | c :: m, st => (gapS_pre st c).trans (fold_pre m (gapS st c))
theorem told_pre (l : List UInt8) (k : Nat) : (gapRun (l.take k)).1 <+: fldsL l := by
  have h : gapRun l = (l.drop k).foldl gapS (gapRun (l.take k)) := by
    unfold gapRun
    rw [← List.foldl_append, List.take_append_drop]
  have h1 := fold_pre (l.drop k) (gapRun (l.take k))
  rw [← h] at h1
  refine h1.trans ?_
  unfold fldsL endG
  split
  · exact List.prefix_refl _
  · exact List.prefix_append _ _

/-! ### The fields put together -/
def okFrom (pb : Bool) : List UInt8 → Prop
  | [] => True
  | c :: r => 32 ≤ c.toNat ∧ (c = 32 → pb = false) ∧ okFrom (c == 32) r
theorem gap_no {c : UInt8} (h : gapB c = false) : 32 < c.toNat ∧ c ≠ 32 := by
  unfold gapB at h
  rw [decide_eq_false_iff_not] at h
  refine ⟨by omega, fun e => ?_⟩
  subst e
  exact h (by decide)
theorem ok_field : ∀ (f : List UInt8) (pb : Bool) (rest : List UInt8) (_ : f ≠ []) (_ : ∀ c ∈ f, gapB c = false) (_ : okFrom false rest), okFrom pb (f ++ rest)
  | [], _, _, h, _, _ => absurd rfl h
  | [c], pb, rest, _, h, hr => by
    have h1 := gap_no (h c (by simp))
    have h2 : (c == 32) = false := by rw [beq_eq_false_iff_ne]; exact h1.2
    rw [List.singleton_append, okFrom, h2]
    exact ⟨by omega, fun e => absurd e h1.2, hr⟩
  | c :: d :: r, pb, rest, _, h, hr => by
    have h1 := gap_no (h c (by simp))
    rw [List.cons_append, okFrom]
    exact ⟨by omega, fun e => absurd e h1.2, ok_field (d :: r) _ rest (by simp) (fun x hx => h x (by simp [hx])) hr⟩
theorem ok_tail : ∀ (fs : List (List UInt8)) (_ : ∀ f ∈ fs, f ≠ [] ∧ ∀ c ∈ f, gapB c = false), okFrom false (Lib.joinTail [32] fs)
  | [], _ => trivial
  | f :: r, h => by
    have h1 := h f (by simp)
    have h2 := ok_tail r (fun x hx => h x (by simp [hx]))
    rw [show Lib.joinTail [32] (f :: r) = 32 :: (f ++ Lib.joinTail [32] r) by simp [Lib.joinTail], okFrom]
    exact ⟨by decide, fun _ => rfl, ok_field f _ _ h1.1 h1.2 h2⟩
theorem ok_join (fs : List (List UInt8)) (h : ∀ f ∈ fs, f ≠ [] ∧ ∀ c ∈ f, gapB c = false) : okFrom true (Lib.join fs [32]) := by
  cases fs with
  | nil => trivial
  | cons f r =>
    rw [Lib.join_cons]
    exact ok_field f _ _ (h f (by simp)).1 (h f (by simp)).2 (ok_tail r (fun x hx => h x (by simp [hx])))
theorem ok_prefix : ∀ {p l : List UInt8} {pb : Bool} (_ : p <+: l) (_ : okFrom pb l), okFrom pb p
  | [], _, _, _, _ => trivial
  | c :: p, l, pb, hp, h => by
    obtain ⟨t, rfl⟩ := hp
    rw [List.cons_append, okFrom] at h
    rw [okFrom]
    exact ⟨h.1, h.2.1, ok_prefix ⟨t, rfl⟩ h.2.2⟩
/-- What the law asks at each place. -/
theorem ok_at : ∀ {p : List UInt8} {pb : Bool} (_ : okFrom pb p) (i : Nat) (hi : i < p.length), 32 ≤ p[i].toNat ∧ (p[i] = 32 → (i = 0 ∧ pb = false) ∨ ∃ h : 0 < i, p[i - 1]'(by omega) ≠ 32)
  | [], _, _, i, hi => by simp at hi
  | c :: r, pb, h, 0, _ => by
    rw [okFrom] at h
    exact ⟨h.1, fun e => Or.inl ⟨rfl, h.2.1 e⟩⟩
  | c :: r, pb, h, i + 1, hi => by
    rw [okFrom] at h
    have ih := ok_at h.2.2 i (by simpa using hi)
    refine ⟨ih.1, fun e => Or.inr ⟨by omega, ?_⟩⟩
    rcases ih.2 e with ⟨rfl, h0⟩ | ⟨h0, h1⟩
    · show c ≠ 32
      rw [beq_eq_false_iff_ne] at h0
      exact h0
    · obtain ⟨j, rfl⟩ : ∃ j, i = j + 1 := ⟨i - 1, by omega⟩
      exact h1

/-! ### Runes -/
theorem dec_high (n b0 b1 b2 b3 : Nat) (h : 128 ≤ b0) : 128 ≤ (Lib.decodeN n b0 b1 b2 b3).1 ∧ 1 ≤ (Lib.decodeN n b0 b1 b2 b3).2 ∧ (Lib.decodeN n b0 b1 b2 b3).2 ≤ 4 := by
  rcases Lib.decodeN_shape n b0 b1 b2 b3 with ⟨c, _⟩ | ⟨_, _, _, c, e⟩ | ⟨_, _, _, _, c, _, e⟩ | ⟨_, _, _, _, _, c, _, e⟩ | e
  · omega
  · rw [e]; exact ⟨c, by show 1 ≤ 2; omega, by show 2 ≤ 4; omega⟩
  · rw [e]; exact ⟨by show 128 ≤ _; omega, by show 1 ≤ 3; omega, by show 3 ≤ 4; omega⟩
  · rw [e]; exact ⟨by show 128 ≤ _; omega, by show 1 ≤ 4; omega, by show 4 ≤ 4; omega⟩
  · rw [e]; decide
theorem dec_low (n b0 b1 b2 b3 : Nat) (h : b0 < 128) : Lib.decodeN n b0 b1 b2 b3 = (b0, 1) := Lib.decodeN_ascii n b0 b1 b2 b3 h
/-- All bytes of a rune that is none of ASCII are high, and they are there. -/
theorem dec_bytes (n b0 b1 b2 b3 : Nat) (hn : 1 ≤ n) : (Lib.decodeN n b0 b1 b2 b3).2 ≤ n ∧ (2 ≤ (Lib.decodeN n b0 b1 b2 b3).2 → 128 ≤ b1) ∧ (3 ≤ (Lib.decodeN n b0 b1 b2 b3).2 → 128 ≤ b2) ∧ (4 ≤ (Lib.decodeN n b0 b1 b2 b3).2 → 128 ≤ b3) := by
  obtain ⟨h1, h2, h3, h4⟩ := Lib.decodeN_conts n b0 b1 b2 b3
  refine ⟨?_, fun e => by have := (h1 e).1; omega, fun e => by have := (h2 e).1; omega, fun e => by have := (h3 e).1; omega⟩
  rcases (by omega : (Lib.decodeN n b0 b1 b2 b3).2 ≤ 1 ∨ (Lib.decodeN n b0 b1 b2 b3).2 = 2 ∨ (Lib.decodeN n b0 b1 b2 b3).2 = 3 ∨ (Lib.decodeN n b0 b1 b2 b3).2 = 4) with e | e | e | e
  · omega
  · have := (h1 (by omega)).2; omega
  · have := (h2 (by omega)).2; omega
  · have := (h3 (by omega)).2; omega
end Go.Proofs.YtnnbbjdidbggmaaGreatDoor.Lk
namespace Go.Proofs.YtnnbbjdidbggmaaGreatDoor.Lk
open Go Go.RowKit Go.Joins Go.Shelf Kit F0

attribute [local go_sem] Oper.semAt_some

/-- What the library's decoder answers, where T holds. -/
def DecOk (T : World → Prop) : Prop := ∀ (s : ByteArray) (w : World), T w → Calls Tryz.prog 56 #[.string s] w fun e w' => e = .returned (.tuple #[.int .i32 ((Lib.decodeGo s).1 : Int), .int .i64 ((Lib.decodeGo s).2 : Int)]) ∧ Below w.heap.size w w'
theorem gap_count (l : List UInt8) : (gapRun l).1.length ≤ l.length := by
  have h : ∀ (l : List UInt8) (st : List (List UInt8) × List UInt8), (l.foldl gapS st).1.length ≤ st.1.length + l.length := by
    intro l
    induction l with
    | nil => intro st; exact Nat.le_refl _
    | cons c r ih =>
      intro st
      have h1 := ih (gapS st c)
      have h2 : (gapS st c).1.length ≤ st.1.length + 1 := by
        unfold gapS
        split
        · split
          · omega
          · simp
        · simp
      rw [List.foldl_cons, List.length_cons]
      omega
  have := h l ([], [])
  simpa [gapRun] using this
theorem get_list (X : ByteArray) (j : Nat) (h : j < X.size) : X.get! j = X.data.toList[j]'(by rw [← Lib.size_eq]; exact h) := by
  rw [show X.get! j = X.data[j]! from rfl, getElem!_pos X.data j h]
  simp
theorem dec_ext (X : ByteArray) (h : 0 < X.size) :
    ((X.data.toList[0]'(by rw [← Lib.size_eq]; exact h)).toNat < 128 → Lib.decodeGo X = ((X.data.toList[0]'(by rw [← Lib.size_eq]; exact h)).toNat, 1)) ∧
    (128 ≤ (X.data.toList[0]'(by rw [← Lib.size_eq]; exact h)).toNat → 128 ≤ (Lib.decodeGo X).1 ∧ 1 ≤ (Lib.decodeGo X).2 ∧ (Lib.decodeGo X).2 ≤ X.size ∧ ∀ x ∈ X.data.toList.take (Lib.decodeGo X).2, gapB x = false) := by
  have e0 : Lib.decodeGo X = Lib.decodeN X.size (X.get! 0).toNat (X.get! 1).toNat (X.get! 2).toNat (X.get! 3).toNat := by
    unfold Lib.decodeGo
    rw [if_neg (by omega), Lib.decode_at]
    rfl
  rw [e0, get_list X 0 h]
  have hg : ∀ c : UInt8, 128 ≤ c.toNat → gapB c = false := fun c hc => by unfold gapB; rw [decide_eq_false_iff_not]; omega
  refine ⟨fun hc => dec_low _ _ _ _ _ hc, fun hc => ?_⟩
  obtain ⟨h1, h2, h3⟩ := dec_high X.size _ (X.get! 1).toNat (X.get! 2).toNat (X.get! 3).toNat hc
  obtain ⟨h4, h5, h6, h7⟩ := dec_bytes X.size ((X.data.toList[0]'(by rw [← Lib.size_eq]; exact h)).toNat) (X.get! 1).toNat (X.get! 2).toNat (X.get! 3).toNat h
  have hsz := Lib.size_eq X
  generalize Lib.decodeN X.size ((X.data.toList[0]'(by rw [← Lib.size_eq]; exact h)).toNat) (X.get! 1).toNat (X.get! 2).toNat (X.get! 3).toNat = D at h1 h2 h3 h4 h5 h6 h7 ⊢
  refine ⟨h1, h2, h4, fun x hx => ?_⟩
  obtain ⟨j, hj, rfl⟩ := List.mem_iff_getElem.1 hx
  have hj2 := hj
  rw [List.length_take] at hj2
  rw [List.getElem_take]
  rcases (by omega : j = 0 ∨ j = 1 ∨ j = 2 ∨ j = 3) with rfl | rfl | rfl | rfl
  · exact hg _ hc
  · rw [← get_list X 1 (by omega)]
    exact hg _ (h5 (by omega))
  · rw [← get_list X 2 (by omega)]
    exact hg _ (h6 (by omega))
  · rw [← get_list X 3 (by omega)]
    exact hg _ (h7 (by omega))
theorem gap_any (r : Int) (w : World) : Calls Tryz.prog 34 #[.int .i32 r] w fun e w' => e = .returned (.bool (decide (r ≤ 32))) ∧ w' = w := by
  by_cases h : r ≤ 32
  · go_enter Tryz.func34, Tryz.ntmps34
    go_wp2
    go_ret
    exact ⟨by simp [h], rfl⟩
  · have h' : 32 < r := by omega
    go_enter Tryz.func34, Tryz.ntmps34
    go_wp2
    go_ret
    exact ⟨by simp; omega, rfl⟩

/-- A field as the loop's body is handed it. -/
abbrev Fd := { x : ByteArray // x.size ≤ 1000000 }
def decF (x : Fd) : List UInt8 := x.1.data.toList
def encF (x : Fd) : Array Value := #[.string x.1]
/-- The two boxes that the iterator reads. -/
def BoxF (s : ByteArray) (A1 A2 : Nat) (W : World) : Prop :=
  Boxed W A1 9 (.string s) ∧ Boxed W A2 58 (.func (.func 34) #[] #[])
set_option maxHeartbeats 1000000 in
theorem fields_seq (n : Nat) (s : ByteArray) (w : World) :
    CallsIn Fence.wide n Tryz.prog 31 #[.string s, .func (.func 34) #[] #[]] w fun e w' => e = .returned (.func (.func 55) #[] #[.pointer (some ⟨w.heap.size, 0, none⟩), .pointer (some ⟨w.heap.size + 1, 0, none⟩)]) ∧
      w' = (w.alloc (.cells #[.string s] 9)).alloc (.cells #[.func (.func 34) #[] #[]] 58) := by
  refine callsIn_wide.2 ?_
  go_enter Tryz.func31, Tryz.ntmps31
  go_wp2
  go_ret
  exact ⟨by simp, rfl⟩

/-! ### The closure -/
set_option maxHeartbeats 4000000 in
set_option maxRecDepth 100000 in
theorem fields1_in (T : World → Prop) (hD : DecOk T) (n : Nat) (hn : 1 ≤ n) (l n0 A1 A2 : Nat) (s : ByteArray) (hs : s.size ≤ 1000000) (J Jx : List Fd → World → Prop)
    (hY : ∀ pre x W, J pre W → pre.length < 1000001 → YieldAt Fence.wide (n - 1) Tryz.prog l (encF x) W fun e W' =>
      (e = .returned (.bool true) ∧ J (pre ++ [x]) W' ∧ KpL n0 (BoxF s A1 A2) W W') ∨ (e = .returned (.bool false) ∧ Jx (pre ++ [x]) W'))
    (W w0 : World) (hn0 : n0 ≤ w0.heap.size) (hW : Below n0 w0 W) (hE : ∀ w', Below n0 w0 w' → T w') (hb : BoxF s A1 A2 W) (h0 : J [] W) (hJ : AbidesFrom W.heap.size J) :
    CallsIn Fence.wide n Tryz.prog 55 #[.func (.yield l) #[] #[], .pointer (some ⟨A1, 0, none⟩), .pointer (some ⟨A2, 0, none⟩)] W fun e W' => (∃ v, e = .returned v) ∧
      ((∃ ys, ys.map decF = fldsL s.data.toList ∧ J ys W') ∨ (∃ pre, pre.map decF <+: fldsL s.data.toList ∧ Jx pre W')) := by
  refine callsIn_of_wp Tryz.func55 rfl trivial ?_ rfl
  simp only [Tryz.ntmps55, List.size_toArray, List.length_cons, List.length_nil, Nat.reduceAdd, Nat.reduceSub, Array.replicate_succ, Array.replicate_zero, List.push_toArray, List.append_toArray, List.nil_append, List.cons_append]
  gi_wp2
  gi_loopw [4, 5] (fun st p wr => ∃ (pre : List Fd) (k : Nat) (z : Int), p = .int .i64 (k : Int) ∧ st = .int .i64 z ∧ k ≤ s.size ∧ Hid (pre.map decF = (gapRun (s.data.toList.take k)).1) ∧ ((z = -1 ∧ Hid ((gapRun (s.data.toList.take k)).2 = [])) ∨ ∃ b : Nat, z = (b : Int) ∧ b < k ∧ Hid ((gapRun (s.data.toList.take k)).2 = (s.data.toList.take k).drop b)) ∧ BoxF s A1 A2 wr ∧ Below n0 w0 wr ∧ J pre wr) (fun _ p _ => s.size - (intOf p).toNat)
  case atStart => exact ⟨[], 0, -1, rfl, rfl, Nat.zero_le _, Lib.hid rfl, Or.inl ⟨rfl, Lib.hid rfl⟩, hb, hW, h0⟩
  case round =>
    obtain ⟨pre, k, z, rfl, rfl, hk, hpre, hcur, hbx, hbe, hJs⟩ := hrel
    have hc1 := hbx.1.cell
    have hc2 := hbx.2.cell
    have HPL : Hid (pre.length < 1000001) := Lib.hid (by
      have h1 := congrArg List.length hpre.out
      rw [List.length_map] at h1
      have h2 := gap_count (s.data.toList.take k)
      rw [List.length_take] at h2
      omega)
    by_cases hlt : k < s.size
    · have g1 : (k : Int) < (s.size : Int) := by omega
      have hkl : k < s.data.toList.length := by rw [← Lib.size_eq]; exact hlt
      have hex := ext_list s k s.size
      rw [List.take_of_length_le (by rw [← Lib.size_eq]; exact Nat.le_refl _)] at hex
      have hXs : (s.extract k s.size).size = s.size - k := by rw [Lib.size_eq, hex, List.length_drop, ← Lib.size_eq]
      have hX0 : 0 < (s.extract k s.size).size := by omega
      have hde := dec_ext (s.extract k s.size) hX0
      have hhd : (s.extract k s.size).data.toList[0]'(by rw [← Lib.size_eq]; exact hX0) = s.data.toList[k] := by simp
      rw [hhd, hex] at hde
      have HDEC := Lib.hid (hD (s.extract k s.size) wr (hE wr hbe))
      have hTK := gap_at s.data.toList k hkl
      obtain ⟨c, hcc⟩ : ∃ c, s.data.toList[k] = c := ⟨_, rfl⟩
      rw [hcc] at hde hTK
      obtain ⟨R, hR⟩ : ∃ R, (Lib.decodeGo (s.extract k s.size)).1 = R := ⟨_, rfl⟩
      obtain ⟨K, hK⟩ : ∃ K, (Lib.decodeGo (s.extract k s.size)).2 = K := ⟨_, rfl⟩
      have hlow : c.toNat < 128 → R = c.toNat ∧ K = 1 := fun h => by rw [← hR, ← hK, hde.1 h]; exact ⟨rfl, rfl⟩
      have hhigh := hde.2
      rw [hR, hK] at hhigh
      rw [hR, hK] at HDEC
      have hKb : 1 ≤ K ∧ k + K ≤ s.size := by
        rcases Nat.lt_or_ge c.toNat 128 with h | h
        · have := hlow h; omega
        · have := hhigh h; omega
      have HTK := Lib.hid hTK
      have HNG : Hid (32 < R → gapRun (s.data.toList.take (k + K)) = ((gapRun (s.data.toList.take k)).1, (gapRun (s.data.toList.take k)).2 ++ (s.data.toList.drop k).take K)) := Lib.hid (fun hr => by
        rw [List.take_add]
        refine gap_more _ _ (fun x hx => ?_)
        rcases Nat.lt_or_ge c.toNat 128 with h | h
        · obtain ⟨h1, h2⟩ := hlow h
          rw [h2] at hx
          rw [List.drop_eq_getElem_cons hkl, List.take_succ_cons, List.take_zero, List.mem_singleton] at hx
          rw [hx, hcc]
          unfold gapB
          rw [decide_eq_false_iff_not]
          omega
        · exact (hhigh h).2.2.2 x hx)
      have HGP : Hid (R ≤ 32 → K = 1 ∧ gapB c = true) := Lib.hid (fun hr => by
        rcases Nat.lt_or_ge c.toNat 128 with h | h
        · obtain ⟨h1, h2⟩ := hlow h
          refine ⟨h2, ?_⟩
          unfold gapB
          exact decide_eq_true (by omega)
        · have := hhigh h; omega)
      obtain ⟨hK1, hK2⟩ := hKb
      clear hde hhigh hlow hhd hcc hR hK hex hTK
      gi_wp2_with fail
      refine ⟨trivial, ?_⟩
      refine (callsIn_wide.2 HDEC.out).mono ?_
      rintro e w1 ⟨rfl, hb1⟩
      have hJ1 : J pre w1 := hJ pre wr w1 none hJs (grown_below hb1) (fun r e => by cases e)
      have hbx1 : BoxF s A1 A2 w1 := ⟨hbx.1.kept (grown_below hb1) (by simp), hbx.2.kept (grown_below hb1) (by simp)⟩
      have hbe1 : Below n0 w0 w1 := hbe.trans (hb1.mono (Nat.le_trans hn0 hbe.size))
      have hd1 := hbx1.1.cell
      have hd2 := hbx1.2.cell
      clear hc1 hc2 hJs hbx hbe hb1
      by_cases hg : R ≤ 32
      · obtain ⟨rfl, hgc⟩ := HGP.out hg
        have HGC := Lib.hid hgc
        have gr : decide ((R : Int) ≤ 32) = true := decide_eq_true (by omega)
        have HGA := Lib.hid (gap_any (R : Int) w1)
        rw [gr] at HGA
        clear hgc hg gr
        gi_wp2_with fail
        refine ⟨trivial, ?_⟩
        refine (callsIn_wide.2 HGA.out).mono ?_
        rintro e w2 ⟨rfl, rfl⟩
        rcases hcur with ⟨rfl, hcu⟩ | ⟨b, rfl, hbk, hcu⟩
        · have HNX : Hid (gapRun (s.data.toList.take (k + 1)) = gapRun (s.data.toList.take k)) := Lib.hid (by rw [HTK.out]; unfold gapS; rw [if_pos HGC.out, if_pos hcu.out])
          gi_wp2_with fail
          go_roundw
          case rel => exact ⟨pre, k + 1, -1, by go_num, rfl, by omega, Lib.hid (by rw [HNX.out]; exact hpre.out), Or.inl ⟨rfl, Lib.hid (by rw [HNX.out]; exact hcu.out)⟩, hbx1, hbe1, hJ1⟩
          case measure => simp [intOf]; omega
        · have gb : 0 ≤ (b : Int) := by omega
          have gbk : (b : Int) ≤ (k : Int) := by omega
          have hfx := ext_list s b k
          have hfs : (s.extract b k).size ≤ 1000000 := by rw [ByteArray.size_extract]; omega
          have HNE : Hid ((gapRun (s.data.toList.take k)).2 ≠ []) := Lib.hid (by
            rw [hcu.out]
            intro e
            have := congrArg List.length e
            rw [List.length_drop, List.length_take, ← Lib.size_eq] at this
            simp at this
            omega)
          have HNX : Hid (gapRun (s.data.toList.take (k + 1)) = ((pre ++ [(⟨s.extract b k, hfs⟩ : Fd)]).map decF, [])) := Lib.hid (by
            rw [HTK.out]
            unfold gapS
            rw [if_pos HGC.out, if_neg HNE.out, hcu.out, ← hfx, ← hpre.out, List.map_append]
            rfl)
          have HFP : Hid ((pre ++ [(⟨s.extract b k, hfs⟩ : Fd)]).map decF <+: fldsL s.data.toList) := Lib.hid (by
            have h := told_pre s.data.toList (k + 1)
            rw [HNX.out] at h
            exact h)
          obtain ⟨fn, tmps, assign, body, hy, hR⟩ := hY pre ⟨s.extract b k, hfs⟩ _ hJ1 HPL.out
          simp only [encF] at hy
          gi_wp2_with fail
          refine hR.mono ?_
          rintro e W3 (⟨rfl, hJ3, hk3⟩ | ⟨rfl, hJx3⟩)
          · gi_wp2
            go_roundw
            case rel => exact ⟨_, k + 1, -1, by go_num, rfl, by omega, Lib.hid (by rw [HNX.out]), Or.inl ⟨rfl, Lib.hid (by rw [HNX.out])⟩, hk3.2 hbx1, hbe1.trans hk3.1, hJ3⟩
            case measure => simp [intOf]; omega
          · gi_wp2
            refine bodyPost_ret (results_none rfl _ _ _) rfl ?_
            exact ⟨⟨_, rfl⟩, .inr ⟨_, HFP.out, hJx3⟩⟩
      · have hg2 : 32 < R := by omega
        have HN2 := Lib.hid (HNG.out hg2)
        have gr : decide ((R : Int) ≤ 32) = false := decide_eq_false (by omega)
        have HGA := Lib.hid (gap_any (R : Int) w1)
        rw [gr] at HGA
        have hdl : ((s.data.toList.drop k).take K).length = K := by rw [List.length_take, List.length_drop, ← Lib.size_eq]; omega
        have HDL := Lib.hid hdl
        clear hg gr hg2 hdl
        gi_wp2_with fail
        refine ⟨trivial, ?_⟩
        refine (callsIn_wide.2 HGA.out).mono ?_
        rintro e w2 ⟨rfl, rfl⟩
        rcases hcur with ⟨rfl, hcu⟩ | ⟨b, rfl, hbk, hcu⟩
        · have HCN : Hid ((gapRun (s.data.toList.take (k + K))).2 = (s.data.toList.take (k + K)).drop k) := Lib.hid (by
            rw [HN2.out, List.take_add, List.drop_append_of_le_length (by rw [List.length_take, ← Lib.size_eq]; omega)]
            have e1 : (s.data.toList.take k).drop k = [] := List.drop_of_length_le (by rw [List.length_take, ← Lib.size_eq]; omega)
            show (gapRun (s.data.toList.take k)).2 ++ _ = _
            rw [hcu.out, e1])
          gi_wp2_with fail
          go_roundw
          case rel => exact ⟨pre, k + K, (k : Int), by go_num, rfl, by omega, Lib.hid (by rw [HN2.out]; exact hpre.out), Or.inr ⟨k, rfl, by omega, HCN⟩, hbx1, hbe1, hJ1⟩
          case measure => simp [intOf]; omega
        · have gb : 0 ≤ (b : Int) := by omega
          have HCN : Hid ((gapRun (s.data.toList.take (k + K))).2 = (s.data.toList.take (k + K)).drop b) := Lib.hid (by
            rw [HN2.out, List.take_add, List.drop_append_of_le_length (by rw [List.length_take, ← Lib.size_eq]; omega)]
            show (gapRun (s.data.toList.take k)).2 ++ _ = _
            rw [hcu.out])
          gi_wp2_with fail
          go_roundw
          case rel => exact ⟨pre, k + K, (b : Int), by go_num, rfl, by omega, Lib.hid (by rw [HN2.out]; exact hpre.out), Or.inr ⟨b, rfl, by omega, HCN⟩, hbx1, hbe1, hJ1⟩
          case measure => simp [intOf]; omega
    · obtain rfl : k = s.size := by omega
      have g1 : ¬ (s.size : Int) < (s.size : Int) := by omega
      have HTL : Hid (s.data.toList.take s.size = s.data.toList) := Lib.hid (List.take_of_length_le (by rw [← Lib.size_eq]; exact Nat.le_refl _))
      rw [HTL.out] at hpre hcur
      rcases hcur with ⟨rfl, hcu⟩ | ⟨b, rfl, hbk, hcu⟩
      · have HFL : Hid (pre.map decF = fldsL s.data.toList) := Lib.hid (by unfold fldsL endG; rw [if_pos hcu.out, hpre.out])
        gi_wp2_with fail
        go_end0
        exact ⟨⟨_, rfl⟩, .inl ⟨pre, HFL.out, hJs⟩⟩
      · have gb : 0 ≤ (b : Int) := by omega
        have gbk : (b : Int) ≤ (s.size : Int) := by omega
        have hfx := ext_list s b s.size
        rw [HTL.out] at hfx
        have hfs : (s.extract b s.size).size ≤ 1000000 := by rw [ByteArray.size_extract]; omega
        have HFL : Hid ((pre ++ [(⟨s.extract b s.size, hfs⟩ : Fd)]).map decF = fldsL s.data.toList) := Lib.hid (by
          unfold fldsL endG
          rw [if_neg (by
            rw [hcu.out]
            intro e
            have := congrArg List.length e
            rw [List.length_drop, ← Lib.size_eq] at this
            simp at this
            omega), hcu.out, ← hfx, ← hpre.out, List.map_append]
          rfl)
        obtain ⟨fn, tmps, assign, body, hy, hR⟩ := hY pre ⟨s.extract b s.size, hfs⟩ wr hJs HPL.out
        simp only [encF] at hy
        gi_wp2_with fail
        refine hR.mono ?_
        rintro e W3 (⟨rfl, hJ3, hk3⟩ | ⟨rfl, hJx3⟩)
        · gi_wp2
          go_end0
          exact ⟨⟨_, rfl⟩, .inl ⟨_, HFL.out, hJ3⟩⟩
        · gi_wp2
          go_end0
          exact ⟨⟨_, rfl⟩, .inr ⟨_, by rw [HFL.out]; exact List.prefix_refl _, hJx3⟩⟩

theorem boxF_below {s : ByteArray} {A1 A2 : Nat} {w W : World} (h : BoxF s A1 A2 w) (hb : Below w.heap.size w W) : BoxF s A1 A2 W :=
  ⟨h.1.kept (grown_below hb) (by simp), h.2.kept (grown_below hb) (by simp)⟩
/-- .. as the law of ranges over a function asks it. -/
theorem fields_stops (T : World → Prop) (hD : DecOk T) (n : Nat) (hn : 1 ≤ n) (n0 A1 A2 : Nat) (s : ByteArray) (hs : s.size ≤ 1000000) (w w0 : World) (hn0 : n0 ≤ w0.heap.size) (hw0 : Below n0 w0 w) (hE : ∀ w', Below n0 w0 w' → T w') (hb : BoxF s A1 A2 w) :
    SeqStopsK Fence.wide n Tryz.prog 55 #[.pointer (some ⟨A1, 0, none⟩), .pointer (some ⟨A2, 0, none⟩)] encF (KpL n0 (BoxF s A1 A2))
      (fun ys => ys.map decF = fldsL s.data.toList) (fun pre => pre.map decF <+: fldsL s.data.toList) 1000001 w := fun l J Jx W hW hJ _ hY h0 =>
  fields1_in T hD n hn l n0 A1 A2 s hs J Jx hY W w0 hn0 (hw0.trans (hW.mono (Nat.le_trans hn0 hw0.size))) hE (boxF_below hb hW) h0 hJ
theorem kplF_put {s : ByteArray} {A1 A2 n0 : Nat} {w W : World} (hn : n0 ≤ w.heap.size) (l : Nat) (o o' : Obj) (hl : w.heap.size ≤ l) (h : W.heap[l]? = some o) (hc : o.isCells = false) (hw : o.isWalk = false) : KpL n0 (BoxF s A1 A2) W (W.putObj l o') := by
  refine ⟨belowK_b hn W l o o' hl h hc hw, fun hb => ?_⟩
  have hne : ∀ {A : Nat} {t : TypeId} {v : Value}, Boxed W A t v → some A ≠ some l := fun hA e => by
    cases e
    rw [show W.heap[l]? = _ from hA] at h
    cases h
    cases hc
  exact ⟨hb.1.kept (grownBy_putObj' W l o') (hne hb.1), hb.2.kept (grownBy_putObj' W l o') (hne hb.2)⟩
end Go.Proofs.YtnnbbjdidbggmaaGreatDoor.Lk
namespace Go.Proofs.YtnnbbjdidbggmaaGreatDoor.Lk
open Go Ad

/-- Each address told is no longer than this. -/
def TS (n : Nat) (T : List Ad3) : Prop := ∀ a ∈ T, a.1.length ≤ 2 * n ∧ a.2.1.length ≤ n ∧ a.2.2.length ≤ n
theorem TS.up {n m : Nat} {T : List Ad3} (h : TS n T) (hm : n ≤ m) : TS m T := fun a ha => by have := h a ha; omega
theorem cutA_le (p : List UInt8) : (cutA p).1.length ≤ p.length ∧ (cutA p).2.length ≤ p.length := by
  unfold cutA
  split
  · simp
  · simp only [List.length_take, List.length_drop]; omega
theorem TS.tell {n : Nat} {s : St} (h : TS n s.told) (hb : Bd n s) : TS n (tellS s).told := by
  show TS n (s.told ++ oneA (nameA s) (placeA s))
  intro a ha
  rcases List.mem_append.1 ha with ha | ha
  · exact h a ha
  · unfold oneA at ha
    split at ha
    · cases ha
    · simp only [List.mem_singleton] at ha
      subst ha
      have hw := hb.wt
      have h1 : (nameA s).length ≤ 2 * n := by
        unfold nameA
        split
        · have h2 := Wd.decW_len _ true (Lib.join s.words [32]) (Nat.le_refl _)
          have h3 := join_len s.words [32] (by decide)
          omega
        · simp
      have h2 : (placeA s).length ≤ n := by
        unfold placeA
        split
        · exact hb.angle
        · have h3 := join_len s.words [] (by decide)
          omega
      have h3 := cutA_le (placeA s)
      exact ⟨h1, Nat.le_trans h3.1 h2, Nat.le_trans h3.2 h2⟩
theorem begin_told (s : St) (c : UInt8) : (beginS s c).told = s.told ∨ (beginS s c).told = (tellS s).told := by
  unfold beginS
  repeat' split
  all_goals first | exact Or.inl rfl | exact Or.inr rfl
theorem step_told (s : St) (c : UInt8) : (stepS s c).told = s.told ∨ (stepS s c).told = (tellS s).told ∨ (stepS s c).told = (tellS (endWordS s)).told := by
  unfold stepS
  split
  · split
    · rcases begin_told (endWordS s) c with h | h
      · exact Or.inl h
      · exact Or.inr (Or.inr h)
    · exact Or.inl rfl
  split
  · rcases begin_told s c with h | h
    · exact Or.inl h
    · exact Or.inr (Or.inl h)
  unfold angleS remarkS
  repeat' split
  all_goals exact Or.inl rfl
theorem TS.step {n : Nat} {s : St} (h : TS n s.told) (hb : Bd n s) (c : UInt8) : TS (n + 2) (stepS s c).told := by
  rcases step_told s c with e | e | e <;> rw [e]
  · exact h.up (by omega)
  · exact (h.tell hb).up (by omega)
  · exact (TS.tell (s := endWordS s) (n := n + 1) (h.up (by omega)) hb.endWord).up (by omega)
theorem TS.run {n : Nat} {s : St} (h : TS n s.told) (hb : Bd n s) (l : List UInt8) : TS (n + 2 * l.length) (run s l).told := by
  induction l generalizing n s with
  | nil => exact h
  | cons c r ih =>
    rw [run_cons]
    exact (ih (h.step hb c) (hb.step c)).up (by rw [List.length_cons]; omega)
theorem doc_small (l : List UInt8) : TS (2 * l.length + 3) (docA l) := by
  have h0 : TS 0 (fresh []).told := fun a ha => by cases ha
  have h1 := h0.run (Bd.new []) l
  have h2 := run_bd l
  rw [Nat.zero_add] at h1
  unfold docA endS
  split
  · exact TS.tell (s := endWordS { (run (fresh []) l) with txt := (run (fresh []) l).txt ++ [92] }) (h1.up (by omega)) (((h2.put 92 h2.st).endWord).up (by omega))
  split
  · exact TS.tell (s := endWordS (run (fresh []) l)) (h1.up (by omega)) (h2.endWord.up (by omega))
  split
  · exact TS.tell (s := endAngleS (run (fresh []) l)) (h1.up (by omega)) (h2.endAngle.up (by omega))
  · exact TS.tell (s := run (fresh []) l) (h1.up (by omega)) (h2.up (by omega))
theorem str_len (l : List UInt8) (h : l.length ≤ 1099511627) : (Tx.strL l).length ≤ 2 * l.length + 20 := by
  unfold Tx.strL
  split
  · have := (Tx.escL_length l).2
    simp only [List.length_append, List.length_cons, List.length_nil]
    omega
  · unfold Tx.litL
    have := Tx.nDigits_le (k := 12) (u := l.length) (by omega)
    rw [← Lib.decDigits_length] at this
    simp only [List.length_append, List.length_cons, List.length_nil]
    omega
theorem one_len {n : Nat} {a : Ad3} (hn : n ≤ 100000) (h : a.1.length ≤ 2 * n ∧ a.2.1.length ≤ n ∧ a.2.2.length ≤ n) : (oneAdL a).length ≤ 8 * n + 100 := by
  have h1 := str_len a.1 (by omega)
  have h2 := str_len a.2.1 (by omega)
  have h3 := str_len a.2.2 (by omega)
  unfold oneAdL
  simp only [List.length_append]
  have h4 : (if a.1 = [] then nilT else Tx.strL a.1).length ≤ 4 * n + 20 := by
    split
    · have : nilT.length = 3 := rfl
      omega
    · omega
  have h5 : nilT.length = 3 := rfl
  simp only [List.length_cons, List.length_nil]
  omega
theorem flat_len {n : Nat} (hn : n ≤ 100000) : ∀ {T : List Ad3} (_ : TS n T), (T.flatMap oneAdL).length ≤ T.length * (8 * n + 100)
  | [], _ => by simp
  | a :: r, h => by
    rw [List.flatMap_cons, List.length_append, List.length_cons, Nat.succ_mul]
    have h1 := one_len hn (h a (by simp))
    have h2 := flat_len hn (T := r) (fun x hx => h x (by simp [hx]))
    omega
/-- What is told of the addresses of a short text. -/
theorem adL_len {l : List UInt8} (h : l.length ≤ 32768) : (adL (docA l)).length ≤ 50000000000 ∧ TS 65539 (docA l) ∧ (docA l).length ≤ 65539 := by
  have h1 := (doc_small l).up (m := 65539) (by omega)
  have h2 := doc_len l
  refine ⟨?_, h1, by omega⟩
  have h3 := flat_len (by decide) h1
  have h4 : (docA l).length * (8 * 65539 + 100) ≤ 65539 * (8 * 65539 + 100) := Nat.mul_le_mul_right _ (by omega)
  unfold adL
  split
  · decide
  · simp only [List.length_append, List.length_cons, List.length_nil]
    omega
end Go.Proofs.YtnnbbjdidbggmaaGreatDoor.Lk
namespace Go.Proofs.YtnnbbjdidbggmaaGreatDoor.Lk
open Go Pt

def oneParL (f : Pt.Fl) : List UInt8 := Tx.strL f.1 ++ [32] ++ Tx.strL f.2
/-- The first k parameters, with what stands ahead of each. -/
def parK (ps : List Pt.Fl) : Nat → List UInt8
  | 0 => []
  | k + 1 => parK ps k ++ ((if k = 0 then [40] else [32]) ++ (match ps[k]? with | some f => oneParL f | none => []))
def parL (ps : List Pt.Fl) : List UInt8 := if ps = [] then nilT else parK ps ps.length ++ [41]
theorem parK_succ (ps : List Pt.Fl) (k : Nat) (h : k < ps.length) : parK ps (k + 1) = parK ps k ++ ((if k = 0 then [40] else [32]) ++ oneParL ps[k]) := by
  rw [parK, List.getElem?_eq_getElem h]
def kindL (ty : List UInt8) : List UInt8 := (Lib.cut ty [47]).1
def formL (ty : List UInt8) : List UInt8 := (Lib.cut ty [47]).2.1
def textT : List UInt8 := [116, 101, 120, 116]
def cntL (s : List UInt8) (j : P) : List UInt8 := if kindL j.ty = textT then [32] ++ Lib.decDigits (Lib.countByte (segL s j.fm j.to) 10) else []
def leafL (s : List UInt8) (j : P) : List UInt8 :=
  (Tx.strL (kindL j.ty) ++ [32] ++ Tx.strL (formL j.ty) ++ [32]) ++ parL j.ps ++ ([32] ++ nilT ++ [32] ++ nilT ++ [32] ++ Tx.strL j.enc ++ [32] ++ Lib.decDigits (j.to - j.fm)) ++ cntL s j ++ [41]
/-- What IMAP tells of a part. -/
def structP (s : List UInt8) : P → List UInt8
  | .mk ty ps enc att h f t kids => [40] ++ (if kids = [] then leafL s (.mk ty ps enc att h f t kids) else structK s kids ++ ([32] ++ Tx.strL (formL ty) ++ [41]))
where structK (s : List UInt8) : List P → List UInt8
  | [] => []
  | k :: r => structP s k ++ structK s r
theorem structP_leaf (s : List UInt8) {j : P} (h : j.kids = []) : structP s j = [40] ++ leafL s j := by
  obtain ⟨ty, ps, enc, att, hh, f, t, kids⟩ := j
  rw [structP, if_pos (show kids = [] from h)]
theorem structP_kids (s : List UInt8) {j : P} (h : j.kids ≠ []) : structP s j = [40] ++ (structP.structK s j.kids ++ ([32] ++ Tx.strL (formL j.ty) ++ [41])) := by
  obtain ⟨ty, ps, enc, att, hh, f, t, kids⟩ := j
  rw [structP, if_neg (show kids ≠ [] from h)]
  rfl
theorem structK_snoc (s : List UInt8) (j : P) : ∀ l : List P, structP.structK s (l ++ [j]) = structP.structK s l ++ structP s j
  | [] => by rw [List.nil_append, structP.structK, structP.structK, structP.structK, List.append_nil, List.nil_append]
  | k :: r => by rw [List.cons_append, structP.structK, structP.structK, structK_snoc s j r, List.append_assoc]
theorem structK_take (s : List UInt8) (l : List P) (k : Nat) (h : k < l.length) : structP.structK s (l.take (k + 1)) = structP.structK s (l.take k) ++ structP s l[k] := by
  rw [List.take_succ_eq_append_getElem h, structK_snoc]

/-! ### How much there is -/
/-- How many parts. -/
def wtP : P → Nat
  | .mk _ _ _ _ _ _ _ kids => wtK kids + 1
where wtK : List P → Nat
  | [] => 0
  | k :: r => wtP k + wtK r
theorem wt_own (j : P) : wtP j = wtP.wtK j.kids + 1 := by
  obtain ⟨ty, ps, enc, att, hh, f, t, kids⟩ := j
  rfl
theorem wt_take : ∀ (l : List P) (k : Nat) (h : k < l.length), wtP.wtK (l.take k) + wtP l[k] ≤ wtP.wtK l
  | [], k, h => by simp at h
  | j :: r, 0, _ => by simp [wtP.wtK]
  | j :: r, k + 1, h => by
    have := wt_take r k (by simpa using h)
    simp only [List.take_succ_cons, wtP.wtK, List.getElem_cons_succ]
    omega
theorem foldK_wt {rd : Nat → Nat → Nat → P × Nat} (h : ∀ f e n, n ≤ 30 → wtP (rd f e n).1 + n ≤ (rd f e n).2 + 1 ∧ (rd f e n).2 ≤ 30) : ∀ (l : List (Nat × Nat)) (n : Nat) (_ : n ≤ 30), wtP.wtK (foldK rd l n).1 + n ≤ (foldK rd l n).2
  | [], n, _ => by rw [foldK]; simp [wtP.wtK]
  | (f, e) :: r, n, hn => by
    rw [foldK]
    split
    · have h1 := h f e (n + 1) (by omega)
      have h2 := foldK_wt h r (rd f e (n + 1)).2 h1.2
      simp only [wtP.wtK]
      omega
    · simp [wtP.wtK]
theorem read_wt (s : List UInt8) : ∀ (d a b n : Nat) (_ : n ≤ 30), wtP (readL s d a b n).1 + n ≤ (readL s d a b n).2 + 1
  | 0, a, b, n, h => by rw [readL]; simp [partL, wtP, wtP.wtK]; omega
  | d + 1, a, b, n, h => by
    rw [readL]
    split
    · simp [partL, wtP, wtP.wtK]; omega
    · rename_i bd _
      have h1 := foldK_wt (rd := readL s d) (fun f e n hn => ⟨read_wt s d f e n hn, (read_count s d f e n hn).2⟩) (kidsL bd s (headL s a b).2 b) n h
      simp only [partL, wtP]
      omega
theorem tree_wt (s : List UInt8) : wtP (treeL s) ≤ 30 := by
  have h1 := read_wt s 6 0 s.length 1 (by omega)
  have h2 := (read_count s 6 0 s.length 1 (by omega)).2
  unfold treeL
  omega
/-- Its texts are short, it lies in the octets. -/
def fineP (n : Nat) : P → Prop
  | .mk ty ps enc _ _ f t kids => (ty.length ≤ 40000 ∧ enc.length ≤ 40000 ∧ ps.length ≤ 40000 ∧ (∀ x ∈ ps, x.1.length ≤ 40000 ∧ x.2.length ≤ 40000) ∧ f ≤ t ∧ t ≤ n) ∧ fineK n kids
where fineK (n : Nat) : List P → Prop
  | [] => True
  | k :: r => fineP n k ∧ fineK n r
theorem fineK_mem {n : Nat} : ∀ {l : List P} (_ : fineP.fineK n l), ∀ k ∈ l, fineP n k
  | [], _, k, hk => by cases hk
  | j :: r, h, k, hk => by
    rcases List.mem_cons.1 hk with rfl | hk
    · exact h.1
    · exact fineK_mem h.2 k hk
theorem fine_own {n : Nat} {j : P} (h : fineP n j) : (j.ty.length ≤ 40000 ∧ j.enc.length ≤ 40000 ∧ j.ps.length ≤ 40000 ∧ (∀ x ∈ j.ps, x.1.length ≤ 40000 ∧ x.2.length ≤ 40000) ∧ j.fm ≤ j.to ∧ j.to ≤ n) ∧ ∀ k ∈ j.kids, fineP n k := by
  obtain ⟨ty, ps, enc, att, hh, f, t, kids⟩ := j
  exact ⟨h.1, fineK_mem h.2⟩
theorem foldK_fine {m : Nat} {rd : Nat → Nat → Nat → P × Nat} {b : Nat} (h : ∀ f e n, f ≤ e → e ≤ b → fineP m (rd f e n).1) : ∀ (l : List (Nat × Nat)) (lo n : Nat) (_ : Ord b lo l), fineP.fineK m (foldK rd l n).1
  | [], lo, n, _ => by rw [foldK]; trivial
  | (f, e) :: r, lo, n, ho => by
    obtain ⟨h1, h2, h3, h4⟩ := ho
    rw [foldK]
    split
    · exact ⟨h f e (n + 1) h2 h3, foldK_fine h r e _ h4⟩
    · trivial
theorem part_fine {s : List UInt8} (hs : s.length ≤ 32768) {a b : Nat} (hab : a ≤ b) (hb : b ≤ s.length) : (typeL (headL s a b).1).1.length ≤ 40000 ∧ (encL (headL s a b).1).length ≤ 40000 ∧ (typeL (headL s a b).1).2.length ≤ 40000 ∧ (∀ x ∈ (typeL (headL s a b).1).2, x.1.length ≤ 40000 ∧ x.2.length ≤ 40000) ∧ (headL s a b).2 ≤ b ∧ b ≤ s.length := by
  have h1 := type_sizes (s := s) (a := a) (b := b) hb
  have h2 := split_in hab hb
  have h3 := (head_sizes (s := s) (a := a) (b := b) hb).1
  refine ⟨by omega, ?_, by omega, fun x hx => by have := h1.2.2 x hx; omega, h2.2, hb⟩
  unfold encL
  cases e : fstL (headL s a b).1 cencT with
  | none => decide
  | some f =>
    have h4 := small_le f.2
    have h5 := (h3 f (fst_mem e)).2
    simp only
    omega
theorem read_fine (s : List UInt8) (hs : s.length ≤ 32768) : ∀ (d a b n : Nat) (_ : a ≤ b) (_ : b ≤ s.length), fineP s.length (readL s d a b n).1
  | 0, a, b, n, hab, hb => by
    have h := part_fine hs hab hb
    rw [readL]
    exact ⟨h, trivial⟩
  | d + 1, a, b, n, hab, hb => by
    have h := part_fine hs hab hb
    rw [readL]
    split
    · exact ⟨h, trivial⟩
    · rename_i bd _
      refine ⟨h, ?_⟩
      exact foldK_fine (b := b) (fun f e n h1 h2 => read_fine s hs d f e n h1 (by omega)) _ (headL s a b).2 n (kids_ord bd s b _ none _ _ (linesG_rise b _ [] _ _ (Nat.le_refl _) (by
        have := seg_len (s := s) (a := (headL s a b).2) (b := b) hb
        have := (split_in hab hb).2
        omega)) (split_in hab hb).2 (Nat.le_refl _) (fun f e => by cases e))
theorem tree_fine (s : List UInt8) (hs : s.length ≤ 32768) : fineP s.length (treeL s) := read_fine s hs 6 0 s.length 1 (Nat.zero_le _) (Nat.le_refl _)
theorem cut_len2 (l : List UInt8) : (kindL l).length ≤ l.length ∧ (formL l).length ≤ l.length := by
  unfold kindL formL
  rw [Lib.cut, Lib.index_one]
  split
  · simp only [List.length_take, List.length_drop]; omega
  · simp
theorem onePar_len {f : Pt.Fl} (h : f.1.length ≤ 40000 ∧ f.2.length ≤ 40000) : (oneParL f).length ≤ 160041 := by
  have h1 := str_len f.1 (by omega)
  have h2 := str_len f.2 (by omega)
  unfold oneParL
  simp only [List.length_append, List.length_singleton]
  omega
theorem parK_len {ps : List Pt.Fl} (h : ∀ x ∈ ps, x.1.length ≤ 40000 ∧ x.2.length ≤ 40000) : ∀ k, (parK ps k).length ≤ k * 160042
  | 0 => Nat.le_refl _
  | k + 1 => by
    have h1 := parK_len h k
    rw [parK, List.length_append, List.length_append]
    have h2 : (if k = 0 then [40] else [32] : List UInt8).length = 1 := by split <;> rfl
    have h3 : (match ps[k]? with | some f => oneParL f | none => []).length ≤ 160041 := by
      cases e : ps[k]? with
      | none => simp
      | some f => exact onePar_len (h f (List.mem_of_getElem? e))
    omega
theorem parL_len {ps : List Pt.Fl} (h : ∀ x ∈ ps, x.1.length ≤ 40000 ∧ x.2.length ≤ 40000) (hl : ps.length ≤ 40000) : (parL ps).length ≤ 6500000000 := by
  have h1 := parK_len h ps.length
  have h2 : ps.length * 160042 ≤ 40000 * 160042 := Nat.mul_le_mul_right _ hl
  unfold parL
  split
  · decide
  · simp only [List.length_append, List.length_singleton]
    omega
theorem dig_len {n : Nat} (h : n ≤ 1099511627776) : (Lib.decDigits n).length ≤ 13 := by
  rw [Lib.decDigits_length]
  exact Tx.nDigits_le (k := 12) (by omega)
theorem cnt_len {s : List UInt8} (hs : s.length ≤ 32768) (j : P) : (cntL s j).length ≤ 14 := by
  unfold cntL
  split
  · have h1 : Lib.countByte (segL s j.fm j.to) 10 ≤ (segL s j.fm j.to).length := List.count_le_length
    have h2 : (segL s j.fm j.to).length ≤ s.length := by unfold segL; simp only [List.length_drop, List.length_take]; omega
    have := dig_len (n := Lib.countByte (segL s j.fm j.to) 10) (by omega)
    simp only [List.length_append, List.length_singleton]
    omega
  · simp
theorem leaf_len {s : List UInt8} (hs : s.length ≤ 32768) {j : P} (h : fineP s.length j) : (leafL s j).length ≤ 6600000000 := by
  obtain ⟨⟨h1, h2, h3, h4, h5, h6⟩, _⟩ := fine_own h
  have q0 := cut_len2 j.ty
  have q1 := str_len (kindL j.ty) (by omega)
  have q2 := str_len (formL j.ty) (by omega)
  have q3 := str_len j.enc (by omega)
  have q4 := parL_len h4 h3
  have q5 := cnt_len hs j
  have q6 := dig_len (n := j.to - j.fm) (by omega)
  have q7 : nilT.length = 3 := rfl
  unfold leafL
  simp only [List.length_append, List.length_singleton]
  omega
theorem structP_len {s : List UInt8} (hs : s.length ≤ 32768) (j : P) : fineP s.length j → (structP s j).length ≤ wtP j * 7000000000 := by
  refine P.ind (M := fun j => fineP s.length j → (structP s j).length ≤ wtP j * 7000000000) (fun j ih h => ?_) j
  obtain ⟨hown, hk⟩ := fine_own h
  rw [wt_own]
  by_cases e : j.kids = []
  · rw [structP_leaf s e, List.length_append, List.length_singleton]
    have := leaf_len hs h
    omega
  · rw [structP_kids s e]
    have h1 : ∀ l : List P, (∀ k ∈ l, k ∈ j.kids) → (structP.structK s l).length ≤ wtP.wtK l * 7000000000 := by
      intro l
      induction l with
      | nil => intro _; rw [structP.structK]; simp
      | cons k r ihl =>
        intro hm
        rw [structP.structK, List.length_append, wtP.wtK]
        have a1 := ih k (hm k (by simp)) (hk k (hm k (by simp)))
        have a2 := ihl (fun x hx => hm x (by simp [hx]))
        omega
    have h2 := h1 j.kids (fun _ h => h)
    have q0 := cut_len2 j.ty
    have q2 := str_len (formL j.ty) (by have := hown.1; omega)
    have := hown.1
    simp only [List.length_append, List.length_singleton]
    omega
def structL (s : List UInt8) : List UInt8 := structP s (treeL s)
end Go.Proofs.YtnnbbjdidbggmaaGreatDoor.Lk
namespace Go.Proofs.YtnnbbjdidbggmaaGreatDoor.Lk
open Go Go.RowKit Go.Joins Kit F0 Pt

mutual
/-- The first part that is to be read. -/
def findP : P → Option P
  | .mk ty ps enc att h f t kids => if ty = plainT ∧ att = false then some (.mk ty ps enc att h f t kids) else findK kids
def findK : List P → Option P
  | [] => none
  | k :: r => match findP k with
    | some x => some x
    | none => findK r
end
theorem findP_own (j : P) : findP j = if j.ty = plainT ∧ j.att = false then some j else findK j.kids := by
  cases j
  rw [findP]
  rfl
theorem findK_at : ∀ (ks : List P) (k : Nat) (hk : k < ks.length) (_ : findK (ks.take k) = none), (∀ x, findP ks[k] = some x → findK ks = some x) ∧ (findP ks[k] = none → findK (ks.take (k + 1)) = none)
  | [], k, hk, _ => by simp at hk
  | y :: r, 0, _, _ => by
    refine ⟨fun x hx => ?_, fun hx => ?_⟩
    · have hx' : findP y = some x := hx
      rw [findK, hx']
    · have hx' : findP y = none := hx
      rw [List.take_succ_cons, List.take_zero, findK, hx']
      rfl
  | y :: r, k + 1, hk, h => by
    rw [List.take_succ_cons, findK] at h
    cases hy : findP y with
    | some z => rw [hy] at h; cases h
    | none =>
      rw [hy] at h
      have ih := findK_at r k (by simpa using hk) h
      refine ⟨fun x hx => ?_, fun hx => ?_⟩
      · rw [findK, hy]
        exact ih.1 x hx
      · rw [List.take_succ_cons, findK, hy]
        exact ih.2 hx
/-- What is read off where a struct's variable and a value are handed back. -/
theorem part_result2 {fn : Func} {p u : Tmp} (h : fn.results = #[.cell p 42, .tmp u]) (tmps : Array Value) {w : World} {G : Nat} {c0 c1 c2 c3 c4 c5 c6 c7 : Value}
    (hp : tmps.getD p undef = .pointer (some ⟨G, 0, none⟩)) (hb : Bx G c0 c1 c2 c3 c4 c5 c6 c7 w) : (results fn tmps).run Tryz.prog w = .ok (.tuple #[.agg #[c0, c1, c2, c3, c4, c5, c6, c7], tmps.getD u undef]) w := by
  rw [results_cell_tmp h, hp]
  simp [asAddr, Result.andThen, run_loadVar_row w G _ _ _ _ _ hb.blk Tryz.underlying42 rfl (by kernel_rfl)]
theorem wt_len : ∀ l : List P, l.length ≤ wtP.wtK l ∧ ∀ k ∈ l, wtP k ≤ wtP.wtK l
  | [] => ⟨Nat.zero_le _, fun k h => by cases h⟩
  | k :: r => by
    have h1 := wt_len r
    have h2 : 1 ≤ wtP k := by rw [wt_own]; omega
    rw [List.length_cons, wtP.wtK]
    refine ⟨by omega, fun x hx => ?_⟩
    rcases List.mem_cons.1 hx with rfl | hx
    · omega
    · have := h1.2 x hx
      omega
def FindOk (Q : Nat → Prop) (j : P) : Prop := ∀ (w : World) (c0 c1 c2 c3 c4 c5 c6 c7 : Value), (∀ g, Q g → g < w.heap.size) → wtP j ≤ 1000000 → PartAt Q w j (.agg #[c0, c1, c2, c3, c4, c5, c6, c7]) →
  Calls Tryz.prog 28 #[.agg #[c0, c1, c2, c3, c4, c5, c6, c7]] w fun e w' => Below w.heap.size w w' ∧
    ((∃ x d0 d1 d2 d3 d4 d5 d6 d7, findP j = some x ∧ e = .returned (.tuple #[.agg #[d0, d1, d2, d3, d4, d5, d6, d7], .bool true]) ∧ PartAt Q w' x (.agg #[d0, d1, d2, d3, d4, d5, d6, d7])) ∨
      (findP j = none ∧ e = .returned (.tuple #[.agg #[zS, zL, zS, zB, zI, zI, zI, zL], .bool false])))

set_option maxHeartbeats 4000000 in
set_option maxRecDepth 100000 in
theorem find_ok (Q : Nat → Prop) (j : P) (ih : ∀ k ∈ j.kids, FindOk Q k) : FindOk Q j := by
  intro w c0 c1 c2 c3 c4 c5 c6 c7 hQ hw hc
  rw [wt_own] at hw
  have HQ := Lib.hid hQ
  clear hQ
  have hc0 := hc
  obtain ⟨ap, mp, ak, mk, e, hps, cs, hk1, hk2⟩ := part_cells hc
  injection e with e
  injection e with e
  injection e with e0 e
  injection e with e1 e
  injection e with e2 e
  injection e with e3 e
  injection e with e4 e
  injection e with e5 e
  injection e with e6 e
  injection e with e7 e
  subst e0 e1 e2 e3 e4 e5 e6 e7
  have HFO := Lib.hid (findP_own j)
  have HP0 := Lib.hid hc0
  have HKC := Lib.hid (fun (w' : World) (hb : Below w.heap.size w w') (i : Nat) (hi : i < j.kids.length) => kid_cells (hk1.keep (kept_below (Q := Q) hb)) (KidsAt.keep (kept_below (Q := Q) hb) hk2) i hi)
  have HIH := Lib.hid ih
  have HWT := Lib.hid (wt_len j.kids)
  have hwl := (wt_len j.kids).1
  have HFA := Lib.hid (findK_at j.kids)
  have HFE : Hid (findK (j.kids.take j.kids.length) = findK j.kids) := Lib.hid (by rw [List.take_length])
  obtain ⟨hh, hhh⟩ : ∃ x, j.hd = x := ⟨_, rfl⟩
  obtain ⟨ff, hff⟩ : ∃ x, j.fm = x := ⟨_, rfl⟩
  obtain ⟨tt, htt⟩ : ∃ x, j.to = x := ⟨_, rfl⟩
  obtain ⟨ty, hty⟩ : ∃ x, j.ty = x := ⟨_, rfl⟩
  obtain ⟨enc, henc⟩ : ∃ x, j.enc = x := ⟨_, rfl⟩
  obtain ⟨att, hatt⟩ : ∃ x, j.att = x := ⟨_, rfl⟩
  obtain ⟨np, hnp⟩ : ∃ x, j.ps.length = x := ⟨_, rfl⟩
  obtain ⟨ks, hks⟩ : ∃ x, j.kids = x := ⟨_, rfl⟩
  rw [hty, hatt, hks] at HFO
  rw [hks] at HKC HIH HFA HFE HWT hw hwl
  rw [hhh, hff, htt, hty, henc, hatt, hnp, hks] at HP0 ⊢
  clear hc hc0 hps hk1 hk2 hhh hff htt hty henc hatt hnp hks ih
  unfold sV at HP0 ⊢
  by_cases hp : ty = plainT ∧ att = false
  · obtain ⟨h1, rfl⟩ := hp
    have g1 : (ty == [116, 101, 120, 116, 47, 112, 108, 97, 105, 110]) = true := by rw [beq_iff_eq]; exact h1
    have HF : Hid (findP j = some j) := Lib.hid (by rw [HFO.out, if_pos ⟨h1, rfl⟩])
    clear h1
    go_enter Tryz.func28, Tryz.ntmps28
    go_wp2_with fail
    have hb2 : Below w.heap.size w ((w.alloc (.cells #[.string ⟨ty.toArray⟩, .slice ap np mp, .string ⟨enc.toArray⟩, .bool false, .int .i64 (hh : Int), .int .i64 (ff : Int), .int .i64 (tt : Int), .slice ak ks.length mk] 42)).alloc (.cells #[.string ⟨ty.toArray⟩, .slice ap np mp, .string ⟨enc.toArray⟩, .bool false, .int .i64 (hh : Int), .int .i64 (ff : Int), .int .i64 (tt : Int), .slice ak ks.length mk] 42)) := ((Below.refl _ w).alloc (Nat.le_refl _) _).alloc (by simp) _
    refine ⟨rfl, .tuple #[.agg #[.string ⟨ty.toArray⟩, .slice ap np mp, .string ⟨enc.toArray⟩, .bool false, .int .i64 (hh : Int), .int .i64 (ff : Int), .int .i64 (tt : Int), .slice ak ks.length mk], .bool true], part_result2 (fn := Tryz.f28) (p := 2) (u := 3) rfl _ rfl (Bx.madeAt (n := w.heap.size + 1) (World.size_alloc _ _) _ _ _ _ _ _ _ _), hb2, ?_⟩
    exact Or.inl ⟨j, HF.out, _, _, _, _, _, _, _, _, rfl, HP0.out.keep (kept_below hb2)⟩
  · have HF : Hid (findP j = findK ks) := Lib.hid (by rw [HFO.out, if_neg hp])
    have hg : (ty == [116, 101, 120, 116, 47, 112, 108, 97, 105, 110]) = false ∨ ((ty == [116, 101, 120, 116, 47, 112, 108, 97, 105, 110]) = true ∧ att = true) := by
      by_cases h1 : ty = plainT
      · refine Or.inr ⟨by rw [beq_iff_eq]; exact h1, ?_⟩
        cases att
        · exact absurd ⟨h1, rfl⟩ hp
        · rfl
      · exact Or.inl (by rw [beq_eq_false_iff_ne]; exact h1)
    clear hp HFO HP0
    have HBX : Hid (∀ o : Obj, Bx (w.heap.size + 1) zS zL zS zB zI zI zI zL ((w.alloc o).alloc (.cells #[zS, zL, zS, zB, zI, zI, zI, zL] 42))) := Lib.hid (fun o => Bx.madeAt (n := w.heap.size + 1) (World.size_alloc _ _) _ _ _ _ _ _ _ _)
    have HB0 : Hid (∀ o p : Obj, Below w.heap.size w ((w.alloc o).alloc p)) := Lib.hid (fun o p => ((Below.refl _ w).alloc (Nat.le_refl _) o).alloc (by simp) p)
    unfold zS zL zB zI at *
    rcases hg with g1 | ⟨g1, rfl⟩
    all_goals
      go_enter Tryz.func28, Tryz.ntmps28
      go_wp2_with fail
      go_loopw [20] (fun i wr => ∃ k : Nat, k ≤ ks.length ∧ i = .int .i64 (k : Int) ∧ Hid (findK (ks.take k) = none) ∧ Hid (Bx (w.heap.size + 1) (.string ⟨#[]⟩) (.slice none 0 0) (.string ⟨#[]⟩) (.bool false) (.int .i64 0) (.int .i64 0) (.int .i64 0) (.slice none 0 0) wr) ∧ Hid (Below w.heap.size w wr)) (fun i _ => ks.length - (intOf i).toNat)
      case atStart => exact ⟨0, Nat.zero_le _, rfl, Lib.hid (by rw [List.take_zero]; rfl), Lib.hid (HBX.out _), Lib.hid (HB0.out _ _)⟩
      case round =>
        obtain ⟨k, hk, rfl, hno, hbx, hb⟩ := hrel
        by_cases hlt : k < ks.length
        · have gk : (k : Int) < (ks.length : Int) := by omega
          obtain ⟨g, o, b0, b1, b2, b3, b4, b5, b6, b7, rfl, hgl, u0, u1, u2, u3, u4, u5, u6, u7, hpk⟩ := HKC.out wr hb.out k hlt
          obtain ⟨x0, a1, l1, m1, x2, x3, x4, x5, x6, a7, l7, m7, rfl, rfl, rfl, rfl, rfl, rfl, rfl, rfl⟩ := part_forms hpk
          have hal : Below wr.heap.size wr (wr.alloc (.cells #[.string x0, .slice a1 l1 m1, .string x2, .bool x3, .int .i64 x4, .int .i64 x5, .int .i64 x6, .slice a7 l7 m7] 42)) := (Below.refl _ wr).alloc (Nat.le_refl _) _
          have HSZ : Hid (w.heap.size + 2 ≤ wr.heap.size) := Lib.hid (by have := hbx.out.lt; omega)
          have HCALL := Lib.hid (HIH.out ks[k] (List.getElem_mem hlt) _ _ _ _ _ _ _ _ _ (fun g hg => by have := HQ.out g hg; have := hal.size; have := HSZ.out; omega) (by have := HWT.out.2 ks[k] (List.getElem_mem hlt); omega) (hpk.keep (kept_below hal)))
          have HST := Lib.hid (HFA.out k hlt hno.out)
          have HAL := Lib.hid hal
          obtain ⟨kd, hkd⟩ : ∃ kd, ks[k] = kd := ⟨_, rfl⟩
          rw [hkd] at HCALL HST
          clear hpk hal hkd
          go_wp2_with fail
          refine HCALL.out.mono ?_
          rintro e w5 ⟨hb5, ⟨x, d0, d1, d2, d3, d4, d5, d6, d7, hx, rfl, hpx⟩ | ⟨hx, rfl⟩⟩
          · obtain ⟨y0, v1, r1, n1, y2, y3, y4, y5, y6, v7, r7, n7, rfl, rfl, rfl, rfl, rfl, rfl, rfl, rfl⟩ := part_forms hpx
            have hB5 : Below wr.heap.size wr w5 := HAL.out.trans (hb5.mono HAL.out.size)
            have hbw : Below w.heap.size w w5 := hb.out.trans (hB5.mono hb.out.size)
            have hal6 : Below w5.heap.size w5 (w5.alloc (.cells #[.string y0, .slice v1 r1 n1, .string y2, .bool y3, .int .i64 y4, .int .i64 y5, .int .i64 y6, .slice v7 r7 n7] 42)) := (Below.refl _ w5).alloc (Nat.le_refl _) _
            have hbx6 := (hbx.out.below hB5).below hal6
            have hb6 := hbw.trans (hal6.mono hbw.size)
            have HFIN := Lib.hid (And.intro (hbx6.setAll (.string y0) (.slice v1 r1 n1) (.string y2) (.bool y3) (.int .i64 y4) (.int .i64 y5) (.int .i64 y6) (.slice v7 r7 n7)) (And.intro (PartAt.keep (finW_kept (Q' := Q) (w5.alloc (.cells #[.string y0, .slice v1 r1 n1, .string y2, .bool y3, .int .i64 y4, .int .i64 y5, .int .i64 y6, .slice v7 r7 n7] 42)) (w.heap.size + 1) (.string y0) (.slice v1 r1 n1) (.string y2) (.bool y3) (.int .i64 y4) (.int .i64 y5) (.int .i64 y6) (.slice v7 r7 n7) (fun g hg => ⟨by have := HQ.out g hg; omega, hg⟩)) (hpx.keep (kept_below hal6))) ((((((((hb6.setCell (p := ⟨w.heap.size + 1, 0, none⟩) (Nat.le_succ _) (.string y0)).setCell (p := ⟨w.heap.size + 1, 1, none⟩) (Nat.le_succ _) (.slice v1 r1 n1)).setCell (p := ⟨w.heap.size + 1, 2, none⟩) (Nat.le_succ _) (.string y2)).setCell (p := ⟨w.heap.size + 1, 3, none⟩) (Nat.le_succ _) (.bool y3)).setCell (p := ⟨w.heap.size + 1, 4, none⟩) (Nat.le_succ _) (.int .i64 y4)).setCell (p := ⟨w.heap.size + 1, 5, none⟩) (Nat.le_succ _) (.int .i64 y5)).setCell (p := ⟨w.heap.size + 1, 6, none⟩) (Nat.le_succ _) (.int .i64 y6)).setCell (p := ⟨w.heap.size + 1, 7, none⟩) (Nat.le_succ _) (.slice v7 r7 n7))))
            have HFX : Hid (findP j = some x) := Lib.hid (by rw [HF.out]; exact HST.out.1 x hx)
            have q0 := hbx6.p0
            have q1 := hbx6.p1
            have q2 := hbx6.p2
            have q3 := hbx6.p3
            have q4 := hbx6.p4
            have q5 := hbx6.p5
            have q6 := hbx6.p6
            have q7 := hbx6.p7
            have e0 := hbx6.free 0
            have e1 := hbx6.free 1
            have e2 := hbx6.free 2
            have e3 := hbx6.free 3
            have e4 := hbx6.free 4
            have e5 := hbx6.free 5
            have e6 := hbx6.free 6
            have e7 := hbx6.free 7
            clear hB5 hbw hal6 hbx6 hb6 hb5 hpx hx
            go_wp2_with fail
            refine ⟨rfl, .tuple #[.agg #[.string y0, .slice v1 r1 n1, .string y2, .bool y3, .int .i64 y4, .int .i64 y5, .int .i64 y6, .slice v7 r7 n7], .bool true], part_result2 (fn := Tryz.f28) (p := 2) (u := 3) rfl _ rfl HFIN.out.1, HFIN.out.2.2, ?_⟩
            exact Or.inl ⟨x, _, _, _, _, _, _, _, _, HFX.out, rfl, HFIN.out.2.1⟩
          · have hB5 : Below wr.heap.size wr w5 := HAL.out.trans (hb5.mono HAL.out.size)
            have hbw : Below w.heap.size w w5 := hb.out.trans (hB5.mono hb.out.size)
            have hal6 : Below w5.heap.size w5 (w5.alloc (.cells #[.string ⟨#[]⟩, .slice none 0 0, .string ⟨#[]⟩, .bool false, .int .i64 0, .int .i64 0, .int .i64 0, .slice none 0 0] 42)) := (Below.refl _ w5).alloc (Nat.le_refl _) _
            have HX6 := Lib.hid ((hbx.out.below hB5).below hal6)
            have HB6 := Lib.hid (hbw.trans (hal6.mono hbw.size))
            have HNX := Lib.hid (HST.out.2 hx)
            clear hB5 hbw hal6 hb5 hx
            unfold zS zL zB zI
            go_wp2_with fail
            go_roundw
            case rel => exact ⟨k + 1, by omega, by go_num, HNX, HX6, HB6⟩
            case measure => simp [intOf]; omega
        · obtain rfl : k = ks.length := by omega
          have gk : ¬ (ks.length : Int) < (ks.length : Int) := by omega
          have hbz := hbx.out
          have HFIN := Lib.hid (And.intro (hbz.setAll (.string ⟨#[]⟩) (.slice none 0 0) (.string ⟨#[]⟩) (.bool false) (.int .i64 0) (.int .i64 0) (.int .i64 0) (.slice none 0 0)) ((((((((hb.out.setCell (p := ⟨w.heap.size + 1, 0, none⟩) (Nat.le_succ _) (.string ⟨#[]⟩)).setCell (p := ⟨w.heap.size + 1, 1, none⟩) (Nat.le_succ _) (.slice none 0 0)).setCell (p := ⟨w.heap.size + 1, 2, none⟩) (Nat.le_succ _) (.string ⟨#[]⟩)).setCell (p := ⟨w.heap.size + 1, 3, none⟩) (Nat.le_succ _) (.bool false)).setCell (p := ⟨w.heap.size + 1, 4, none⟩) (Nat.le_succ _) (.int .i64 0)).setCell (p := ⟨w.heap.size + 1, 5, none⟩) (Nat.le_succ _) (.int .i64 0)).setCell (p := ⟨w.heap.size + 1, 6, none⟩) (Nat.le_succ _) (.int .i64 0)).setCell (p := ⟨w.heap.size + 1, 7, none⟩) (Nat.le_succ _) (.slice none 0 0)))
          have HFX : Hid (findP j = none) := Lib.hid (by rw [HF.out, ← HFE.out]; exact hno.out)
          have q0 := hbz.p0
          have q1 := hbz.p1
          have q2 := hbz.p2
          have q3 := hbz.p3
          have q4 := hbz.p4
          have q5 := hbz.p5
          have q6 := hbz.p6
          have q7 := hbz.p7
          have e0 := hbz.free 0
          have e1 := hbz.free 1
          have e2 := hbz.free 2
          have e3 := hbz.free 3
          have e4 := hbz.free 4
          have e5 := hbz.free 5
          have e6 := hbz.free 6
          have e7 := hbz.free 7
          clear hbz
          go_wp2_with fail
          refine ⟨rfl, .tuple #[.agg #[.string ⟨#[]⟩, .slice none 0 0, .string ⟨#[]⟩, .bool false, .int .i64 0, .int .i64 0, .int .i64 0, .slice none 0 0], .bool false], part_result2 (fn := Tryz.f28) (p := 2) (u := 3) rfl _ rfl HFIN.out.1, HFIN.out.2, ?_⟩
          exact Or.inr ⟨HFX.out, rfl⟩
/-- The first part that is to be read, of any part. -/
theorem find_any (Q : Nat → Prop) (j : P) : FindOk Q j := P.ind (M := FindOk Q) (fun j ih => find_ok Q j ih) j
end Go.Proofs.YtnnbbjdidbggmaaGreatDoor.Lk
namespace Go.Proofs.YtnnbbjdidbggmaaGreatDoor.Pt
open Go Go.RowKit Go.Joins Kit F0

def b64T : List UInt8 := [98, 97, 115, 101, 54, 52]
def quotT : List UInt8 := [113, 117, 111, 116, 101, 100, 45, 112, 114, 105, 110, 116, 97, 98, 108, 101]
def contL (s enc : List UInt8) (f t : Nat) : List UInt8 := if enc = b64T then B6.looseL (segL s f t) else if enc = quotT then Q4.plainL (segL s f t) else segL s f t

set_option maxHeartbeats 4000000 in
set_option maxRecDepth 100000 in
theorem content_any (s : ByteArray) (enc : List UInt8) (f t : Nat) (c0 c1 c3 c4 c7 : Value) (w : World) (hs : s.size ≤ 32768) (hft : f ≤ t) (hts : t ≤ s.size) (hE : Srch.Env w) :
    Calls Tryz.prog 33 #[.string s, .agg #[c0, c1, .string ⟨enc.toArray⟩, c3, c4, .int .i64 (f : Int), .int .i64 (t : Int), c7]] w fun e w' => e = .returned (.string ⟨(contL s.data.toList enc f t).toArray⟩) ∧ Below w.heap.size w w' := by
  have HX : Hid ((s.extract f t).data.toList = segL s.data.toList f t ∧ (s.extract f t).size ≤ 32768) := Lib.hid ⟨ext_seg s f t, by rw [ByteArray.size_extract]; omega⟩
  obtain ⟨W, hW⟩ : ∃ W, w.alloc (.cells #[c0, c1, .string ⟨enc.toArray⟩, c3, c4, .int .i64 (f : Int), .int .i64 (t : Int), c7] 42) = W := ⟨_, rfl⟩
  have HB : Hid (Below w.heap.size w W) := Lib.hid (by rw [← hW]; exact (Below.refl _ w).alloc (Nat.le_refl _) _)
  have HE : Hid (Srch.Env W) := Lib.hid (hE.next HB.out)
  have HQ : Hid (∀ b, (enc == b64T) = b → ∀ q, (enc == quotT) = q → contL s.data.toList enc f t = if b then B6.looseL (segL s.data.toList f t) else if q then Q4.plainL (segL s.data.toList f t) else segL s.data.toList f t) := Lib.hid (by
    intro b hb q hq
    unfold contL
    subst hb hq
    simp only [beq_iff_eq])
  have HW := Lib.hid hW
  clear hE hW
  go_enter Tryz.func33, Tryz.ntmps33
  go_wp2_with fail
  all_goals rw [HW.out]
  · rename_i h1 _ _ _ _
    refine (B6.loose_any (s.extract f t) W (by have := HX.out.2; omega) ⟨HE.out.max⟩).mono ?_
    rintro e w1 ⟨rfl, hb1⟩
    have HR := Lib.hid (HQ.out true h1 _ rfl)
    rw [HX.out.1]
    go_wp2
    go_ret
    exact ⟨by rw [HR.out]; rfl, HB.out.trans (hb1.mono HB.out.size)⟩
  · rename_i h1 h2 _ _ _ _
    refine (Q4.decode_any (s.extract f t) W (by have := HX.out.2; omega) HE.out).mono ?_
    rintro e w1 ⟨rfl, hb1⟩
    have HR := Lib.hid (HQ.out false h1 true h2)
    rw [HX.out.1]
    go_wp2
    go_ret
    exact ⟨by rw [HR.out]; rfl, HB.out.trans (hb1.mono HB.out.size)⟩
  · rename_i h1 h2 _ _ _ _
    refine (U8.clone_any (s.extract f t) W (by have := HX.out.2; omega)).mono ?_
    rintro e w1 ⟨rfl, hb1⟩
    have HR := Lib.hid (HQ.out false h1 false h2)
    rw [show s.extract f t = ⟨(segL s.data.toList f t).toArray⟩ by rw [← HX.out.1]]
    go_wp2
    go_ret
    exact ⟨by rw [HR.out]; rfl, HB.out.trans (hb1.mono HB.out.size)⟩
end Go.Proofs.YtnnbbjdidbggmaaGreatDoor.Pt
namespace Go.Proofs.YtnnbbjdidbggmaaGreatDoor.Lk
open Go Go.RowKit Go.Joins Kit F0 Pt

theorem dec_ok : DecOk (fun w => Lib.Utf8Tabs 0 1 w) := fun s w hT => Tryz.utf8_DecodeRuneInString s w hT
/-- The tables read as they are laid, in this world and in every one that keeps what was there. -/
def UT (w : World) : Prop := ∀ w', Below w.heap.size w w' → Lib.Utf8Tabs 0 1 w'
theorem UT.next {w w1 : World} (h : UT w) (hb : Below w.heap.size w w1) : UT w1 := fun w' hb' => h w' (hb.trans (hb'.mono hb.size))
theorem cell_lt {W : World} {g o : Nat} {v : Value} (h : W.cell? ⟨g, o, none⟩ = some v) : g < W.heap.size := by
  rcases Nat.lt_or_ge g W.heap.size with h' | h'
  · exact h'
  · simp [World.cell?, Array.getElem?_eq_none h'] at h
theorem tabs_keep {w w' : World} (h : Lib.Utf8Tabs 0 1 w) (hb : Below w.heap.size w w') : Lib.Utf8Tabs 0 1 w' := by
  obtain ⟨h1, h2⟩ := h
  refine ⟨fun c hc => ?_, fun i hi => ?_⟩
  · have := h1 c hc
    rw [hb.cell (p := ⟨0, c, none⟩) (cell_lt this)]
    exact this
  · have := h2 i hi
    rw [hb.cell (p := ⟨1, 2 * i, none⟩) (cell_lt this.1), hb.cell (p := ⟨1, 2 * i + 1, none⟩) (cell_lt this.2)]
    exact this
theorem extraU : Go.Proofs.U8Extra Tryz.prog Tryz.lays260_ren := ⟨by kernel_rfl, by kernel_rfl, by kernel_rfl, by kernel_rfl, by kernel_rfl, by kernel_rfl, by kernel_rfl⟩
theorem ut_of {l : List (String × DataW Unit)} {W : World} (h : laidMet Tryz.prog l W) (h3 : ("unicode/utf8.first", Lib.firstData) ∈ l) (h4 : ("unicode/utf8.acceptRanges", Lib.acceptData) ∈ l) : UT W := fun _ hb =>
  tabs_keep (Go.Proofs.utf8Tabs_of_reads (ρ := Tryz.lays260_ren) Tryz.lays260 extraU (Lib.laidMet.reads h h3) (Lib.laidMet.reads h h4)) hb

/-- Both: the table of powers and the search's bound, and the decoder's two tables. -/
structure EnvT (w : World) : Prop where
  e : Tx.Env w
  u : UT w
theorem EnvT.next {w w1 : World} (h : EnvT w) (hb : Below w.heap.size w w1) : EnvT w1 := ⟨h.e.next hb, h.u.next hb⟩
theorem envT_of {l : List (String × DataW Unit)} {W : World} (h : laidMet Tryz.prog l W) (hsh : W.ShapedOpen Tryz.prog)
    (hl : (l.filter fun x => x.1 == "internal/strconv.uint64pow10") = [("internal/strconv.uint64pow10", Lib.tabData .u64 Lib.pow10Tab)])
    (h3 : (l.filter fun x => x.1 == "unicode/utf8.first") = [("unicode/utf8.first", Lib.firstData)]) (h4 : (l.filter fun x => x.1 == "unicode/utf8.acceptRanges") = [("unicode/utf8.acceptRanges", Lib.acceptData)]) : EnvT W :=
  ⟨Tx.env_of h hsh hl, ut_of h (List.mem_filter.1 (by rw [h3]; exact List.mem_singleton.2 rfl)).1 (List.mem_filter.1 (by rw [h4]; exact List.mem_singleton.2 rfl)).1⟩

/-! ### Plain -/
mutual
theorem find_ins : ∀ (j : P) (a b : Nat) (_ : insL j a b) (x : P) (_ : findP j = some x), x.fm ≤ x.to ∧ x.to ≤ b
  | .mk ty ps enc att h f t kids, a, b, hi, x, hx => by
    have ho := ins_own hi
    rw [findP] at hx
    split at hx
    · obtain rfl := Option.some.inj hx
      exact ⟨ho.2.2.1, ho.2.2.2.1⟩
    · have := findK_ins kids f t ho.2.2.2.2 x hx
      exact ⟨this.1, Nat.le_trans this.2 ho.2.2.2.1⟩
theorem findK_ins : ∀ (l : List P) (a b : Nat) (_ : insL.kidsI l a b) (x : P) (_ : findK l = some x), x.fm ≤ x.to ∧ x.to ≤ b
  | [], _, _, _, x, hx => by cases hx
  | k :: r, a, b, hi, x, hx => by
    rw [findK] at hx
    have hi' : insL k a b ∧ insL.kidsI r k.to b := hi
    cases hk : findP k with
    | some y =>
      rw [hk] at hx
      obtain rfl := Option.some.inj hx
      exact find_ins k a b hi'.1 y hk
    | none =>
      rw [hk] at hx
      exact findK_ins r k.to b hi'.2 x hx
end
/-- What the first part that is to be read says. -/
def saysL (s : List UInt8) (x : P) : List UInt8 := readL8 (contL s x.enc x.fm x.to)
def prevL (s : List UInt8) : List UInt8 := match findP (treeL s) with
  | none => []
  | some x => (Lib.join (fldsL (saysL s x)) [32]).take (U8.cutN 100 (Lib.join (fldsL (saysL s x)) [32]))
theorem cont_le (s enc : List UInt8) (f t : Nat) : (contL s enc f t).length ≤ s.length := by
  have hs : (segL s f t).length ≤ s.length := by unfold segL; rw [List.length_drop, List.length_take]; omega
  unfold contL
  split
  · exact Nat.le_trans (B6.loose_length _) hs
  · split
    · exact Nat.le_trans (Q4.plain_length _) hs
    · exact hs
theorem says_le (s : List UInt8) (x : P) : (saysL s x).length ≤ 2 * s.length := by
  have h := cont_le s x.enc x.fm x.to
  unfold saysL readL8
  split
  · omega
  · have := Wd.latin_len (contL s x.enc x.fm x.to)
    omega
theorem joinTail_le {n : Nat} : ∀ (l : List (List UInt8)) (_ : ∀ f ∈ l, f.length ≤ n), (Lib.joinTail [32] l).length ≤ l.length * (n + 1)
  | [], _ => by simp [Lib.joinTail]
  | f :: r, h => by
    have h1 := h f (by simp)
    have h2 := joinTail_le r (fun x hx => h x (by simp [hx]))
    rw [show Lib.joinTail [32] (f :: r) = 32 :: (f ++ Lib.joinTail [32] r) by simp [Lib.joinTail], List.length_cons, List.length_append, List.length_cons, Nat.add_mul]
    omega
theorem join_le {n : Nat} (l : List (List UInt8)) (h : ∀ f ∈ l, f.length ≤ n) : (Lib.join l [32]).length ≤ l.length * (n + 1) := by
  cases l with
  | nil => simp [Lib.join_nil]
  | cons f r =>
    have h1 := h f (by simp)
    have h2 := joinTail_le (n := n) r (fun x hx => h x (by simp [hx]))
    rw [Lib.join_cons, List.length_append, List.length_cons, Nat.add_mul]
    omega
theorem joinTail_snoc (l : List (List UInt8)) (x : List UInt8) : Lib.joinTail [32] (l ++ [x]) = Lib.joinTail [32] l ++ 32 :: x := by simp [Lib.joinTail]
theorem join_snoc (l : List (List UInt8)) (x : List UInt8) : Lib.join (l ++ [x]) [32] = Lib.join l [32] ++ ((if l = [] then [] else [32]) ++ x) := by
  cases l with
  | nil => rw [List.nil_append, Lib.join_one, Lib.join_nil]; rfl
  | cons f r =>
    rw [List.cons_append, Lib.join_cons, Lib.join_cons, joinTail_snoc, if_neg (by simp)]
    simp
end Go.Proofs.YtnnbbjdidbggmaaGreatDoor.Lk
namespace Go.Proofs.YtnnbbjdidbggmaaGreatDoor.Lk
open Go U8

theorem put_high {r : Int} (h : 2 ≤ sizeN r) : ∀ c ∈ putL r, gapB c = false := by
  have hb : ∀ x : Int, 128 ≤ x → x < 256 → gapB (b8 x) = false := fun x h1 h2 => by
    have h3 := b8_nat (x := x) (by omega) (by omega)
    unfold gapB
    rw [decide_eq_false_iff_not]
    omega
  rcases sizeN_cases r with e | e | e | e | e
  · omega
  · omega
  · have hr := sizeN_two.1 e
    rw [putL_two e]
    intro c hc
    simp only [List.mem_cons, List.not_mem_nil, or_false] at hc
    rcases hc with rfl | rfl <;> exact hb _ (by omega) (by omega)
  · have hr := sizeN_three.1 e
    rw [putL_three e]
    intro c hc
    simp only [List.mem_cons, List.not_mem_nil, or_false] at hc
    rcases hc with rfl | rfl | rfl <;> exact hb _ (by omega) (by omega)
  · have hr := sizeN_four.1 e
    rw [putL_four e]
    intro c hc
    simp only [List.mem_cons, List.not_mem_nil, or_false] at hc
    rcases hc with rfl | rfl | rfl | rfl <;> exact hb _ (by omega) (by omega)
theorem fold_more : ∀ (m : List UInt8) (st : List (List UInt8) × List UInt8) (_ : ∀ c ∈ m, gapB c = false), m.foldl gapS st = (st.1, st.2 ++ m)
  | [], st, _ => by simp
  | c :: m, st, h => by
    have h1 := h c (by simp)
    rw [List.foldl_cons, fold_more m _ (fun x hx => h x (by simp [hx]))]
    simp [gapS, h1]
def VInv (st : List (List UInt8) × List UInt8) : Prop := (∀ f ∈ st.1, validL f = true) ∧ validL st.2 = true
theorem run_valid (l : List UInt8) (hv : validL l = true) : ∀ st, VInv st → VInv (l.foldl gapS st) := by
  refine valid_induct (P := fun l => ∀ st, VInv st → VInv (l.foldl gapS st)) (fun st h => h) ?_ l hv
  intro l r n h _ ih st hst
  obtain ⟨h1, h2, h3, h4⟩ := decL_some h
  rw [← List.take_append_drop n l, List.foldl_append]
  refine ih _ ?_
  rw [h4]
  by_cases hone : sizeN (r : Int) = 1
  · rw [putL_one hone]
    have hvc : validL [b8 (r : Int)] = true := by rw [← putL_one hone]; exact validL_put _
    show VInv (gapS st (b8 (r : Int)))
    unfold gapS
    split
    · split
      · exact hst
      · refine ⟨fun f hf => ?_, rfl⟩
        rcases List.mem_append.1 hf with hf | hf
        · exact hst.1 f hf
        · rw [List.mem_singleton] at hf
          rw [hf]
          exact hst.2
    · refine ⟨hst.1, ?_⟩
      show validL (st.2 ++ [_]) = true
      rw [validL_append _ _ hst.2]
      exact hvc
  · rw [fold_more _ _ (put_high (by omega))]
    refine ⟨hst.1, ?_⟩
    show validL (st.2 ++ _) = true
    rw [validL_append _ _ hst.2]
    exact validL_put _
theorem flds_valid {l : List UInt8} (hv : validL l = true) : ∀ f ∈ fldsL l, validL f = true := by
  have h := run_valid l hv ([], []) ⟨fun f h => by simp at h, rfl⟩
  intro f hf
  unfold fldsL endG at hf
  split at hf
  · exact h.1 f hf
  · rcases List.mem_append.1 hf with hf | hf
    · exact h.1 f hf
    · rw [List.mem_singleton] at hf
      rw [hf]
      exact h.2
theorem tail_valid : ∀ (fs : List (List UInt8)) (_ : ∀ f ∈ fs, validL f = true), validL (Lib.joinTail [32] fs) = true
  | [], _ => rfl
  | f :: r, h => by
    rw [show Lib.joinTail [32] (f :: r) = [32] ++ (f ++ Lib.joinTail [32] r) by simp [Lib.joinTail], validL_append _ _ (by decide), validL_append _ _ (h f (by simp))]
    exact tail_valid r (fun x hx => h x (by simp [hx]))
theorem join_valid (fs : List (List UInt8)) (h : ∀ f ∈ fs, validL f = true) : validL (Lib.join fs [32]) = true := by
  cases fs with
  | nil => rfl
  | cons f r =>
    rw [Lib.join_cons, validL_append _ _ (h f (by simp))]
    exact tail_valid r (fun x hx => h x (by simp [hx]))
theorem latin_valid : ∀ l : List UInt8, validL (Wd.latinL l) = true
  | [] => rfl
  | c :: r => by
    rw [show Wd.latinL (c :: r) = putL (c.toNat : Int) ++ Wd.latinL r from rfl, validL_append _ _ (validL_put _)]
    exact latin_valid r
theorem read_valid (l : List UInt8) : validL (readL8 l) = true := by
  unfold readL8
  split
  · assumption
  · exact latin_valid l

/-! ### Words and gaps put together -/
theorem fold_gaps : ∀ (m : List UInt8) (o : List (List UInt8)) (_ : ∀ c ∈ m, gapB c = true), m.foldl gapS (o, []) = (o, [])
  | [], _, _ => rfl
  | c :: m, o, h => by
    have h1 := h c (by simp)
    rw [List.foldl_cons, show gapS (o, []) c = (o, []) by simp [gapS, h1]]
    exact fold_gaps m o (fun x hx => h x (by simp [hx]))
theorem fold_word (o : List (List UInt8)) (w g : List UInt8) (hw : w ≠ []) (hw2 : ∀ c ∈ w, gapB c = false) (hg : g ≠ []) (hg2 : ∀ c ∈ g, gapB c = true) : (w ++ g).foldl gapS (o, []) = (o ++ [w], []) := by
  rw [List.foldl_append, fold_more w _ hw2]
  cases g with
  | nil => exact absurd rfl hg
  | cons c r =>
    have h1 := hg2 c (by simp)
    rw [List.foldl_cons, show gapS (o, [] ++ w) c = (o ++ [w], []) by simp [gapS, h1, hw]]
    exact fold_gaps r _ (fun x hx => hg2 x (by simp [hx]))
/-- Words with gaps behind them: the words are the fields. -/
theorem words_flds (ws : List (List UInt8 × List UInt8)) (h : ∀ x ∈ ws, x.1 ≠ [] ∧ (∀ c ∈ x.1, gapB c = false) ∧ x.2 ≠ [] ∧ ∀ c ∈ x.2, gapB c = true) : fldsL (ws.flatMap fun x => x.1 ++ x.2) = ws.map (·.1) := by
  have hf : ∀ (ws : List (List UInt8 × List UInt8)) (o : List (List UInt8)) (_ : ∀ x ∈ ws, x.1 ≠ [] ∧ (∀ c ∈ x.1, gapB c = false) ∧ x.2 ≠ [] ∧ ∀ c ∈ x.2, gapB c = true), (ws.flatMap fun x => x.1 ++ x.2).foldl gapS (o, []) = (o ++ ws.map (·.1), []) := by
    intro ws
    induction ws with
    | nil => intro o _; simp
    | cons x r ih =>
      intro o h
      obtain ⟨h1, h2, h3, h4⟩ := h x (by simp)
      rw [List.flatMap_cons, List.foldl_append, fold_word o x.1 x.2 h1 h2 h3 h4, ih _ (fun y hy => h y (by simp [hy]))]
      simp
  unfold fldsL gapRun
  rw [hf ws [] h]
  simp [endG]
end Go.Proofs.YtnnbbjdidbggmaaGreatDoor.Lk
namespace Go.Proofs.YtnnbbjdidbggmaaGreatDoor.Lk
open Go Kit F0 Pt

/-! ### Low bytes -/
theorem valid_byte {c : UInt8} (h : c.toNat < 128) : U8.validL [c] = true ∧ U8.putL (c.toNat : Int) = [c] := by
  have h1 : U8.sizeN (c.toNat : Int) = 1 := U8.sizeN_one.2 ⟨by omega, by omega⟩
  have h2 : U8.putL (c.toNat : Int) = [c] := by
    rw [U8.putL_one h1]
    unfold U8.b8
    simp
  exact ⟨by rw [← h2]; exact U8.validL_put _, h2⟩
theorem valid_low : ∀ (l : List UInt8) (_ : ∀ c ∈ l, c.toNat < 128), U8.validL l = true
  | [], _ => rfl
  | c :: r, h => by
    rw [show c :: r = [c] ++ r from rfl, U8.validL_append _ _ (valid_byte (h c (by simp))).1]
    exact valid_low r (fun x hx => h x (by simp [hx]))
theorem cut_low : ∀ (l : List UInt8) (_ : ∀ c ∈ l, c.toNat < 128) (k : Nat), U8.cutN k l = min l.length k
  | [], _, k => by rw [U8.cutN_none U8.decL_nil]; simp
  | c :: r, h, 0 => by simp [U8.cutN]
  | c :: r, h, k + 1 => by
    obtain ⟨_, h2⟩ := valid_byte (h c (by simp))
    have h1 : U8.sizeN (c.toNat : Int) = 1 := U8.sizeN_one.2 ⟨by omega, by have := h c (by simp); omega⟩
    have hd := U8.decL_put (c.toNat : Int) (by omega) r
    rw [h2, h1] at hd
    have hd' : U8.decL (c :: r) = some ((c.toNat : Int).toNat, 1) := hd
    rw [U8.cutN_some hd', List.drop_one, List.tail_cons, cut_low r (fun x hx => h x (by simp [hx])) k, List.length_cons]
    omega

/-! ### Heads -/
theorem seg_all (s : List UInt8) : segL s 0 s.length = s := by
  unfold segL
  rw [List.take_length, List.drop_zero]
theorem seg_from (a t : List UInt8) : segL (a ++ t) a.length (a ++ t).length = t := by
  unfold segL
  rw [List.take_length, List.drop_left]
theorem find_leaf {s : List UInt8} {fs : List Pt.Fl} {n : Nat} (hh : Pt.headL s 0 s.length = (fs, n)) (hm : markL (typeL fs).1 (typeL fs).2 = none) (ht : (typeL fs).1 = plainT) (ha : attL fs = false) :
    ∃ x, findP (treeL s) = some x ∧ x.fm = n ∧ x.to = s.length ∧ x.enc = encL fs := by
  have hn : hasL s 0 s.length = none := by unfold hasL; rw [hh]; exact hm
  have hp : treeL s = partL s 0 s.length [] := by
    unfold treeL
    rw [read_leaf hn]
  refine ⟨partL s 0 s.length [], ?_, ?_, rfl, ?_⟩
  · rw [hp, partL, findP, hh]
    exact if_pos ⟨ht, ha⟩
  · show (Pt.headL s 0 s.length).2 = n
    rw [hh]
  · show encL (Pt.headL s 0 s.length).1 = _
    rw [hh]
theorem find_not {s : List UInt8} {fs : List Pt.Fl} {n : Nat} (hh : Pt.headL s 0 s.length = (fs, n)) (hm : markL (typeL fs).1 (typeL fs).2 = none) (ht : ¬ ((typeL fs).1 = plainT ∧ attL fs = false)) : findP (treeL s) = none := by
  have hn : hasL s 0 s.length = none := by unfold hasL; rw [hh]; exact hm
  have hp : treeL s = partL s 0 s.length [] := by
    unfold treeL
    rw [read_leaf hn]
  rw [hp, partL, findP, hh, if_neg ht]
  rfl
def hTy : List UInt8 := [67, 111, 110, 116, 101, 110, 116, 45, 84, 121, 112, 101, 58, 32, 116, 101, 120, 116, 47, 104, 116, 109, 108]
def hDi : List UInt8 := [67, 111, 110, 116, 101, 110, 116, 45, 68, 105, 115, 112, 111, 115, 105, 116, 105, 111, 110, 58, 32, 97, 116, 116, 97, 99, 104, 109, 101, 110, 116]
theorem head_all {s : List UInt8} {fs : List Pt.Fl} {n : Nat} (h : splitL 0 s.length s = (fs, n)) : Pt.headL s 0 s.length = (fs, n) := by
  unfold Pt.headL
  rw [seg_all]
  exact h
theorem find_ty (t : List UInt8) : findP (treeL (hTy ++ ([13, 10] ++ ([13, 10] ++ t)))) = none :=
  find_not (fs := oneL hTy) (head_all (head_one (e := [13, 10]) (Or.inr rfl) hTy t 0 _ (by decide) (by decide) (by decide) (by decide))) (by decide +kernel) (by decide +kernel)
theorem find_di (t : List UInt8) : findP (treeL (hDi ++ ([13, 10] ++ ([13, 10] ++ t)))) = none :=
  find_not (fs := oneL hDi) (head_all (head_one (e := [13, 10]) (Or.inr rfl) hDi t 0 _ (by decide) (by decide) (by decide) (by decide))) (by decide +kernel) (by decide +kernel)
theorem find_no (t : List UInt8) : ∃ x, findP (treeL ([13, 10] ++ t)) = some x ∧ x.fm = 2 ∧ x.to = ([13, 10] ++ t).length ∧ x.enc = bit7 :=
  find_leaf (fs := []) (head_all (head_empty (e := [13, 10]) (Or.inr rfl) t 0 _)) (by decide +kernel) (by decide +kernel) (by decide +kernel)
theorem prev_ty (t : List UInt8) : prevL (hTy ++ ([13, 10] ++ ([13, 10] ++ t))) = [] := by unfold prevL; rw [find_ty]
theorem prev_di (t : List UInt8) : prevL (hDi ++ ([13, 10] ++ ([13, 10] ++ t))) = [] := by unfold prevL; rw [find_di]
theorem prev_no (t : List UInt8) (h : ∀ c ∈ t, c.toNat < 128) (hj : ∀ c ∈ Lib.join (fldsL t) [32], c.toNat < 128) : prevL ([13, 10] ++ t) = (Lib.join (fldsL t) [32]).take (min (Lib.join (fldsL t) [32]).length 100) := by
  obtain ⟨x, h1, h2, h3, h4⟩ := find_no t
  have hs : saysL ([13, 10] ++ t) x = t := by
    unfold saysL
    rw [h2, h3, h4]
    have hc : contL ([13, 10] ++ t) bit7 2 ([13, 10] ++ t).length = t := by
      unfold contL
      rw [if_neg (by decide), if_neg (by decide)]
      exact seg_from [13, 10] t
    rw [hc]
    unfold readL8
    rw [valid_low t h]
    rfl
  unfold prevL
  rw [h1]
  show (Lib.join (fldsL (saysL _ x)) [32]).take (U8.cutN 100 (Lib.join (fldsL (saysL _ x)) [32])) = _
  rw [hs, cut_low _ hj]

/-! ### Words -/
def wd (n : Nat) : List UInt8 := [UInt8.ofNat (97 + n % 26), 122]
def gp (n : Nat) : List UInt8 := ([32, 13, 10, 9, 32] : List UInt8).take (1 + n % 5)
def bodyL (ns : List Nat) : List UInt8 := (ns.map fun n => (wd n, gp n)).flatMap fun x => x.1 ++ x.2
def wantL (ns : List Nat) : List UInt8 := Lib.join (ns.map wd) [32]
theorem wd_low (n : Nat) : ∀ c ∈ wd n, 32 < c.toNat ∧ c.toNat < 128 := by
  intro c hc
  unfold wd at hc
  simp only [List.mem_cons, List.not_mem_nil, or_false] at hc
  rcases hc with rfl | rfl
  · rw [UInt8.toNat_ofNat']
    omega
  · decide
theorem gp_low (n : Nat) : gp n ≠ [] ∧ ∀ c ∈ gp n, c.toNat ≤ 32 := by
  have h : n % 5 = 0 ∨ n % 5 = 1 ∨ n % 5 = 2 ∨ n % 5 = 3 ∨ n % 5 = 4 := by omega
  unfold gp
  rcases h with h | h | h | h | h <;> rw [h] <;> decide
theorem body_flds (ns : List Nat) : fldsL (bodyL ns) = ns.map wd := by
  unfold bodyL
  rw [words_flds]
  · rw [List.map_map]
    rfl
  · intro x hx
    obtain ⟨n, _, rfl⟩ := List.mem_map.1 hx
    refine ⟨by simp [wd], fun c hc => ?_, (gp_low n).1, fun c hc => ?_⟩
    · unfold gapB
      rw [decide_eq_false_iff_not]
      have := (wd_low n c hc).1
      omega
    · unfold gapB
      exact decide_eq_true ((gp_low n).2 c hc)
theorem body_low (ns : List Nat) : ∀ c ∈ bodyL ns, c.toNat < 128 := by
  intro c hc
  unfold bodyL at hc
  obtain ⟨x, hx, hc⟩ := List.mem_flatMap.1 hc
  obtain ⟨n, _, rfl⟩ := List.mem_map.1 hx
  rcases List.mem_append.1 hc with h | h
  · exact (wd_low n c h).2
  · have := (gp_low n).2 c h
    omega
theorem tail_low : ∀ (l : List (List UInt8)) (_ : ∀ f ∈ l, ∀ c ∈ f, c.toNat < 128), ∀ c ∈ Lib.joinTail [32] l, c.toNat < 128
  | [], _, c, hc => by simp [Lib.joinTail] at hc
  | f :: r, h, c, hc => by
    rw [show Lib.joinTail [32] (f :: r) = 32 :: (f ++ Lib.joinTail [32] r) by simp [Lib.joinTail], List.mem_cons, List.mem_append] at hc
    rcases hc with rfl | hc | hc
    · decide
    · exact h f (by simp) c hc
    · exact tail_low r (fun x hx => h x (by simp [hx])) c hc
theorem want_low (ns : List Nat) : ∀ c ∈ wantL ns, c.toNat < 128 := by
  intro c hc
  unfold wantL at hc
  cases ns with
  | nil => simp [Lib.join_nil] at hc
  | cons n r =>
    rw [List.map_cons, Lib.join_cons] at hc
    rcases List.mem_append.1 hc with h | h
    · exact (wd_low n c h).2
    · exact tail_low _ (fun f hf => by
        obtain ⟨m, _, rfl⟩ := List.mem_map.1 hf
        exact fun c hc => (wd_low m c hc).2) c h
theorem body_snoc (ns : List Nat) (n : Nat) : bodyL (ns ++ [n]) = bodyL ns ++ (wd n ++ gp n) := by simp [bodyL]
theorem want_snoc (ns : List Nat) (n : Nat) : wantL (ns ++ [n]) = wantL ns ++ ((if ns = [] then [] else [32]) ++ wd n) := by
  unfold wantL
  rw [List.map_append, List.map_singleton, join_snoc]
  simp only [List.map_eq_nil_iff]
theorem body_len (ns : List Nat) : (bodyL ns).length ≤ 7 * ns.length := by
  induction ns with
  | nil => simp [bodyL]
  | cons n r ih =>
    have h1 : (gp n).length ≤ 5 := by unfold gp; rw [List.length_take]; simp; omega
    have h2 : bodyL (n :: r) = wd n ++ gp n ++ bodyL r := by simp [bodyL]
    rw [h2, List.length_append, List.length_append, List.length_cons]
    have h3 : (wd n).length = 2 := rfl
    omega
theorem want_len (ns : List Nat) : (wantL ns).length ≤ 3 * ns.length := by
  have h := join_le (n := 2) (ns.map wd) (fun f hf => by
    obtain ⟨m, _, rfl⟩ := List.mem_map.1 hf
    exact Nat.le_refl 2)
  rw [List.length_map] at h
  unfold wantL
  omega
theorem texts_one (ns : List Nat) : prevL ([13, 10] ++ bodyL ns) = (wantL ns).take (min (wantL ns).length 100) := by
  have h := prev_no (bodyL ns) (body_low ns) (by rw [body_flds]; exact want_low ns)
  rw [body_flds] at h
  exact h
end Go.Proofs.YtnnbbjdidbggmaaGreatDoor.Lk
namespace Go.Proofs.YtnnbbjdidbggmaaGreatDoor.Lk
open Go Go.RowKit Go.Joins Kit F0 Pt

/-- The headers of a whole message. -/
theorem head_any (s : ByteArray) (w : World) (hs : s.size ≤ 32768) (hE : Srch.Env w) :
    Calls Tryz.prog 37 #[.string s, .int .i64 0, .int .i64 (s.size : Int)] w fun e w' => ∃ v, e = .returned (.tuple #[v, .int .i64 ((headL s.data.toList 0 s.size).2 : Int)]) ∧
      FAt w' v (headL s.data.toList 0 s.size).1 ∧ Below w.heap.size w w' :=
  (split_some s 0 s.size w hs (Nat.zero_le _) (Nat.le_refl _) hE).mono (fun e w' h => by
    obtain ⟨v, he, hr, hb⟩ := h
    exact ⟨v, he, RowF.at hr, hb⟩)
/-- .. and their sizes. -/
theorem head_small (s : ByteArray) (hs : s.size ≤ 32768) : (∀ f ∈ (headL s.data.toList 0 s.size).1, f.1.length ≤ 1073741824 ∧ f.2.length ≤ 1073741824) ∧ (headL s.data.toList 0 s.size).1.length ≤ 1073741824 ∧ ∀ n, (fvL (headL s.data.toList 0 s.size).1 n).length ≤ 32768 := by
  have h := head_sizes (s := s.data.toList) (a := 0) (b := s.size) (by rw [Lib.size_eq]; exact Nat.le_refl _)
  rw [← Lib.size_eq] at h
  refine ⟨fun f hf => by have := h.1 f hf; omega, by omega, fun n => ?_⟩
  unfold fvL fstL
  cases e : List.find? (fun f => Tx.foldL f.1 == Tx.foldL n) (headL s.data.toList 0 s.size).1 with
  | none => simp
  | some f =>
    have := h.1 f (List.mem_of_find?_eq_some e)
    simp only
    omega

theorem gone_new {W0 : World} {B A : Nat} {l : List UInt8} {w : World} (h : GatB W0 B A l w) (o : Obj) : GoneB W0 B A l w (w.alloc o) :=
  gone_next (gone_refl h) ((Below.refl _ w).alloc (Nat.le_refl _) o)
/-- Adding texts that are laid now. -/
theorem add_new (W0 : World) {B : Nat} (A : Nat) (l : List UInt8) (ts : List ByteArray) (cs : Array Value) (n : Nat) (w : World) (h : GatB W0 B A l w) (hcs : cs.toList = ts.map .string) (hn : ts.length = n) (hn9 : n ≤ 1099511627776) (hl : l.length + (flatT ts).length ≤ 1099511627776) :
    Calls Tryz.prog 53 #[.slice (some ⟨w.heap.size, 0, none⟩) n n, .pointer (some ⟨A, 0, none⟩)] (w.alloc (.cells cs 9)) fun e w' => e = .returned (.tuple #[]) ∧ GoneB W0 B A (l ++ flatT ts) w w' :=
  (add_any W0 A l ts cs w.heap.size n n (0, 0) _ (gone_new h _).gat (Kit.fresh_block w cs _) hcs hn hn9 hl).mono (fun _ _ h' => ⟨h'.1, gone_trans (gone_new h _) h'.2⟩)

set_option maxHeartbeats 2000000 in
set_option maxRecDepth 100000 in
theorem readable_any (s : ByteArray) (w : World) (hs : s.size ≤ 1099511627) :
    Calls Tryz.prog 32 #[.string s] w fun e w' => e = .returned (.string ⟨(readL8 s.data.toList).toArray⟩) ∧ Below w.heap.size w w' := by
  cases hv : U8.validL s.data.toList
  · have HV := Lib.hid hv
    have HR : Hid (readL8 s.data.toList = Wd.latinL s.data.toList) := Lib.hid (by unfold readL8; rw [hv]; rfl)
    clear hv
    go_enter Tryz.func32, Tryz.ntmps32
    go_wp2_with fail
    refine (U8.valid_any s (by omega) w).mono ?_
    rintro e w' ⟨rfl, rfl⟩
    rw [HV.out]
    go_wp2_with fail
    refine (gather_any w).mono ?_
    rintro e w1 ⟨rfl, rfl⟩
    have H0 : Hid (Gat w w.heap.size (Wd.latinL (s.data.toList.take 0)) (w.alloc (.cells #[.slice none 0 0] 32))) := Lib.hid (by rw [List.take_zero]; exact gat_new w)
    go_wp2_with fail
    go_loopw [15] (fun i wr => ∃ k : Nat, k ≤ s.size ∧ i = .int .i64 (k : Int) ∧ Hid (Gat w w.heap.size (Wd.latinL (s.data.toList.take k)) wr)) (fun i _ => s.size - (intOf i).toNat)
    case atStart => exact ⟨0, Nat.zero_le _, rfl, H0⟩
    case round =>
      clear H0
      obtain ⟨k, hk, rfl, hG⟩ := hrel
      by_cases hlt : k < s.size
      · have gk : (k : Int) < (s.size : Int) := by omega
        have hr := Wd.latin_room s k
        have g0 := (s[k]).toNat_lt
        have hst := Lib.hid (Wd.latin_take s k hlt)
        have hp := Wd.putB_le (s[k].toNat : Int)
        obtain ⟨L, hL⟩ : ∃ L, Wd.latinL (s.data.toList.take k) = L := ⟨_, rfl⟩
        rw [hL] at hr hG hst
        clear hL
        go_wp2_with fail
        refine (U8.put_any (s[k].toNat : Int) wr).mono ?_
        rintro e w2 ⟨rfl, hb2⟩
        have hG2 := Lib.hid (hG.out.next hb2)
        obtain ⟨T, hT⟩ : ∃ T, U8.putB (s[k].toNat : Int) = T := ⟨_, rfl⟩
        have hTd : Hid (T.data.toList = U8.putL (s[k].toNat : Int)) := Lib.hid (by rw [← hT]; simp [U8.putB])
        rw [hT] at hp ⊢
        have hfl : (flatT [T]).length = T.size := by rw [flatT_cons, flatT_nil, List.append_nil, ← Lib.size_eq]
        clear hT
        go_wp2_with fail
        refine (add_new w w.heap.size L [T] #[.string T] 1 w2 hG2.out rfl rfl (by decide) (by omega)).mono ?_
        rintro e w3 ⟨rfl, hg3⟩
        have HG3 := Lib.hid hg3.gat
        clear hg3
        go_wp2_with fail
        go_roundw
        case rel =>
          refine ⟨k + 1, by omega, by go_num, ?_⟩
          rw [hst.out, ← hTd.out]
          have := HG3
          rw [flatT_cons, flatT_nil, List.append_nil] at this
          exact this
        case measure => simp [intOf]; omega
      · have gk : ¬ (k : Int) < (s.size : Int) := by omega
        rw [List.take_of_length_le (by rw [← Lib.size_eq]; omega)] at hG
        go_wp2_with fail
        refine (told_any w w.heap.size _ wr hG.out).mono ?_
        rintro e w4 ⟨rfl, rfl⟩
        have HB := Lib.hid hG.out.below
        go_wp2_with fail
        go_ret
        rw [HR.out]
        exact ⟨rfl, HB.out⟩
  · have HV := Lib.hid hv
    have HR : Hid (readL8 s.data.toList = s.data.toList) := Lib.hid (by unfold readL8; rw [hv]; rfl)
    clear hv
    go_enter Tryz.func32, Tryz.ntmps32
    go_wp2_with fail
    refine (U8.valid_any s (by omega) w).mono ?_
    rintro e w' ⟨rfl, rfl⟩
    rw [HV.out]
    go_wp2_with fail
    go_ret
    rw [HR.out]
    exact ⟨rfl, Below.refl _ _⟩

theorem dec_small {l : List UInt8} (h : l.length ≤ 32768) : (Wd.decW true l).length ≤ 65536 := by
  have := Wd.decW_len _ true l (Nat.le_refl _)
  omega
set_option maxHeartbeats 2000000 in
set_option maxRecDepth 100000 in
theorem subject_any (s : ByteArray) (w : World) (hs : s.size ≤ 32768) (hE : Srch.Env w) :
    Calls Tryz.prog 16 #[.string s] w fun e w' => e = .returned (.string ⟨(subjL s.data.toList).toArray⟩) ∧ Below w.heap.size w w' := by
  have HE := Lib.hid hE
  have HS : Hid (subjL s.data.toList = readL8 (Wd.decW true (fvL (headL s.data.toList 0 s.size).1 subjN))) := Lib.hid (by unfold subjL; rw [Lib.size_eq])
  have HSM := Lib.hid (head_small s hs)
  have HH := Lib.hid (head_any s w hs hE)
  obtain ⟨fs, hfs⟩ : ∃ fs, (headL s.data.toList 0 s.size).1 = fs := ⟨_, rfl⟩
  obtain ⟨bd, hbd⟩ : ∃ bd, (headL s.data.toList 0 s.size).2 = bd := ⟨_, rfl⟩
  rw [hfs] at HS HSM
  rw [hfs, hbd] at HH
  clear hfs hbd hE
  go_enter Tryz.func16, Tryz.ntmps16
  go_wp2_with fail
  refine HH.out.mono ?_
  rintro e w1 ⟨v, rfl, hF, hb1⟩
  obtain ⟨va, vc, rfl, _⟩ := hF.form
  have HF := Lib.hid hF
  clear hF
  go_wp2_with fail
  refine (first_call _ fs ⟨#[83, 117, 98, 106, 101, 99, 116]⟩ w1 HF.out HSM.out.1 (by decide) HSM.out.2.1).mono ?_
  rintro e w2 ⟨rfl, hb2⟩
  rw [show fvL fs (ByteArray.mk #[83, 117, 98, 106, 101, 99, 116]).data.toList = fvL fs subjN from rfl]
  have hvz := HSM.out.2.2 subjN
  obtain ⟨V, hV⟩ : ∃ V, fvL fs subjN = V := ⟨_, rfl⟩
  rw [hV] at hvz HS ⊢
  clear hV
  have HB2 := Lib.hid (hb1.trans (hb2.mono hb1.size))
  have HE2 := Lib.hid (HE.out.next HB2.out)
  clear hb1 hb2
  unfold sV
  go_wp2_with fail
  refine (Wd.decode_any ⟨V.toArray⟩ w2 (by rw [Lib.size_mk]; omega) HE2.out).mono ?_
  rintro e w3 ⟨rfl, hb3⟩
  rw [show (ByteArray.mk V.toArray).data.toList = V from rfl]
  have HB3 := Lib.hid (HB2.out.trans (hb3.mono HB2.out.size))
  have hdz := dec_small hvz
  clear hb3
  go_wp2_with fail
  refine (readable_any ⟨(Wd.decW true V).toArray⟩ w3 (by rw [Lib.size_mk]; omega)).mono ?_
  rintro e w4 ⟨rfl, hb4⟩
  rw [show (ByteArray.mk (Wd.decW true V).toArray).data.toList = Wd.decW true V from rfl]
  go_wp2_with fail
  go_ret
  rw [HS.out]
  exact ⟨rfl, HB3.out.trans (hb4.mono HB3.out.size)⟩
end Go.Proofs.YtnnbbjdidbggmaaGreatDoor.Lk
namespace Go.Proofs.YtnnbbjdidbggmaaGreatDoor.U8
open Go Go.RowKit Go.Joins Kit

set_option maxHeartbeats 1000000 in
set_option maxRecDepth 100000 in
theorem cut_any (s : ByteArray) (n : Int) (n1 : n ≤ 9223372036854775807) (hs : s.size ≤ 140737488355328) (w : World) :
    Calls Tryz.prog 35 #[.string s, .int .i64 n] w fun e w' => e = .returned (.string (cutB s n.toNat)) ∧ Below w.heap.size w w' := by
  have hcb : Hid (cutB s n.toNat = ⟨(s.data.toList.take (cutN n.toNat s.data.toList)).toArray⟩) := by show _ = _; rfl
  go_enter Tryz.func35, Tryz.ntmps35
  go_wp2_with fail
  go_loop [5, 9] (fun x i => ∃ a k : Nat, a ≤ s.size ∧ (k : Int) ≤ max n 0 ∧ i = .int .i64 k ∧ x = .int .i64 a ∧ Hid (a + cutN (n.toNat - k) (s.data.toList.drop a) = cutN n.toNat s.data.toList)) (fun _ i => n.toNat - (intOf i).toNat)
  case atStart => exact ⟨0, 0, by omega, by omega, rfl, rfl, by show _ = _; simp⟩
  case round =>
    obtain ⟨a, k, ha, hk, rfl, rfl, hc⟩ := hrel
    have gs : (a : Int) ≤ s.size := by omega
    by_cases hlt : (k : Int) < n
    · cases hd : decL (s.data.toList.drop a) with
      | none =>
        have hend : Hid (s.extract 0 a = cutB s n.toNat) := by
          show _ = _
          rw [hcb.out, ← hc.out, cutN_none hd, extract_take]
          rfl
        have HD := Lib.hid hd
        clear hd
        go_wp2_with fail
        refine (get_none HD.out hs w).mono ?_
        rintro e w1 ⟨rfl, rfl⟩
        go_wp2_with fail
        refine (clone_any _ w ?_).mono ?_
        · rw [ByteArray.size_extract]; omega
        rintro e w1 ⟨rfl, hb⟩
        go_wp2
        go_ret
        exact ⟨ret_string hend.out, hb⟩
      | some p =>
        obtain ⟨r, m⟩ := p
        have hr := decL_room hd
        have hrl := decL_lt hd
        have hnx : Hid (a + m + cutN (n.toNat - (k + 1)) (s.data.toList.drop (a + m)) = cutN n.toNat s.data.toList) := by
          show _ = _
          rw [← hc.out, show n.toNat - k = n.toNat - (k + 1) + 1 by omega, cutN_some hd, List.drop_drop]
          omega
        have HD := Lib.hid hd
        clear hd
        go_wp2_with fail
        refine (get_some HD.out hs w).mono ?_
        rintro e w1 ⟨rfl, rfl⟩
        go_wp2
        go_round
        case rel => exact ⟨a + m, k + 1, by omega, by omega, by go_num, by go_num, hnx⟩
        case measure => simp [intOf]; omega
    · have hend : Hid (s.extract 0 a = cutB s n.toNat) := by
        show _ = _
        rw [hcb.out, ← hc.out, show n.toNat - k = 0 by omega, extract_take]
        rfl
      go_wp2_with fail
      refine (clone_any _ w ?_).mono ?_
      · rw [ByteArray.size_extract]; omega
      rintro e w1 ⟨rfl, hb⟩
      go_wp2
      go_ret
      exact ⟨ret_string hend.out, hb⟩
end Go.Proofs.YtnnbbjdidbggmaaGreatDoor.U8
namespace Go.Proofs.YtnnbbjdidbggmaaGreatDoor.Lk
open Go Go.RowKit Go.Joins Go.Shelf Kit F0 Pt

attribute [local go_sem] Oper.semAt_some

/-- It abides what turns blocks that are no cells. -/
theorem GatB.turn {W0 W W' : World} {B A : Nat} {l : List UInt8} {row : Option Nat} (h : GatB W0 B A l W) (hg : W.grownBy W' row) (hr : ∀ r, row = some r → W0.heap.size ≤ r ∧ ∃ o : Obj, W.heap[r]? = some o ∧ o.isCells = false) : GatB W0 B A l W' := by
  obtain ⟨v, h1, h2⟩ := h.box
  refine ⟨⟨v, h1.kept hg (fun e => ?_), own_keep h2 (fun g hg' hl => hg.block g hl (fun e => ?_))⟩, h.below.grown hg h.below.size (fun k e => (hr k e).1), h.base, h.rows, Nat.le_trans h.room hg.size⟩
  · obtain ⟨_, o, ho, hc⟩ := hr A e.symm
    rw [show W.heap[A]? = _ from h1] at ho
    cases ho
    cases hc
  · obtain ⟨_, o, ho, hc⟩ := hr g e.symm
    obtain ⟨_, _, c, fz, hb⟩ := buf_row h2 hg'
    rw [hb] at ho
    cases ho
    cases hc
theorem boxed_turn {W W' : World} {A : Nat} {t : TypeId} {v : Value} {row : Option Nat} (h : Boxed W A t v) (hg : W.grownBy W' row) (hr : ∀ r, row = some r → ∃ o : Obj, W.heap[r]? = some o ∧ o.isCells = false) : Boxed W' A t v :=
  h.kept hg (fun e => by
    obtain ⟨o, ho, hc⟩ := hr A e.symm
    rw [show W.heap[A]? = _ from h] at ho
    cases ho
    cases hc)
/-- Between two fields. -/
structure Pv (w0 : World) (B A5 A7 A1 A2 : Nat) (t : ByteArray) (pre : List Fd) (W : World) : Prop where
  gat : Gat w0 B (Lib.join (pre.map decF) [32]) W
  add : Boxed W A5 50 (.func (.func 53) #[] #[.pointer (some ⟨B, 0, none⟩)])
  blank : Boxed W A7 9 (.string (if pre = [] then ⟨#[]⟩ else ⟨#[32]⟩))
  boxes : BoxF t A1 A2 W
theorem Pv.turn {w0 : World} {B A5 A7 A1 A2 : Nat} {t : ByteArray} {pre : List Fd} {W W' : World} {row : Option Nat} (h : Pv w0 B A5 A7 A1 A2 t pre W) (hg : W.grownBy W' row) (hr : ∀ r, row = some r → w0.heap.size ≤ r ∧ ∃ o : Obj, W.heap[r]? = some o ∧ o.isCells = false) : Pv w0 B A5 A7 A1 A2 t pre W' :=
  ⟨h.gat.turn hg hr, boxed_turn h.add hg (fun r e => (hr r e).2), boxed_turn h.blank hg (fun r e => (hr r e).2), boxed_turn h.boxes.1 hg (fun r e => (hr r e).2), boxed_turn h.boxes.2 hg (fun r e => (hr r e).2)⟩
theorem fd_le (pre : List Fd) : ∀ f ∈ pre.map decF, f.length ≤ 1000000 := fun f hf => by
  obtain ⟨y, _, rfl⟩ := List.mem_map.1 hf
  unfold decF
  rw [← Lib.size_eq]
  exact y.2
theorem gone_boxed {W0 w w' : World} {B A : Nat} {l : List UInt8} (h : GoneB W0 B A l w w') {G : Nat} {T : TypeId} {v : Value} (hk : Boxed w G T v) (hT : T ≠ 5) (hA : G ≠ A) : Boxed w' G T v := gone_cell h hk hT hA

set_option maxHeartbeats 4000000 in
set_option maxRecDepth 100000 in
theorem preview_some (s : ByteArray) (w : World) (hs : s.size ≤ 32768) (hE : Srch.Env w) (hU : UT w) (hTree : TreeOk) (x : P) (hx : findP (treeL s.data.toList) = some x) :
    Calls Tryz.prog 13 #[.string s] w fun e w' => e = .returned (.string ⟨(prevL s.data.toList).toArray⟩) ∧ Below w.heap.size w w' := by
  have HT := Lib.hid (hTree s w hs hE)
  clear hTree
  have HWT := Lib.hid (tree_wt s.data.toList)
  have hins := find_ins _ 0 s.data.toList.length (tree_ins s.data.toList) x hx
  rw [← Lib.size_eq] at hins
  have HPL : Hid (prevL s.data.toList = (Lib.join (fldsL (saysL s.data.toList x)) [32]).take (U8.cutN 100 (Lib.join (fldsL (saysL s.data.toList x)) [32]))) := Lib.hid (by unfold prevL; rw [hx])
  have hsl := says_le s.data.toList x
  rw [← Lib.size_eq] at hsl
  have HX := Lib.hid hx
  have HE := Lib.hid hE
  have HU := Lib.hid hU
  obtain ⟨hi1, hi2⟩ := hins
  clear hx hE hU
  refine (callsIn_wide (n := 3)).1 ?_
  refine callsIn_of_wp_marks Tryz.func13 rfl trivial ?_ rfl
  simp only [Tryz.ntmps13, List.size_toArray, List.length_cons, List.length_nil, Nat.reduceAdd, Nat.reduceSub, Array.replicate_succ, Array.replicate_zero, List.push_toArray, List.append_toArray, List.nil_append, List.cons_append]
  gi_wp2_with fail
  refine ⟨trivial, ?_⟩
  refine (callsIn_wide.2 HT.out).mono ?_
  rintro e w1 ⟨c0, c1, c2, c3, c4, c5, c6, c7, rfl, hp, hb1⟩
  have hpk : PartAt (fun g => g < w1.heap.size) w1 (treeL s.data.toList) (.agg #[c0, c1, c2, c3, c4, c5, c6, c7]) := hp.keep (kept_block fun g _ _ _ _ hb => ⟨(Array.getElem?_eq_some_iff.1 hb).1, rfl⟩)
  have HF := Lib.hid (find_any (fun g => g < w1.heap.size) (treeL s.data.toList) w1 _ _ _ _ _ _ _ _ (fun g hg => hg) (by have := HWT.out; omega) hpk)
  clear hp hpk
  gi_wp2_with fail
  refine ⟨trivial, ?_⟩
  refine (callsIn_wide.2 HF.out).mono ?_
  rintro e w2 ⟨hb2, ⟨x', d0, d1, d2, d3, d4, d5, d6, d7, hx', rfl, hpx⟩ | ⟨hno, _⟩⟩
  case inr =>
    rw [HX.out] at hno
    cases hno
  obtain rfl : x = x' := Option.some.inj (HX.out.symm.trans hx')
  obtain ⟨ap, mp, ak, mk, e, _, _, _, _⟩ := part_cells hpx
  injection e with e
  injection e with e
  injection e with e0 e
  injection e with e1 e
  injection e with e2 e
  injection e with e3 e
  injection e with e4 e
  injection e with e5 e
  injection e with e6 e
  injection e with e7 e
  subst e0 e1 e2 e3 e4 e5 e6 e7
  have HB2 := Lib.hid (hb1.trans (hb2.mono hb1.size))
  clear hpx hb1 hb2 hx'
  obtain ⟨f, hf⟩ : ∃ f, x.fm = f := ⟨_, rfl⟩
  obtain ⟨t, ht⟩ : ∃ t, x.to = t := ⟨_, rfl⟩
  obtain ⟨enc, henc⟩ : ∃ enc, x.enc = enc := ⟨_, rfl⟩
  rw [hf, ht] at hi1
  rw [ht] at hi2
  have HSY : Hid (saysL s.data.toList x = readL8 (contL s.data.toList enc f t)) := Lib.hid (by unfold saysL; rw [hf, ht, henc])
  rw [hf, ht, henc]
  obtain ⟨ty, hty⟩ : ∃ b, x.ty = b := ⟨_, rfl⟩
  obtain ⟨np, hnp⟩ : ∃ b, x.ps.length = b := ⟨_, rfl⟩
  obtain ⟨att, hatt⟩ : ∃ b, x.att = b := ⟨_, rfl⟩
  obtain ⟨hd, hhd⟩ : ∃ b, x.hd = b := ⟨_, rfl⟩
  obtain ⟨nk, hnk⟩ : ∃ b, x.kids.length = b := ⟨_, rfl⟩
  rw [hty, hnp, hatt, hhd, hnk]
  clear hf ht henc hty hnp hatt hhd hnk
  unfold sV
  gi_wp2_with fail
  refine ⟨trivial, ?_⟩
  refine (callsIn_wide.2 (gather_any _)).mono ?_
  rintro e w4 ⟨rfl, rfl⟩
  gi_wp2_with fail
  have hW3s : (w2.alloc (.cells #[.string ⟨ty.toArray⟩, .slice ap np mp, .string ⟨enc.toArray⟩, .bool att, .int .i64 (hd : Int), .int .i64 (f : Int), .int .i64 (t : Int), .slice ak nk mk] 42)).heap.size = w2.heap.size + 1 := by simp
  have hbW3 := HB2.out.alloc HB2.out.size (.cells #[.string ⟨ty.toArray⟩, .slice ap np mp, .string ⟨enc.toArray⟩, .bool att, .int .i64 (hd : Int), .int .i64 (f : Int), .int .i64 (t : Int), .slice ak nk mk] 42)
  obtain ⟨W3, hW3⟩ : ∃ W3, w2.alloc (.cells #[.string ⟨ty.toArray⟩, .slice ap np mp, .string ⟨enc.toArray⟩, .bool att, .int .i64 (hd : Int), .int .i64 (f : Int), .int .i64 (t : Int), .slice ak nk mk] 42) = W3 := ⟨_, rfl⟩
  rw [hW3] at hW3s hbW3 ⊢
  have hg0 := gat_new W3
  have hn1 : (W3.alloc (.cells #[.slice none 0 0] 32)).heap.size = W3.heap.size + 1 := by simp
  obtain ⟨Va, hVa⟩ : ∃ V, W3.alloc (.cells #[.slice none 0 0] 32) = V := ⟨_, rfl⟩
  rw [hVa] at hg0 hn1 ⊢
  obtain ⟨B, hB⟩ : ∃ B, w2.heap.size + 1 = B := ⟨_, rfl⟩
  rw [hB] at hW3s ⊢
  rw [hW3s] at hg0 hn1
  have ha0 := boxed_at hn1 50 (.func (.func 53) #[] #[.pointer (some ⟨B, 0, none⟩)])
  have hg1 := hg0.next ((Below.refl _ Va).alloc (Nat.le_refl _) (.cells #[.func (.func 53) #[] #[.pointer (some ⟨B, 0, none⟩)]] 50))
  have hn2 : (Va.alloc (.cells #[.func (.func 53) #[] #[.pointer (some ⟨B, 0, none⟩)]] 50)).heap.size = B + 1 + 1 := by simp [hn1]
  obtain ⟨Vb, hVb⟩ : ∃ V, Va.alloc (.cells #[.func (.func 53) #[] #[.pointer (some ⟨B, 0, none⟩)]] 50) = V := ⟨_, rfl⟩
  rw [hVb] at ha0 hg1 hn2 ⊢
  have hk0 := boxed_at hn2 9 (.string ⟨#[]⟩)
  have hg2 := hg1.next ((Below.refl _ Vb).alloc (Nat.le_refl _) (.cells #[.string ⟨#[]⟩] 9))
  have ha1 := ha0.alloc (.cells #[.string ⟨#[]⟩] 9)
  obtain ⟨W4, hW4⟩ : ∃ V, Vb.alloc (.cells #[.string ⟨#[]⟩] 9) = V := ⟨_, rfl⟩
  rw [hW4] at hk0 hg2 ha1 ⊢
  have HB4 := Lib.hid (hbW3.trans (hg2.below.mono hbW3.size))
  have HBW3 := Lib.hid hbW3
  have HG2 := Lib.hid hg2
  have HA1 := Lib.hid ha1
  have HK0 := Lib.hid hk0
  have HW3S := Lib.hid hW3s
  clear hW3 hVa hVb hW4 hB hg0 hg1 hg2 ha0 ha1 hk0 hn1 hn2 hW3s hbW3
  refine ⟨trivial, ?_⟩
  refine (callsIn_wide.2 (content_any s enc f t _ _ _ _ _ W4 hs hi1 hi2 (HE.out.next HB4.out))).mono ?_
  rintro e w5 ⟨rfl, hb5⟩
  have hcl := cont_le s.data.toList enc f t
  rw [← Lib.size_eq] at hcl
  obtain ⟨cb, hcb⟩ : ∃ cb : ByteArray, (⟨(contL s.data.toList enc f t).toArray⟩ : ByteArray) = cb := ⟨_, rfl⟩
  have hcbl : cb.data.toList = contL s.data.toList enc f t := by rw [← hcb]
  have hcs : cb.size ≤ 32768 := by rw [Lib.size_eq, hcbl]; omega
  rw [hcb]
  gi_wp2_with fail
  refine ⟨trivial, ?_⟩
  refine (callsIn_wide.2 (readable_any cb w5 (by omega))).mono ?_
  rintro e w6 ⟨rfl, hb6⟩
  obtain ⟨tx, htx⟩ : ∃ tx : ByteArray, (⟨(readL8 cb.data.toList).toArray⟩ : ByteArray) = tx := ⟨_, rfl⟩
  have htl : tx.data.toList = saysL s.data.toList x := by rw [← htx, HSY.out, ← hcbl]
  have hts : tx.size ≤ 1000000 := by rw [Lib.size_eq, htl]; omega
  rw [htx]
  have HTL := Lib.hid htl
  have HB6 := Lib.hid (hb5.trans (hb6.mono hb5.size))
  clear hcb hcbl hcs htx hb5 hb6 htl hcl
  gi_wp2_with fail
  refine ⟨trivial, ?_⟩
  refine (fields_seq _ tx w6).mono ?_
  rintro e w7 ⟨rfl, rfl⟩
  have hbx1 : Boxed ((w6.alloc (.cells #[.string tx] 9)).alloc (.cells #[.func (.func 34) #[] #[]] 58)) w6.heap.size 9 (.string tx) := (Boxed.new w6 9 (.string tx)).alloc _
  have hbx2 : Boxed ((w6.alloc (.cells #[.string tx] 9)).alloc (.cells #[.func (.func 34) #[] #[]] 58)) (w6.heap.size + 1) 58 (.func (.func 34) #[] #[]) := boxed_at (by simp) _ _
  have hb7 : Below W4.heap.size W4 ((w6.alloc (.cells #[.string tx] 9)).alloc (.cells #[.func (.func 34) #[] #[]] 58)) := (HB6.out.alloc HB6.out.size _).alloc (Nat.le_trans HB6.out.size (by simp)) _
  obtain ⟨A1, hA1⟩ : ∃ A1, w6.heap.size = A1 := ⟨_, rfl⟩
  rw [hA1] at hbx1 hbx2 ⊢
  obtain ⟨W7, hW7⟩ : ∃ V, (w6.alloc (.cells #[.string tx] 9)).alloc (.cells #[.func (.func 34) #[] #[]] 58) = V := ⟨_, rfl⟩
  rw [hW7] at hbx1 hbx2 hb7
  have hA1s : W4.heap.size ≤ A1 := by rw [← hA1]; exact HB6.out.size
  have HPV : Hid (Pv W3 B (B + 1) (B + 1 + 1) A1 (A1 + 1) tx [] W7) := Lib.hid ⟨HG2.out.next hb7, HA1.out.kept (grown_below hb7) (by simp), HK0.out.kept (grown_below hb7) (by simp), hbx1, hbx2⟩
  have HB7 := Lib.hid (HB4.out.trans (hb7.mono HB4.out.size))
  have HWB : Hid (W3.heap.size ≤ W7.heap.size) := Lib.hid HPV.out.gat.size
  gi_wp2_with fail
  clear hA1 hW7 hbx1 hbx2 hb7
  have HA12 : Hid (B + 1 + 1 < A1) := Lib.hid (by have := HK0.out.lt; omega)
  clear hA1s
  have hWB := HWB.out
  have hBs : W3.heap.size = B := HW3S.out
  refine wpIn_rangeFunc_ownG rfl (by omega) (gf := 55) (lb := #[.pointer (some ⟨A1, 0, none⟩), .pointer (some ⟨A1 + 1, 0, none⟩)]) rfl trivial (enters_of Tryz.func55 (by kernel_rfl) rfl)
    (fields_stops _ dec_ok 2 (by omega) w.heap.size A1 (A1 + 1) tx hts W7 w (Nat.le_refl _) HB7.out HU.out HPV.out.boxes) (fun h k => KpL.t h k) (fun W l o o' hl h hc hw => kplF_put (w := W7) HB7.out.size l o o' hl h hc hw) (Below.refl _ _) (fun _ => rfl)
    (fun pre W => Pv W3 B (B + 1) (B + 1 + 1) A1 (A1 + 1) tx pre W)
    (fun c pre W => False)
    (fun pre X Y row hs' hg hr => hs'.turn hg (fun r e => ⟨Nat.le_trans hWB (hr r e).1, (hr r e).2⟩))
    (fun c pre X Y row hs' hg hr => hs'.elim)
    HPV.out
    (fun x => { tmps := #[.string s, undef, .string ⟨#[]⟩, .pointer (some ⟨w2.heap.size, 0, none⟩), .bool true, .pointer (some ⟨B + 1, 0, none⟩), .func (.func 54) #[] #[.pointer (some ⟨B, 0, none⟩)], .pointer (some ⟨B + 1 + 1, 0, none⟩), .string x.1,
      .tuple #[.agg #[.string ⟨ty.toArray⟩, .slice ap np mp, .string ⟨enc.toArray⟩, .bool att, .int .i64 (hd : Int), .int .i64 (f : Int), .int .i64 (t : Int), .slice ak nk mk], .bool true],
      .string s, .agg #[c0, c1, c2, c3, c4, c5, c6, c7],
      .tuple #[.agg #[.string ⟨ty.toArray⟩, .slice ap np mp, .string ⟨enc.toArray⟩, .bool att, .int .i64 (hd : Int), .int .i64 (f : Int), .int .i64 (t : Int), .slice ak nk mk], .bool true],
      .agg #[.string ⟨ty.toArray⟩, .slice ap np mp, .string ⟨enc.toArray⟩, .bool att, .int .i64 (hd : Int), .int .i64 (f : Int), .int .i64 (t : Int), .slice ak nk mk], .bool true, .bool true, .bool false,
      .tuple #[.func (.func 53) #[] #[.pointer (some ⟨B, 0, none⟩)], .func (.func 54) #[] #[.pointer (some ⟨B, 0, none⟩)]],
      .tuple #[.func (.func 53) #[] #[.pointer (some ⟨B, 0, none⟩)], .func (.func 54) #[] #[.pointer (some ⟨B, 0, none⟩)]],
      .func (.func 53) #[] #[.pointer (some ⟨B, 0, none⟩)], .func (.func 54) #[] #[.pointer (some ⟨B, 0, none⟩)], .string s,
      .agg #[.string ⟨ty.toArray⟩, .slice ap np mp, .string ⟨enc.toArray⟩, .bool att, .int .i64 (hd : Int), .int .i64 (f : Int), .int .i64 (t : Int), .slice ak nk mk],
      .string cb, .string tx, .func (.func 55) #[] #[.pointer (some ⟨A1, 0, none⟩), .pointer (some ⟨A1 + 1, 0, none⟩)], .string x.1, undef, undef, undef, undef, undef, undef, undef, undef], defers := [] }) ?assign ?body ?done ?stop
  case assign =>
    intro l x W K hK
    dsimp only [encF]
    gi_wp2
    exact hK
  case body =>
    rintro l pre x' W hpv hlt
    have hca := hpv.add.cell
    have hck := hpv.blank.cell
    have hfk := hpv.blank.frozen
    have HPW := Lib.hid hpv
    have hgs := hpv.gat.size
    have hjl := join_le (pre.map decF) (fd_le pre)
    rw [List.length_map] at hjl
    have hjm : pre.length * (1000000 + 1) ≤ 1000000 * (1000000 + 1) := Nat.mul_le_mul_right _ (by omega)
    obtain ⟨y, hy⟩ := x'
    have HADD : Hid (∀ b : ByteArray, (b.size ≤ 1) → Calls Tryz.prog 53 #[.slice (some ⟨W.heap.size, 0, none⟩) 2 2, .pointer (some ⟨B, 0, none⟩)] (W.alloc (.cells #[.string b, .string y] 9)) fun e w' => e = .returned (.tuple #[]) ∧ Gone W3 B (Lib.join (pre.map decF) [32] ++ flatT [b, y]) W w') := Lib.hid (fun b hb => add_new W3 B _ [b, y] _ 2 W HPW.out.gat rfl rfl (by omega) (by
      rw [flatT_cons, flatT_cons, flatT_nil, List.append_nil, List.length_append, ← Lib.size_eq, ← Lib.size_eq]
      omega))
    have HNX : Hid (∀ (b : ByteArray) (W' : World), b.data.toList = (if pre = [] then [] else [32]) → Gone W3 B (Lib.join (pre.map decF) [32] ++ flatT [b, y]) W W' → KeepsFrom W7.heap.size W (W'.setCell ⟨B + 1 + 1, 0, none⟩ (.string ⟨#[32]⟩)) ∧ KpL w.heap.size (BoxF tx A1 (A1 + 1)) W (W'.setCell ⟨B + 1 + 1, 0, none⟩ (.string ⟨#[32]⟩)) ∧ Pv W3 B (B + 1) (B + 1 + 1) A1 (A1 + 1) tx (pre ++ [(⟨y, hy⟩ : Fd)]) (W'.setCell ⟨B + 1 + 1, 0, none⟩ (.string ⟨#[32]⟩))) := Lib.hid (fun b W' hb hg => by
      have hne : ∀ {G : Nat} {T : TypeId} {v : Value}, Boxed W G T v → T ≠ 5 → G ≠ B → Boxed W' G T v := fun h1 h2 h3 => gone_boxed hg h1 h2 h3
      have hbb : ∀ {A : Nat} {T : TypeId} {v : Value}, Boxed W A T v → T ≠ 32 → A ≠ B := fun h1 h2 e => by
        obtain ⟨v', h3, _⟩ := HPW.out.gat.box
        subst e
        have h4 := Eq.trans (Eq.symm h1) h3
        injection h4 with h4
        injection h4 with _ h4
        exact h2 h4
      have hc1 := hne HPW.out.add (by decide) (by omega)
      have hc2 := hne HPW.out.blank (by decide) (by omega)
      have hc3 := hne HPW.out.boxes.1 (by decide) (hbb HPW.out.boxes.1 (by decide))
      have hc4 := hne HPW.out.boxes.2 (by decide) (hbb HPW.out.boxes.2 (by decide))
      have hk7 : ∀ {A : Nat} {T : TypeId} {v : Value}, Boxed W' A T v → T ≠ 9 → B + 1 + 1 ≠ A := fun h1 h2 e => by
        subst e
        have h4 := Eq.trans (Eq.symm h1) hc2
        injection h4 with h4
        injection h4 with _ h4
        exact h2 h4
      have ha12 : A1 ≠ B + 1 + 1 := fun e => by have := HA12.out; omega
      have hst := grownBy_setCell' W' (B + 1 + 1) (.string ⟨#[32]⟩)
      have hgat : GatB W3 W3.heap.size B (Lib.join ((pre ++ [(⟨y, hy⟩ : Fd)]).map decF) [32]) (W'.setCell ⟨B + 1 + 1, 0, none⟩ (.string ⟨#[32]⟩)) := by
        rw [List.map_append, List.map_singleton, join_snoc]
        have e1 : flatT [b, y] = (if pre.map decF = [] then [] else [32]) ++ decF ⟨y, hy⟩ := by
          rw [flatT_cons, flatT_cons, flatT_nil, List.append_nil, hb]
          simp only [List.map_eq_nil_iff]
          rfl
        rw [← e1]
        obtain ⟨v, hv, hrow⟩ := hg.gat.box
        refine ⟨⟨v, hv.kept hst (fun e => by have := Option.some.inj e; omega), own_keep hrow (fun g hg' hl => ?_)⟩, hg.gat.below.setCell (p := ⟨B + 1 + 1, 0, none⟩) (by show _ ≤ B + 1 + 1; omega) _, hg.gat.base, hg.gat.rows, Nat.le_trans hg.gat.room hst.size⟩
        refine Below.heap_setCell _ _ _ _ (fun e => ?_)
        obtain ⟨_, _, c, fz, hbk⟩ := buf_row hrow hg'
        have e' : g = B + 1 + 1 := e
        rw [e', show W'.heap[B + 1 + 1]? = _ from hc2] at hbk
        injection hbk with hbk
        injection hbk with _ hbk
        exact absurd hbk (by decide)
      refine ⟨⟨?_, fun k o hk ho hc => ?_⟩, ⟨?_, fun _ => ?_⟩, ⟨hgat, hc1.kept hst (by simp), ?_, ?_⟩⟩
      · exact Nat.le_trans hg.below.size hst.size
      · rw [Below.heap_setCell _ _ _ _ (fun e => ?_)]
        · exact gone_block hg ho (fun e => by
            obtain ⟨v', h3, _⟩ := HPW.out.gat.box
            rw [e, show W.heap[_]? = _ from h3] at ho
            cases ho
            cases hc) (fun c fz e => by rw [e] at hc; cases hc)
        · have e' : k = B + 1 + 1 := e
          rw [e', show W.heap[B + 1 + 1]? = _ from HPW.out.blank] at ho
          cases ho
          cases hc
      · exact (hg.below.mono (Nat.le_trans HBW3.out.size (by omega))).setCell (p := ⟨B + 1 + 1, 0, none⟩) (by have := HBW3.out.size; show _ ≤ B + 1 + 1; omega) _
      · exact ⟨hc3.kept hst (fun e => ha12 (Option.some.inj e)), hc4.kept hst (fun e => by have := HA12.out; have := Option.some.inj e; omega)⟩
      · rw [if_neg (by simp)]
        exact hc2.set _
      · exact ⟨hc3.kept hst (fun e => ha12 (Option.some.inj e)), hc4.kept hst (fun e => by have := HA12.out; have := Option.some.inj e; omega)⟩)
    have HC7 : Hid (∀ (b : ByteArray) (W' : World), Gone W3 B (Lib.join (pre.map decF) [32] ++ flatT [b, y]) W W' → W'.frozen? ⟨B + 1 + 1, 0, none⟩ = false ∧ W'.cell? ⟨B + 1 + 1, 0, none⟩ = some (.string (if pre = [] then ⟨#[]⟩ else ⟨#[32]⟩))) := Lib.hid (fun b W' hg => by
      have h2 := gone_boxed hg HPW.out.blank (by decide) (by omega)
      exact ⟨h2.frozen, h2.cell⟩)
    clear hpv hjl hjm
    by_cases hp : pre = []
    · rw [if_pos hp] at hck HC7
      rw [if_pos hp] at HNX
      have HP := Lib.hid hp
      clear hp
      gi_wp2_with fail
      refine ⟨trivial, ?_⟩
      refine (CallsIn.inRound l (callsIn_wide.2 (HADD.out ⟨#[]⟩ (by decide)))).mono ?_
      rintro e w8 ⟨rfl, hg8⟩
      have z1 := (HC7.out _ w8 hg8).1
      have z2 := (HC7.out _ w8 hg8).2
      have HG8 := Lib.hid (HNX.out ⟨#[]⟩ w8 rfl hg8)
      clear hg8
      gi_wp2_with fail
      exact HG8.out
    · rw [if_neg hp] at hck HC7
      rw [if_neg hp] at HNX
      have HP := Lib.hid hp
      clear hp
      gi_wp2_with fail
      refine ⟨trivial, ?_⟩
      refine (CallsIn.inRound l (callsIn_wide.2 (HADD.out ⟨#[32]⟩ (by decide)))).mono ?_
      rintro e w8 ⟨rfl, hg8⟩
      have z1 := (HC7.out _ w8 hg8).1
      have z2 := (HC7.out _ w8 hg8).2
      have HG8 := Lib.hid (HNX.out ⟨#[32]⟩ w8 rfl hg8)
      clear hg8
      gi_wp2_with fail
      exact HG8.out
  case done =>
    rintro D ys W hD hys hpv hK
    have HTO := Lib.hid (told_any W3 B _ W hpv.gat)
    have HJ : Hid (Lib.join (ys.map decF) [32] = Lib.join (fldsL (saysL s.data.toList x)) [32]) := Lib.hid (by rw [hys, HTL.out])
    rw [HJ.out] at HTO
    obtain ⟨J, hJ⟩ : ∃ J : ByteArray, (⟨(Lib.join (fldsL (saysL s.data.toList x)) [32]).toArray⟩ : ByteArray) = J := ⟨_, rfl⟩
    rw [hJ] at HTO
    have hJl : J.data.toList = Lib.join (fldsL (saysL s.data.toList x)) [32] := by rw [← hJ]
    have hJs : J.size ≤ 140737488355328 := by
      rw [Lib.size_eq, hJl, ← HJ.out]
      have h1 := join_le (ys.map decF) (fd_le ys)
      rw [List.length_map] at h1
      have h2 := gap_count tx.data.toList
      have h3 : ys.length ≤ 1000001 := by
        have := congrArg List.length hys
        rw [List.length_map] at this
        rw [this]
        have h4 : (fldsL tx.data.toList).length ≤ (gapRun tx.data.toList).1.length + 1 := by
          unfold fldsL endG
          split
          · omega
          · simp
        rw [← Lib.size_eq] at h2
        omega
      have h5 : ys.length * (1000000 + 1) ≤ 1000001 * (1000000 + 1) := Nat.mul_le_mul_right _ h3
      omega
    have HRES : Hid (U8.cutB J 100 = ⟨(prevL s.data.toList).toArray⟩) := Lib.hid (by
      unfold U8.cutB
      rw [HPL.out, hJl])
    have HBW := Lib.hid (HBW3.out.trans (hpv.gat.below.mono HBW3.out.size))
    clear hpv hJ hJl hys
    gi_wp2_with fail
    refine ⟨trivial, ?_⟩
    refine (callsIn_wide.2 HTO.out).mono ?_
    rintro e w9 ⟨rfl, rfl⟩
    gi_wp2_with fail
    refine ⟨trivial, ?_⟩
    refine (callsIn_wide.2 (U8.cut_any J 100 (by omega) hJs w9)).mono ?_
    rintro e w10 ⟨rfl, hb10⟩
    have hK10 : w10.heap[D]? = some (.deferred (some [])) := (hb10.block D (Array.getElem?_eq_some_iff.1 hK).1).trans hK
    have HB10 := Lib.hid (HBW.out.trans (hb10.mono HBW.out.size))
    have hDw : w.heap.size ≤ D := Nat.le_trans HB7.out.size hD
    have HFIN : Hid (Below w.heap.size w (w10.putObj D (.deferred none))) := Lib.hid (HB10.out.grown (grownBy_putObj' w10 D (.deferred none)) HB10.out.size (fun k e => by cases e; exact hDw))
    have HK10 := Lib.hid hK10
    rw [show (100 : Int).toNat = 100 from rfl, HRES.out]
    clear hb10 hK hK10
    gi_wp2_with fail
    refine ⟨by simp, .inl ⟨_, _, rfl, run_takeDeferred HK10.out, ?_⟩⟩
    refine ⟨.string ⟨(prevL s.data.toList).toArray⟩, ?_, rfl, HFIN.out⟩
    simp [results, Tryz.f13, go_sem]
  case stop =>
    rintro D c pre W hD _ hf
    exact hf.elim
end Go.Proofs.YtnnbbjdidbggmaaGreatDoor.Lk
namespace Go.Proofs.YtnnbbjdidbggmaaGreatDoor.Lk
open Go Go.RowKit Go.Joins Kit F0 Pt

set_option maxHeartbeats 2000000 in
set_option maxRecDepth 100000 in
theorem preview_none (s : ByteArray) (w : World) (hs : s.size ≤ 32768) (hE : Srch.Env w) (hno : findP (treeL s.data.toList) = none) :
    Calls Tryz.prog 13 #[.string s] w fun e w' => e = .returned (.string ⟨#[]⟩) ∧ Below w.heap.size w w' := by
  have HT := Lib.hid (tree_any s w hs hE)
  have HW := Lib.hid (tree_wt s.data.toList)
  have HNO := Lib.hid hno
  clear hno hE
  go_enter Tryz.func13, Tryz.ntmps13
  go_wp2_with fail
  refine HT.out.mono ?_
  rintro e w1 ⟨c0, c1, c2, c3, c4, c5, c6, c7, rfl, hp, hb1⟩
  have hpk : PartAt (fun g => g < w1.heap.size) w1 (treeL s.data.toList) (.agg #[c0, c1, c2, c3, c4, c5, c6, c7]) := hp.keep (kept_block fun g _ _ _ _ hb => ⟨(Array.getElem?_eq_some_iff.1 hb).1, rfl⟩)
  have HF := Lib.hid (find_any (fun g => g < w1.heap.size) (treeL s.data.toList) w1 _ _ _ _ _ _ _ _ (fun g hg => hg) (by have := HW.out; omega) hpk)
  clear hp hpk
  go_wp2_with fail
  refine HF.out.mono ?_
  rintro e w2 ⟨hb2, ⟨x, d0, d1, d2, d3, d4, d5, d6, d7, hx, _, _⟩ | ⟨_, rfl⟩⟩
  · rw [HNO.out] at hx
    cases hx
  · have HB2 := Lib.hid (hb1.trans (hb2.mono hb1.size))
    have HB3 : Hid (∀ o, Below w.heap.size w (w2.alloc o)) := Lib.hid (fun o => HB2.out.alloc HB2.out.size o)
    clear hb1 hb2
    unfold zS zL zB zI
    go_wp2_with fail
    go_ret
    exact ⟨rfl, HB3.out _⟩
end Go.Proofs.YtnnbbjdidbggmaaGreatDoor.Lk
namespace Go.Proofs.YtnnbbjdidbggmaaGreatDoor.Lk
open Go Go.RowKit Go.Joins Kit F0 Pt

theorem srch_of {w : World} (h : Tx.Env w) : Srch.Env w := ⟨h.max⟩
theorem nstr_len (fs : List F0.Fl) (n : List UInt8) (h : (fvL fs n).length ≤ 32768) : (nstrL fs n).length ≤ 65556 := by
  unfold nstrL
  unfold fvL at h
  cases e : fstL fs n with
  | none => decide
  | some f =>
    rw [e] at h
    simp only at h ⊢
    have := str_len f.2 (by omega)
    omega

set_option maxHeartbeats 1000000 in
set_option maxRecDepth 100000 in
theorem nstring_any (v : Value) (fs : List F0.Fl) (name : ByteArray) (w : World) (hv : FAt w v fs) (hsz : ∀ f ∈ fs, f.1.length ≤ 1073741824 ∧ f.2.length ≤ 1073741824) (hn : name.size ≤ 1073741824) (hc : fs.length ≤ 1073741824) (hE : Tx.Env w) :
    Calls Tryz.prog 42 #[v, .string name] w fun e w' => e = .returned (.string ⟨(nstrL fs name.data.toList).toArray⟩) ∧ Below w.heap.size w w' := by
  have HE := Lib.hid hE
  have HF := Lib.hid (first_call v fs name w hv hsz hn hc)
  have hz := fv_len hsz name.data.toList
  obtain ⟨va, vc, rfl, _⟩ := hv.form
  clear hv hE hsz
  cases e : fstL fs name.data.toList with
  | none =>
    have HN : Hid (nstrL fs name.data.toList = nilT) := Lib.hid (by unfold nstrL; rw [e])
    have H1 : Hid (fvL fs name.data.toList = []) := Lib.hid (by unfold fvL; rw [e])
    rw [e, H1.out] at HF
    clear e hz
    go_enter Tryz.func42, Tryz.ntmps42
    go_wp2_with fail
    refine HF.out.mono ?_
    rintro e w1 ⟨rfl, hb1⟩
    unfold sV Option.isSome
    go_wp2_with fail
    go_ret
    rw [HN.out]
    exact ⟨rfl, hb1⟩
  | some f =>
    have HN : Hid (nstrL fs name.data.toList = Tx.strL f.2) := Lib.hid (by unfold nstrL; rw [e])
    have h1 : fvL fs name.data.toList = f.2 := by unfold fvL; rw [e]
    rw [e, h1] at HF
    rw [h1] at hz
    obtain ⟨V, hV⟩ : ∃ V, f.2 = V := ⟨_, rfl⟩
    rw [hV] at HN HF hz
    clear e h1 hV
    go_enter Tryz.func42, Tryz.ntmps42
    go_wp2_with fail
    refine HF.out.mono ?_
    rintro e w1 ⟨rfl, hb1⟩
    have HE1 := Lib.hid (HE.out.next hb1)
    unfold sV Option.isSome
    go_wp2_with fail
    refine (Tx.string_any ⟨V.toArray⟩ w1 (by rw [Lib.size_mk]; omega) HE1.out).mono ?_
    rintro e w2 ⟨rfl, hb2⟩
    go_wp2_with fail
    go_ret
    rw [HN.out]
    exact ⟨rfl, hb1.trans (hb2.mono hb1.size)⟩

set_option maxHeartbeats 1000000 in
set_option maxRecDepth 100000 in
theorem addresses_any (v : Value) (fs : List F0.Fl) (name : ByteArray) (w : World) (hv : FAt w v fs) (hsz : ∀ f ∈ fs, f.1.length ≤ 1073741824 ∧ f.2.length ≤ 1073741824) (hz : (fvL fs name.data.toList).length ≤ 32768) (hn : name.size ≤ 1073741824) (hc : fs.length ≤ 1073741824) (hE : Srch.Env w) :
    Calls Tryz.prog 41 #[v, .string name] w fun e w' => ∃ u, e = .returned u ∧ Ad.RowA w.heap.size u (addrsL fs name.data.toList) w' ∧ Below w.heap.size w w' := by
  have HE := Lib.hid hE
  have HF := Lib.hid (first_call v fs name w hv hsz hn hc)
  obtain ⟨va, vc, rfl, _⟩ := hv.form
  have HA : Hid (addrsL fs name.data.toList = Ad.docA (fvL fs name.data.toList)) := Lib.hid rfl
  obtain ⟨V, hV⟩ : ∃ V, fvL fs name.data.toList = V := ⟨_, rfl⟩
  rw [hV] at HA HF hz
  clear hv hE hsz hV
  go_enter Tryz.func41, Tryz.ntmps41
  go_wp2_with fail
  refine HF.out.mono ?_
  rintro e w1 ⟨rfl, hb1⟩
  have HE1 := Lib.hid (HE.out.next hb1)
  unfold sV
  go_wp2_with fail
  refine (Ad.list_any ⟨V.toArray⟩ w1 (by rw [Lib.size_mk]; omega) HE1.out).mono ?_
  rintro e w2 ⟨u, rfl, hr, hb2⟩
  obtain ⟨ua, uc, rfl⟩ := Ad.row_form hr
  have HR := Lib.hid hr
  clear hr
  go_wp2_with fail
  go_ret
  rw [HA.out]
  refine ⟨_, rfl, ?_, hb1.trans (hb2.mono hb1.size)⟩
  have h := HR.out
  exact ⟨h.1, h.2.imp id (fun ⟨g, cap, cur, a, b, c⟩ => ⟨g, cap, cur, a, Nat.le_trans hb1.size b, c⟩)⟩
end Go.Proofs.YtnnbbjdidbggmaaGreatDoor.Lk
namespace Go.Proofs.YtnnbbjdidbggmaaGreatDoor.Lk
open Go Go.RowKit Go.Joins Kit F0 Pt

/-- A row of addresses of the call's own stays while texts are added. -/
theorem row_gone {W0 w w' : World} {A : Nat} {l m : List UInt8} {B : Nat} {v : Value} {T : List Ad.Ad3} (h : Ad.RowA B v T w) (hg : Gat W0 A l w) (hk : Gone W0 A m w w') : Ad.RowA B v T w' := by
  refine Ad.row_keep h (fun g hv _ => ?_)
  obtain ⟨_, cur, hh⟩ := Ad.row_block h hv
  obtain ⟨u, hu, _⟩ := hg.box
  rw [hh]
  refine gone_cell hk hh (by decide) (fun e => ?_)
  subst e
  rw [show w.heap[g]? = _ from hu] at hh
  injection hh with hh
  injection hh with _ hh
  exact absurd hh (by decide)
theorem flat_take (T : List Ad.Ad3) (k : Nat) (h : k < T.length) : (T.take (k + 1)).flatMap oneAdL = (T.take k).flatMap oneAdL ++ oneAdL T[k] := by
  rw [List.take_succ_eq_append_getElem h, List.flatMap_append]
  simp
theorem flat_take_len (T : List Ad.Ad3) (k : Nat) : ((T.take k).flatMap oneAdL).length ≤ (T.flatMap oneAdL).length := by
  have : T.flatMap oneAdL = (T.take k).flatMap oneAdL ++ (T.drop k).flatMap oneAdL := by rw [← List.flatMap_append, List.take_append_drop]
  rw [this, List.length_append]
  omega
def oneT (N B H : List UInt8) : List ByteArray := [⟨#[40]⟩, ⟨N.toArray⟩, ⟨#[32]⟩, ⟨#[78, 73, 76]⟩, ⟨#[32]⟩, ⟨B.toArray⟩, ⟨#[32]⟩, ⟨H.toArray⟩, ⟨#[41]⟩]
theorem oneT_flat (N B H : List UInt8) : flatT (oneT N B H) = [40] ++ N ++ [32] ++ nilT ++ [32] ++ B ++ [32] ++ H ++ [41] := by
  simp [oneT, flatT, nilT]

/-- What the round that tells an address goes by: what is gathered, the variable at block q. -/
structure Rd (W0 : World) (A : Nat) (M : List UInt8) (w : World) (q : Nat) (Bx Hx : List UInt8) (X : World) : Prop where
  gone : Gone W0 A M w X
  c1 : X.cell? ⟨q, 1, none⟩ = some (.string ⟨Bx.toArray⟩)
  c2 : X.cell? ⟨q, 2, none⟩ = some (.string ⟨Hx.toArray⟩)
  env : Tx.Env X
theorem Rd.next {W0 : World} {A : Nat} {M : List UInt8} {w : World} {q : Nat} {Bx Hx : List UInt8} {X Y : World} (h : Rd W0 A M w q Bx Hx X) (hb : Below X.heap.size X Y) : Rd W0 A M w q Bx Hx Y :=
  ⟨gone_next h.gone hb, (hb.cell (p := ⟨q, 1, none⟩) (cell_lt h.c1)).trans h.c1, (hb.cell (p := ⟨q, 2, none⟩) (cell_lt h.c2)).trans h.c2, h.env.next hb⟩

set_option maxHeartbeats 4000000 in
set_option maxRecDepth 100000 in
theorem adds_any (W0 : World) (A : Nat) (m : List UInt8) (B : Nat) (u : Value) (T : List Ad.Ad3) (w : World) (h : Gat W0 A m w) (hr : Ad.RowA B u T w) (hT : TS 65539 T) (hT2 : T.length ≤ 65539) (hm : m.length ≤ 500000000000) (hE0 : ∀ w', Below W0.heap.size w w' → Tx.Env w') :
    Calls Tryz.prog 43 #[.func (.func 53) #[] #[.pointer (some ⟨A, 0, none⟩)], u] w fun e w' => e = .returned (.tuple #[]) ∧ Gone W0 A (m ++ adL T) w w' := by
  obtain ⟨ua, uc, rfl⟩ := Ad.row_form hr
  by_cases h0 : T = []
  · subst h0
    have HG := Lib.hid h
    have HA : Hid (flatT [⟨#[78, 73, 76]⟩] = adL []) := Lib.hid rfl
    clear h hr
    go_enter Tryz.func43, Tryz.ntmps43
    go_wp2_with fail
    refine (add_new W0 A m [⟨#[78, 73, 76]⟩] #[.string ⟨#[78, 73, 76]⟩] 1 w HG.out rfl rfl (by decide) (by show m.length + 3 ≤ _; omega)).mono ?_
    rintro e w1 ⟨rfl, hg1⟩
    rw [HA.out] at hg1
    have HG1 := Lib.hid hg1
    clear hg1
    go_wp2_with fail
    refine bodyPost_ret (results_none rfl _ _ _) rfl ?_
    exact ⟨rfl, HG1.out⟩
  · have hlen : 0 < T.length := List.length_pos_iff.2 h0
    have HAD : Hid (adL T = [40] ++ T.flatMap oneAdL ++ [41]) := Lib.hid (by unfold adL; rw [if_neg h0])
    have HFL : Hid ((T.flatMap oneAdL).length ≤ 40000000000) := Lib.hid (by
      have h3 := flat_len (by decide) hT
      have h4 : T.length * (8 * 65539 + 100) ≤ 65539 * (8 * 65539 + 100) := Nat.mul_le_mul_right _ hT2
      omega)
    have HT := Lib.hid hT
    have HG := Lib.hid h
    have HR := Lib.hid hr
    have HE0 := Lib.hid hE0
    clear h hr hE0 hT h0
    go_enter Tryz.func43, Tryz.ntmps43
    go_wp2_with fail
    refine (add_new W0 A m [⟨#[40]⟩] #[.string ⟨#[40]⟩] 1 w HG.out rfl rfl (by decide) (by show m.length + 1 ≤ _; omega)).mono ?_
    rintro e w1 ⟨rfl, hg1⟩
    have H1 : Hid (Gone W0 A (m ++ [40] ++ (T.take 0).flatMap oneAdL) w w1) := Lib.hid (by
      rw [List.take_zero, List.flatMap_nil, List.append_nil]
      exact hg1)
    clear hg1
    go_wp2_with fail
    go_loopw [18] (fun i wr => ∃ k : Nat, k ≤ T.length ∧ i = .int .i64 (k : Int) ∧ Hid (Gone W0 A (m ++ [40] ++ (T.take k).flatMap oneAdL) w wr)) (fun i _ => T.length - (intOf i).toNat)
    case atStart => exact ⟨0, Nat.zero_le _, rfl, H1⟩
    case round =>
      clear H1
      obtain ⟨k, hk, rfl, hG⟩ := hrel
      by_cases hlt : k < T.length
      · have gk : (k : Int) < (T.length : Int) := by omega
        have HRk := Ad.RowA.at (row_gone HR.out HG.out hG.out)
        obtain ⟨a2, cap2, he2, hcell⟩ := HRk.form
        injection he2 with e1 _ e3
        subst e1 e3
        obtain ⟨g, o, rfl, hgl, c0, c1, c2⟩ := hcell k hlt
        have hts := HT.out T[k] (List.getElem_mem hlt)
        have hfk := flat_take_len T k
        have HST : Hid ((T.take (k + 1)).flatMap oneAdL = (T.take k).flatMap oneAdL ++ oneAdL T[k]) := Lib.hid (flat_take T k hlt)
        obtain ⟨a, ha⟩ : ∃ a, T[k] = a := ⟨_, rfl⟩
        rw [ha] at c0 c1 c2 hts HST
        obtain ⟨N, Bx, Hx⟩ := a
        obtain ⟨M, hM⟩ : ∃ M, m ++ [40] ++ (T.take k).flatMap oneAdL = M := ⟨_, rfl⟩
        have hMl : M.length ≤ 600000000000 := by
          have := HFL.out
          rw [← hM, List.length_append, List.length_append, List.length_singleton]
          omega
        have HNX : Hid (m ++ [40] ++ (T.take (k + 1)).flatMap oneAdL = M ++ oneAdL (N, Bx, Hx)) := Lib.hid (by rw [HST.out, ← hM, List.append_assoc, List.append_assoc, List.append_assoc])
        rw [hM] at hG
        simp only at c0 c1 c2 hts
        obtain ⟨t1, t2, t3⟩ := hts
        unfold Ad.sV at c0 c1 c2
        clear hcell HRk ha hM hfk HST
        have HSTR : Hid (∀ (l : List UInt8) (W : World), Hid (l.length ≤ 131078) → Tx.Env W → Calls Tryz.prog 75 #[.string ⟨l.toArray⟩] W fun e w' => e = .returned (.string ⟨(Tx.strL l).toArray⟩) ∧ Below W.heap.size W w') := Lib.hid (fun l W h1 h2 => Tx.string_any ⟨l.toArray⟩ W (by rw [Lib.size_mk]; have := h1.out; omega) h2)
        have HB : Hid (Bx.length ≤ 131078) := Lib.hid (by omega)
        have HH : Hid (Hx.length ≤ 131078) := Lib.hid (by omega)
        have HN : Hid (N.length ≤ 131078) := Lib.hid (by omega)
        have hX0 : Rd W0 A M w wr.heap.size Bx Hx (wr.alloc (.cells #[.string ⟨N.toArray⟩, .string ⟨Bx.toArray⟩, .string ⟨Hx.toArray⟩] 103)) :=
          ⟨gone_next hG.out ((Below.refl _ wr).alloc (Nat.le_refl _) _), Lib.cell_of_heap (Kit.fresh_block wr _ _) 1, Lib.cell_of_heap (Kit.fresh_block wr _ _) 2, HE0.out _ (hG.out.below.trans (((Below.refl _ wr).alloc (Nat.le_refl _) _).mono hG.out.gat.room))⟩
        have HX0 := Lib.hid hX0
        clear hX0
        have HONE : Hid (oneAdL (N, Bx, Hx) = flatT (oneT (if N = [] then nilT else Tx.strL N) (Tx.strL Bx) (Tx.strL Hx))) := Lib.hid (by rw [oneT_flat]; rfl)
        have HBND : Hid (M.length + (flatT (oneT (if N = [] then nilT else Tx.strL N) (Tx.strL Bx) (Tx.strL Hx))).length ≤ 1099511627776) := Lib.hid (by
          rw [← HONE.out]
          have := one_len (n := 65539) (a := (N, Bx, Hx)) (by decide) ⟨t1, t2, t3⟩
          omega)
        by_cases hN : N = []
        · subst hN
          rw [if_pos rfl] at HONE HBND
          go_wp2_with fail
          have hRd := HX0.out
          have q1 := hRd.c1
          have q2 := hRd.c2
          generalize (wr.alloc (.cells #[.string ⟨([] : List UInt8).toArray⟩, .string ⟨Bx.toArray⟩, .string ⟨Hx.toArray⟩] 103)) = X at *
          have hRd2 := hRd.next ((Below.refl _ X).drew)
          clear hRd
          go_region_with (first
            | (refine (HSTR.out _ _ (by assumption) (Rd.env (by assumption))).mono ?_; rintro e7 w7 ⟨rfl, hb7⟩; have hRd7 := Rd.next (by assumption) hb7; have p1 := hRd7.c1; have p2 := hRd7.c2)
            | (refine (add_new W0 A M (oneT nilT (Tx.strL Bx) (Tx.strL Hx)) _ 9 _ (Rd.gone (by assumption)).gat rfl rfl (by decide) HBND.out).mono ?_; rintro e8 w8 ⟨rfl, hg8⟩; have HG8 := Lib.hid (gone_trans (Rd.gone (by assumption)) hg8)))
          all_goals
            go_wp2_with fail
            go_roundw
            case rel =>
              refine ⟨k + 1, by omega, by go_num, ?_⟩
              rw [HNX.out, HONE.out]
              exact HG8
            case measure => simp [intOf]; omega
        · have gN : (N == []) = false := by simpa using hN
          rw [if_neg hN] at HONE HBND
          clear hN
          go_wp2_with fail
          have hRd0 := HX0.out
          generalize (wr.alloc (.cells #[.string ⟨N.toArray⟩, .string ⟨Bx.toArray⟩, .string ⟨Hx.toArray⟩] 103)) = X0 at *
          refine (HSTR.out N X0 HN hRd0.env).mono ?_
          rintro e6 X ⟨rfl, hb6⟩
          have hRd := hRd0.next hb6
          have q1 := hRd.c1
          have q2 := hRd.c2
          clear hRd0
          go_wp2_with fail
          have hRd2 := hRd.next ((Below.refl _ X).drew)
          clear hRd
          go_region_with (first
            | (refine (HSTR.out _ _ (by assumption) (Rd.env (by assumption))).mono ?_; rintro e7 w7 ⟨rfl, hb7⟩; have hRd7 := Rd.next (by assumption) hb7; have p1 := hRd7.c1; have p2 := hRd7.c2)
            | (refine (add_new W0 A M (oneT (Tx.strL N) (Tx.strL Bx) (Tx.strL Hx)) _ 9 _ (Rd.gone (by assumption)).gat rfl rfl (by decide) HBND.out).mono ?_; rintro e8 w8 ⟨rfl, hg8⟩; have HG8 := Lib.hid (gone_trans (Rd.gone (by assumption)) hg8)))
          all_goals
            go_wp2_with fail
            go_roundw
            case rel =>
              refine ⟨k + 1, by omega, by go_num, ?_⟩
              rw [HNX.out, HONE.out]
              exact HG8
            case measure => simp [intOf]; omega
      · have he : k = T.length := by omega
        subst he
        have HF : Hid (Gone W0 A (m ++ [40] ++ T.flatMap oneAdL) w wr) := Lib.hid (by have := hG.out; rw [List.take_of_length_le (Nat.le_refl _)] at this; exact this)
        have hML : (m ++ [40] ++ T.flatMap oneAdL).length ≤ 600000000000 := by
          have := HFL.out
          rw [List.length_append, List.length_append, List.length_singleton]
          omega
        clear hG
        go_wp2_with fail
        refine (add_new W0 A (m ++ [40] ++ T.flatMap oneAdL) [⟨#[41]⟩] #[.string ⟨#[41]⟩] 1 wr HF.out.gat rfl rfl (by decide) (by show _ + 1 ≤ _; omega)).mono ?_
        rintro e w2 ⟨rfl, hg2⟩
        have HG2 : Hid (Gone W0 A (m ++ adL T) w w2) := Lib.hid (by
          have := gone_trans HF.out hg2
          rw [HAD.out, ← List.append_assoc, ← List.append_assoc]
          exact this)
        clear hg2
        go_wp2_with fail
        go_end0
        exact ⟨rfl, HG2.out⟩
end Go.Proofs.YtnnbbjdidbggmaaGreatDoor.Lk
namespace Go.Proofs.YtnnbbjdidbggmaaGreatDoor.Lk
open Go Go.RowKit Go.Joins Kit F0 Pt

def nmK : Nat → List UInt8
  | 0 => fromN
  | 1 => sendN
  | 2 => replN
  | 3 => toN
  | 4 => ccN
  | _ => bccN
def tK (fs : List F0.Fl) (k : Nat) : List Ad.Ad3 := if k = 1 ∨ k = 2 then orFrom fs (nmK k) else addrsL fs (nmK k)
def sixL (fs : List F0.Fl) : Nat → List UInt8
  | 0 => []
  | k + 1 => sixL fs k ++ [32] ++ adL (tK fs k)
theorem env_six (fs : List F0.Fl) : envF fs = ([40] ++ nstrL fs dateN ++ [32] ++ nstrL fs subjN) ++ sixL fs 6 ++ ([32] ++ nstrL fs inreN ++ [32] ++ nstrL fs msgN ++ [41]) := by
  have h0 : tK fs 0 = addrsL fs fromN := by unfold tK; rw [if_neg (by decide)]; rfl
  have h1 : tK fs 1 = orFrom fs sendN := by unfold tK; rw [if_pos (Or.inl rfl)]; rfl
  have h2 : tK fs 2 = orFrom fs replN := by unfold tK; rw [if_pos (Or.inr rfl)]; rfl
  have h3 : tK fs 3 = addrsL fs toN := by unfold tK; rw [if_neg (by decide)]; rfl
  have h4 : tK fs 4 = addrsL fs ccN := by unfold tK; rw [if_neg (by decide)]; rfl
  have h5 : tK fs 5 = addrsL fs bccN := by unfold tK; rw [if_neg (by decide)]; rfl
  unfold envF
  rw [sixL, sixL, sixL, sixL, sixL, sixL, sixL, h0, h1, h2, h3, h4, h5]
  simp only [List.append_assoc, List.nil_append]
theorem addrs_small {fs : List F0.Fl} (h : ∀ n, (fvL fs n).length ≤ 32768) (n : List UInt8) : (adL (addrsL fs n)).length ≤ 50000000000 ∧ TS 65539 (addrsL fs n) ∧ (addrsL fs n).length ≤ 65539 := by
  have := adL_len (h n)
  unfold addrsL
  exact this
theorem tK_small {fs : List F0.Fl} (h : ∀ n, (fvL fs n).length ≤ 32768) (k : Nat) : (adL (tK fs k)).length ≤ 50000000000 ∧ TS 65539 (tK fs k) ∧ (tK fs k).length ≤ 65539 := by
  unfold tK
  split
  · unfold orFrom
    split
    · exact addrs_small h _
    · exact addrs_small h _
  · exact addrs_small h _
theorem six_len {fs : List F0.Fl} (h : ∀ n, (fvL fs n).length ≤ 32768) : ∀ k, (sixL fs k).length ≤ k * 50000000001
  | 0 => Nat.le_refl _
  | k + 1 => by
    have h1 := six_len h k
    have h2 := (tK_small h k).1
    rw [sixL, List.length_append, List.length_append, List.length_singleton]
    omega
theorem nmK_lit : ∀ k : Nat, k < 6 → (#[.string ⟨#[70, 114, 111, 109]⟩, .string ⟨#[83, 101, 110, 100, 101, 114]⟩, .string ⟨#[82, 101, 112, 108, 121, 45, 84, 111]⟩, .string ⟨#[84, 111]⟩, .string ⟨#[67, 99]⟩, .string ⟨#[66, 99, 99]⟩] : Array Value)[k]? = some (.string ⟨(nmK k).toArray⟩)
  | 0, _ => rfl
  | 1, _ => rfl
  | 2, _ => rfl
  | 3, _ => rfl
  | 4, _ => rfl
  | 5, _ => rfl
  | k + 6, h => by omega
theorem nmK_kind : ∀ k : Nat, k < 6 → (k = 1 ∧ (nmK k == [83, 101, 110, 100, 101, 114]) = true) ∨ (k = 2 ∧ (nmK k == [83, 101, 110, 100, 101, 114]) = false ∧ (nmK k == [82, 101, 112, 108, 121, 45, 84, 111]) = true) ∨ ((k ≠ 1 ∧ k ≠ 2) ∧ (nmK k == [83, 101, 110, 100, 101, 114]) = false ∧ (nmK k == [82, 101, 112, 108, 121, 45, 84, 111]) = false)
  | 0, _ => Or.inr (Or.inr ⟨by decide, rfl, rfl⟩)
  | 1, _ => Or.inl ⟨rfl, rfl⟩
  | 2, _ => Or.inr (Or.inl ⟨rfl, rfl, rfl⟩)
  | 3, _ => Or.inr (Or.inr ⟨by decide, rfl, rfl⟩)
  | 4, _ => Or.inr (Or.inr ⟨by decide, rfl, rfl⟩)
  | 5, _ => Or.inr (Or.inr ⟨by decide, rfl, rfl⟩)
  | k + 6, h => by omega
theorem nmK_size (k : Nat) : (nmK k).length ≤ 8 := by
  unfold nmK
  split <;> decide
theorem tK_own {fs : List F0.Fl} {k : Nat} (h : addrsL fs (nmK k) ≠ []) : tK fs k = addrsL fs (nmK k) := by
  unfold tK orFrom
  rw [if_neg h]
  split <;> rfl
theorem tK_other {fs : List F0.Fl} {k : Nat} (h1 : k ≠ 1) (h2 : k ≠ 2) : tK fs k = addrsL fs (nmK k) := by
  unfold tK
  rw [if_neg (by omega)]
theorem tK_from {fs : List F0.Fl} {k : Nat} (hk : k = 1 ∨ k = 2) (h : addrsL fs (nmK k) = []) : tK fs k = addrsL fs fromN := by
  unfold tK orFrom
  rw [if_pos hk, if_pos h]

set_option maxHeartbeats 4000000 in
set_option maxRecDepth 100000 in
theorem envelope_any (s : ByteArray) (w0 : World) (hs : s.size ≤ 32768) (hE : Tx.Env w0) :
    Calls Tryz.prog 18 #[.string s] w0 fun e w' => e = .returned (.string ⟨(envL s.data.toList).toArray⟩) ∧ Below w0.heap.size w0 w' := by
  have HE := Lib.hid hE
  have HEN : Hid (envL s.data.toList = envF (headL s.data.toList 0 s.size).1) := Lib.hid (by unfold envL; rw [Lib.size_eq])
  have HSM := Lib.hid (head_small s hs)
  have HH := Lib.hid (head_any s w0 hs (srch_of hE))
  obtain ⟨fs, hfs⟩ : ∃ fs, (headL s.data.toList 0 s.size).1 = fs := ⟨_, rfl⟩
  obtain ⟨bd, hbd⟩ : ∃ bd, (headL s.data.toList 0 s.size).2 = bd := ⟨_, rfl⟩
  rw [hfs] at HEN HSM
  rw [hfs, hbd] at HH
  clear hfs hbd hE
  go_enter Tryz.func18, Tryz.ntmps18
  go_wp2_with fail
  refine HH.out.mono ?_
  rintro e w1 ⟨v, rfl, hF, hb1⟩
  obtain ⟨va, vc, rfl, _⟩ := hF.form
  have HF := Lib.hid hF
  have HE1 := Lib.hid (HE.out.next hb1)
  have HB1 := Lib.hid hb1
  clear hF hb1
  go_wp2_with fail
  refine (addresses_any _ fs ⟨#[70, 114, 111, 109]⟩ w1 HF.out HSM.out.1 (HSM.out.2.2 fromN) (by decide) HSM.out.2.1 (srch_of HE1.out)).mono ?_
  rintro e w ⟨uf, rfl, hr, hb⟩
  obtain ⟨fa, fc, rfl⟩ := Ad.row_form hr
  have HFW : Hid ((∀ W', Below w.heap.size w W' → FAt W' (.slice va fs.length vc) fs) ∧ (∀ W', Below w.heap.size w W' → Tx.Env W') ∧ (∀ W', Below w.heap.size w W' → Ad.RowA 0 (.slice fa (addrsL fs fromN).length fc) (addrsL fs fromN) W')) := Lib.hid
    ⟨fun W' h => (HF.out.below hb).below h, fun W' h => (HE1.out.next hb).next h, fun W' h => Ad.row_below (show Ad.RowA 0 _ _ w from ⟨hr.1, hr.2.imp id (fun ⟨g, cap, cur, a, b, c⟩ => ⟨g, cap, cur, a, Nat.zero_le _, c⟩)⟩) h⟩
  have HBW := Lib.hid (HB1.out.trans (hb.mono HB1.out.size))
  rw [show (ByteArray.mk #[70, 114, 111, 109]).data.toList = fromN from rfl]
  clear hr hb
  go_wp2_with fail
  refine (gather_any w).mono ?_
  rintro e w2 ⟨rfl, hw2⟩
  have G2 : Hid (Gat w w.heap.size [] w2) := Lib.hid (by rw [hw2]; exact gat_new w)
  clear hw2

  go_wp2_with fail

  refine (nstring_any _ fs ⟨#[68, 97, 116, 101]⟩ w2 (HFW.out.1 w2 G2.out.below) HSM.out.1 (by decide) HSM.out.2.1 (HFW.out.2.1 w2 G2.out.below)).mono ?_
  rintro e w3 ⟨rfl, hb3⟩
  rw [show (ByteArray.mk #[68, 97, 116, 101]).data.toList = dateN from rfl]
  have G3 := Lib.hid (G2.out.next hb3)
  clear hb3
  go_wp2_with fail
  refine (nstring_any _ fs ⟨#[83, 117, 98, 106, 101, 99, 116]⟩ w3 (HFW.out.1 w3 G3.out.below) HSM.out.1 (by decide) HSM.out.2.1 (HFW.out.2.1 w3 G3.out.below)).mono ?_
  rintro e w4 ⟨rfl, hb4⟩
  rw [show (ByteArray.mk #[83, 117, 98, 106, 101, 99, 116]).data.toList = subjN from rfl]
  have G4 := Lib.hid (G3.out.next hb4)
  clear hb4
  have hz1 := nstr_len fs dateN (HSM.out.2.2 dateN)
  have hz2 := nstr_len fs subjN (HSM.out.2.2 subjN)
  have HTX : Hid (flatT [⟨#[40]⟩, ⟨(nstrL fs dateN).toArray⟩, ⟨#[32]⟩, ⟨(nstrL fs subjN).toArray⟩] = [40] ++ nstrL fs dateN ++ [32] ++ nstrL fs subjN) := Lib.hid (by simp [flatT])
  have HTL : Hid ((flatT [⟨#[40]⟩, ⟨(nstrL fs dateN).toArray⟩, ⟨#[32]⟩, ⟨(nstrL fs subjN).toArray⟩]).length ≤ 200000) := Lib.hid (by rw [HTX.out]; simp only [List.length_append, List.length_singleton]; omega)
  clear hz1 hz2
  go_wp2_with fail
  refine (add_new w w.heap.size [] [⟨#[40]⟩, ⟨(nstrL fs dateN).toArray⟩, ⟨#[32]⟩, ⟨(nstrL fs subjN).toArray⟩] _ 4 w4 G4.out rfl rfl (by decide) (by have := HTL.out; rw [List.length_nil]; omega)).mono ?_
  rintro e w5 ⟨rfl, hg5⟩
  rw [List.nil_append, HTX.out] at hg5
  rw [HTX.out] at HTL
  obtain ⟨E0, hE0⟩ : ∃ E0, [40] ++ nstrL fs dateN ++ [32] ++ nstrL fs subjN = E0 := ⟨_, rfl⟩
  have HES : Hid (envF fs = E0 ++ sixL fs 6 ++ ([32] ++ nstrL fs inreN ++ [32] ++ nstrL fs msgN ++ [41])) := Lib.hid (by rw [env_six, hE0])
  rw [hE0] at hg5 HTL
  have G5 := Lib.hid hg5.gat
  clear hg5 hE0 HTX
  go_wp2_with fail
  obtain ⟨W5, hW5⟩ : ∃ W5, w5.alloc (.cells #[.string ⟨#[70, 114, 111, 109]⟩, .string ⟨#[83, 101, 110, 100, 101, 114]⟩, .string ⟨#[82, 101, 112, 108, 121, 45, 84, 111]⟩, .string ⟨#[84, 111]⟩, .string ⟨#[67, 99]⟩, .string ⟨#[66, 99, 99]⟩] 9) = W5 := ⟨_, rfl⟩
  have GW : Hid (Gone w w.heap.size (E0 ++ sixL fs 0) W5 W5) := Lib.hid (by
    rw [← hW5, show sixL fs 0 = [] from rfl, List.append_nil]
    exact gone_refl (G5.out.next ((Below.refl _ w5).alloc (Nat.le_refl _) _)))
  have HLIT : Hid (∃ cs : Array Value, W5.heap[w5.heap.size]? = some (.cells cs 9 (0, 0)) ∧ ∀ k, k < 6 → cs[k]? = some (.string ⟨(nmK k).toArray⟩)) := Lib.hid ⟨_, by rw [← hW5]; exact Kit.fresh_block w5 _ _, nmK_lit⟩
  have HNE : Hid (w5.heap.size ≠ w.heap.size) := Lib.hid (fun e => by have := G5.out.lt; omega)
  rw [hW5]
  clear hW5
  go_loopw [33] (fun i wr => ∃ k : Nat, k ≤ 6 ∧ i = .int .i64 (k : Int) ∧ Hid (Gone w w.heap.size (E0 ++ sixL fs k) W5 wr)) (fun i _ => 6 - (intOf i).toNat)
  case atStart => exact ⟨0, by omega, rfl, GW⟩
  case round =>
    clear GW
    obtain ⟨k, hk, rfl, hG⟩ := hrel
    by_cases hlt : k < 6
    · have gk : (k : Int) < 6 := by omega
      have hcell : wr.cell? ⟨w5.heap.size, k, none⟩ = some (.string ⟨(nmK k).toArray⟩) := by
        obtain ⟨cs, h1, h2⟩ := HLIT.out
        rw [Lib.cell_of_heap (gone_cell hG.out h1 (by decide) HNE.out)]
        exact h2 k hlt
      have hkind := nmK_kind k hlt
      have hns := nmK_size k
      have HST : Hid (E0 ++ sixL fs (k + 1) = E0 ++ sixL fs k ++ [32] ++ adL (tK fs k)) := Lib.hid (by rw [sixL]; simp)
      have hsl := six_len HSM.out.2.2 k
      have htl := HTL.out
      obtain ⟨M, hM⟩ : ∃ M, E0 ++ sixL fs k = M := ⟨_, rfl⟩
      have hMl : M.length ≤ 400000000000 := by rw [← hM, List.length_append]; omega
      rw [hM] at hG HST
      clear hM hsl htl
      have HTK := Lib.hid (And.intro (fun h1 h2 => @tK_other fs k h1 h2) (And.intro (fun h => @tK_own fs k h) (fun h1 h2 => @tK_from fs k h1 h2)))
      have HZ := Lib.hid (addrs_small HSM.out.2.2 (nmK k))
      have HZF := Lib.hid (addrs_small HSM.out.2.2 fromN)
      have HVZ := Lib.hid (HSM.out.2.2 (nmK k))
      obtain ⟨NM, hNM⟩ : ∃ NM, nmK k = NM := ⟨_, rfl⟩
      rw [hNM] at hcell hkind hns HTK HZ HVZ
      clear hNM
      have hAC : Hid (∀ W, Below w.heap.size w W → Calls Tryz.prog 41 #[.slice va fs.length vc, .string ⟨NM.toArray⟩] W fun e w' => ∃ u, e = .returned u ∧ Ad.RowA W.heap.size u (addrsL fs NM) w' ∧ Below W.heap.size W w') := Lib.hid (fun W h =>
        addresses_any _ fs ⟨NM.toArray⟩ W (HFW.out.1 W h) HSM.out.1 HVZ.out (by rw [Lib.size_mk]; omega) HSM.out.2.1 (srch_of (HFW.out.2.1 W h)))
      obtain ⟨T, hT⟩ : ∃ T, addrsL fs NM = T := ⟨_, rfl⟩
      rw [hT] at hAC HTK HZ
      clear hT
      by_cases hTe : T = []
      · subst hTe
        rcases hkind with ⟨hk1, g1⟩ | ⟨hk1, g1, g2⟩ | ⟨hk1, g1, g2⟩
        · have HTE : Hid (tK fs k = addrsL fs fromN) := Lib.hid (HTK.out.2.2 (by omega) rfl)
          clear HTK hk1
          go_wp2_with fail
          refine (hAC.out wr hG.out.gat.below).mono ?_
          rintro e w6 ⟨u, rfl, hr6, hb6⟩
          obtain ⟨ua, uc, rfl⟩ := Ad.row_form hr6
          have G6 := Lib.hid (gone_next hG.out hb6)
          have R6 := Lib.hid hr6
          clear hr6 hb6

          go_wp2_with fail
          refine (add_new w w.heap.size M [⟨#[32]⟩] #[.string ⟨#[32]⟩] 1 w6 G6.out.gat rfl rfl (by decide) (by show M.length + 1 ≤ _; omega)).mono ?_
          rintro e w7 ⟨rfl, hg7⟩
          have G7 := Lib.hid (gone_trans G6.out hg7)
          have R7 : Hid (Ad.RowA 0 (.slice fa (addrsL fs fromN).length fc) (addrsL fs fromN) w7) := Lib.hid (HFW.out.2.2 w7 G7.out.gat.below)
          clear hg7
          go_wp2_with fail
          refine (adds_any w w.heap.size (M ++ flatT [⟨#[32]⟩]) 0 (.slice fa (addrsL fs fromN).length fc) (addrsL fs fromN) w7 G7.out.gat R7.out HZF.out.2.1 HZF.out.2.2 (by rw [List.length_append]; show M.length + 1 ≤ _; omega) (fun w' hb => HFW.out.2.1 w' (G7.out.gat.below.trans hb))).mono ?_
          rintro e w8 ⟨rfl, hg8⟩
          have G8 : Hid (Gone w w.heap.size (E0 ++ sixL fs (k + 1)) W5 w8) := Lib.hid (by
            have h := gone_trans G7.out hg8
            rw [HST.out, HTE.out]
            exact h)
          clear hg8
          go_wp2_with fail
          go_roundw
          case rel => exact ⟨k + 1, by omega, by go_num, G8⟩
          case measure => simp [intOf]; omega

        · have HTE : Hid (tK fs k = addrsL fs fromN) := Lib.hid (HTK.out.2.2 (by omega) rfl)
          clear HTK hk1
          go_wp2_with fail
          refine (hAC.out wr hG.out.gat.below).mono ?_
          rintro e w6 ⟨u, rfl, hr6, hb6⟩
          obtain ⟨ua, uc, rfl⟩ := Ad.row_form hr6
          have G6 := Lib.hid (gone_next hG.out hb6)
          have R6 := Lib.hid hr6
          clear hr6 hb6

          go_wp2_with fail
          refine (add_new w w.heap.size M [⟨#[32]⟩] #[.string ⟨#[32]⟩] 1 w6 G6.out.gat rfl rfl (by decide) (by show M.length + 1 ≤ _; omega)).mono ?_
          rintro e w7 ⟨rfl, hg7⟩
          have G7 := Lib.hid (gone_trans G6.out hg7)
          have R7 : Hid (Ad.RowA 0 (.slice fa (addrsL fs fromN).length fc) (addrsL fs fromN) w7) := Lib.hid (HFW.out.2.2 w7 G7.out.gat.below)
          clear hg7
          go_wp2_with fail
          refine (adds_any w w.heap.size (M ++ flatT [⟨#[32]⟩]) 0 (.slice fa (addrsL fs fromN).length fc) (addrsL fs fromN) w7 G7.out.gat R7.out HZF.out.2.1 HZF.out.2.2 (by rw [List.length_append]; show M.length + 1 ≤ _; omega) (fun w' hb => HFW.out.2.1 w' (G7.out.gat.below.trans hb))).mono ?_
          rintro e w8 ⟨rfl, hg8⟩
          have G8 : Hid (Gone w w.heap.size (E0 ++ sixL fs (k + 1)) W5 w8) := Lib.hid (by
            have h := gone_trans G7.out hg8
            rw [HST.out, HTE.out]
            exact h)
          clear hg8
          go_wp2_with fail
          go_roundw
          case rel => exact ⟨k + 1, by omega, by go_num, G8⟩
          case measure => simp [intOf]; omega

        · have HTE : Hid (tK fs k = []) := Lib.hid (HTK.out.1 hk1.1 hk1.2)
          clear HTK hk1
          go_wp2_with fail
          refine (hAC.out wr hG.out.gat.below).mono ?_
          rintro e w6 ⟨u, rfl, hr6, hb6⟩
          obtain ⟨ua, uc, rfl⟩ := Ad.row_form hr6
          have G6 := Lib.hid (gone_next hG.out hb6)
          have R6 := Lib.hid hr6
          clear hr6 hb6

          go_wp2_with fail
          refine (add_new w w.heap.size M [⟨#[32]⟩] #[.string ⟨#[32]⟩] 1 w6 G6.out.gat rfl rfl (by decide) (by show M.length + 1 ≤ _; omega)).mono ?_
          rintro e w7 ⟨rfl, hg7⟩
          have G7 := Lib.hid (gone_trans G6.out hg7)
          have R7 : Hid (Ad.RowA wr.heap.size (.slice ua 0 uc) [] w7) := Lib.hid (row_gone R6.out G6.out.gat hg7)
          clear hg7
          go_wp2_with fail
          refine (adds_any w w.heap.size (M ++ flatT [⟨#[32]⟩]) wr.heap.size (.slice ua 0 uc) [] w7 G7.out.gat R7.out HZ.out.2.1 HZ.out.2.2 (by rw [List.length_append]; show M.length + 1 ≤ _; omega) (fun w' hb => HFW.out.2.1 w' (G7.out.gat.below.trans hb))).mono ?_
          rintro e w8 ⟨rfl, hg8⟩
          have G8 : Hid (Gone w w.heap.size (E0 ++ sixL fs (k + 1)) W5 w8) := Lib.hid (by
            have h := gone_trans G7.out hg8
            rw [HST.out, HTE.out]
            exact h)
          clear hg8
          go_wp2_with fail
          go_roundw
          case rel => exact ⟨k + 1, by omega, by go_num, G8⟩
          case measure => simp [intOf]; omega

      · have HTE : Hid (tK fs k = T) := Lib.hid (HTK.out.2.1 hTe)
        have hTl : 0 < T.length := List.length_pos_iff.2 hTe
        have g0 : ((T.length : Int) == 0) = false := by rw [beq_eq_false_iff_ne]; omega
        clear HTK hkind hTe hTl
        go_wp2_with fail
        refine (hAC.out wr hG.out.gat.below).mono ?_
        rintro e w6 ⟨u, rfl, hr6, hb6⟩
        obtain ⟨ua, uc, rfl⟩ := Ad.row_form hr6
        have G6 := Lib.hid (gone_next hG.out hb6)
        have R6 := Lib.hid hr6
        clear hr6 hb6

        go_wp2_with fail
        refine (add_new w w.heap.size M [⟨#[32]⟩] #[.string ⟨#[32]⟩] 1 w6 G6.out.gat rfl rfl (by decide) (by show M.length + 1 ≤ _; omega)).mono ?_
        rintro e w7 ⟨rfl, hg7⟩
        have G7 := Lib.hid (gone_trans G6.out hg7)
        have R7 : Hid (Ad.RowA wr.heap.size (.slice ua T.length uc) T w7) := Lib.hid (row_gone R6.out G6.out.gat hg7)
        clear hg7
        go_wp2_with fail
        refine (adds_any w w.heap.size (M ++ flatT [⟨#[32]⟩]) wr.heap.size (.slice ua T.length uc) T w7 G7.out.gat R7.out HZ.out.2.1 HZ.out.2.2 (by rw [List.length_append]; show M.length + 1 ≤ _; omega) (fun w' hb => HFW.out.2.1 w' (G7.out.gat.below.trans hb))).mono ?_
        rintro e w8 ⟨rfl, hg8⟩
        have G8 : Hid (Gone w w.heap.size (E0 ++ sixL fs (k + 1)) W5 w8) := Lib.hid (by
          have h := gone_trans G7.out hg8
          rw [HST.out, HTE.out]
          exact h)
        clear hg8
        go_wp2_with fail
        go_roundw
        case rel => exact ⟨k + 1, by omega, by go_num, G8⟩
        case measure => simp [intOf]; omega

    · obtain rfl : k = 6 := by omega
      have hsl := six_len HSM.out.2.2 6
      have htl := HTL.out
      have hML : (E0 ++ sixL fs 6).length ≤ 400000000000 := by rw [List.length_append]; omega
      have HG := Lib.hid hG.out.gat
      clear hG hsl htl
      go_wp2_with fail
      refine (nstring_any _ fs ⟨#[73, 110, 45, 82, 101, 112, 108, 121, 45, 84, 111]⟩ wr (HFW.out.1 wr HG.out.below) HSM.out.1 (by decide) HSM.out.2.1 (HFW.out.2.1 wr HG.out.below)).mono ?_
      rintro e w6 ⟨rfl, hb6⟩
      rw [show (ByteArray.mk #[73, 110, 45, 82, 101, 112, 108, 121, 45, 84, 111]).data.toList = inreN from rfl]
      have G6 := Lib.hid (HG.out.next hb6)
      clear hb6
      go_wp2_with fail
      refine (nstring_any _ fs ⟨#[77, 101, 115, 115, 97, 103, 101, 45, 73, 100]⟩ w6 (HFW.out.1 w6 G6.out.below) HSM.out.1 (by decide) HSM.out.2.1 (HFW.out.2.1 w6 G6.out.below)).mono ?_
      rintro e w7 ⟨rfl, hb7⟩
      rw [show (ByteArray.mk #[77, 101, 115, 115, 97, 103, 101, 45, 73, 100]).data.toList = msgN from rfl]
      have G7 := Lib.hid (G6.out.next hb7)
      clear hb7
      have hz1 := nstr_len fs inreN (HSM.out.2.2 inreN)
      have hz2 := nstr_len fs msgN (HSM.out.2.2 msgN)
      have HTY : Hid (flatT [⟨#[32]⟩, ⟨(nstrL fs inreN).toArray⟩, ⟨#[32]⟩, ⟨(nstrL fs msgN).toArray⟩, ⟨#[41]⟩] = [32] ++ nstrL fs inreN ++ [32] ++ nstrL fs msgN ++ [41]) := Lib.hid (by simp [flatT])
      have HTZ : Hid ((flatT [⟨#[32]⟩, ⟨(nstrL fs inreN).toArray⟩, ⟨#[32]⟩, ⟨(nstrL fs msgN).toArray⟩, ⟨#[41]⟩]).length ≤ 200000) := Lib.hid (by rw [HTY.out]; simp only [List.length_append, List.length_singleton]; omega)
      clear hz1 hz2
      go_wp2_with fail
      refine (add_new w w.heap.size (E0 ++ sixL fs 6) [⟨#[32]⟩, ⟨(nstrL fs inreN).toArray⟩, ⟨#[32]⟩, ⟨(nstrL fs msgN).toArray⟩, ⟨#[41]⟩] _ 5 w7 G7.out rfl rfl (by decide) (by have := HTZ.out; omega)).mono ?_
      rintro e w8 ⟨rfl, hg8⟩
      rw [HTY.out, ← HES.out] at hg8
      have G8 := Lib.hid hg8.gat
      clear hg8
      go_wp2_with fail
      refine (told_any w w.heap.size _ w8 G8.out).mono ?_
      rintro e w9 ⟨rfl, rfl⟩
      have HB := Lib.hid (HBW.out.trans (G8.out.below.mono HBW.out.size))
      go_wp2_with fail
      go_ret
      rw [HEN.out]
      exact ⟨rfl, HB.out⟩
end Go.Proofs.YtnnbbjdidbggmaaGreatDoor.Lk
namespace Go.Proofs.YtnnbbjdidbggmaaGreatDoor.Lk
open Go Go.RowKit Go.Joins Kit

theorem envelope_to {X : ByteArray} (Y : ByteArray) (w : World) (hs : X.size ≤ 32768) (h : envL X.data.toList = Y.data.toList) (hE : Tx.Env w) :
    Calls Tryz.prog 18 #[.string X] w fun e w' => e = .returned (.string Y) ∧ Below w.heap.size w w' := by
  have := envelope_any X w hs hE
  rw [h] at this
  exact this
theorem subject_to {X : ByteArray} (Y : ByteArray) (w : World) (hs : X.size ≤ 32768) (h : subjL X.data.toList = Y.data.toList) (hE : Tx.Env w) :
    Calls Tryz.prog 16 #[.string X] w fun e w' => e = .returned (.string Y) ∧ Below w.heap.size w w' := by
  have := subject_any X w hs (srch_of hE)
  rw [h] at this
  exact this

theorem beq_list (s : ByteArray) (l : List UInt8) : (s.toList == l) = decide (s.data.toList = l) := by rw [Lib.toList_data]; by_cases h : s.data.toList = l <;> simp [h]
theorem told_to (l : List UInt8) : ∃ Y : ByteArray, Y.data.toList = l ∧ (Y.toList == l) = true := ⟨⟨l.toArray⟩, rfl, by rw [beq_list]; exact decide_eq_true rfl⟩

set_option maxHeartbeats 1000000 in
set_option maxRecDepth 100000 in
theorem awake_any (w : World) (hE : Tx.Env w) :
    Calls Tryz.prog 10 #[] w fun e w' => e = .returned (.bool true) ∧ Below w.heap.size w w' := by
  obtain ⟨Y, hY, gY⟩ := told_to wakeE
  obtain ⟨Z, hZ, gZ⟩ := told_to [97]
  have HC : Hid (∀ W, Tx.Env W → Calls Tryz.prog 18 #[.string ⟨#[]⟩] W fun e w' => e = .returned (.string Y) ∧ Below W.heap.size W w') := Lib.hid (fun W h => envelope_to Y W (by decide) (by rw [hY]; exact wake_env) h)
  have HD : Hid (∀ W, Tx.Env W → Calls Tryz.prog 16 #[.string ⟨#[83, 117, 98, 106, 101, 99, 116, 58, 32, 61, 63, 117, 116, 102, 45, 56, 63, 81, 63, 97, 63, 61, 10, 10]⟩] W fun e w' => e = .returned (.string Z) ∧ Below W.heap.size W w') := Lib.hid (fun W h => subject_to Z W (by decide) (by rw [hZ]; exact wake_subj) h)
  unfold wakeE at gY
  have HE := Lib.hid hE
  clear hE hY hZ
  go_enter Tryz.func10, Tryz.ntmps10
  go_wp2_with fail
  refine (HC.out w HE.out).mono ?_
  rintro e w1 ⟨rfl, hb1⟩
  go_wp2_with fail
  refine (HD.out w1 (HE.out.next hb1)).mono ?_
  rintro e w2 ⟨rfl, hb2⟩
  go_wp2_with fail
  go_ret
  exact ⟨rfl, hb1.trans (hb2.mono hb1.size)⟩
end Go.Proofs.YtnnbbjdidbggmaaGreatDoor.Lk
namespace Go.Proofs.YtnnbbjdidbggmaaGreatDoor.U8
open Go Go.RowKit Go.Joins Kit

set_option maxHeartbeats 1000000 in
set_option maxRecDepth 100000 in
theorem rvalid_any (s : ByteArray) (hs : s.size ≤ 140737488355328) (w : World) :
    Calls Tryz.prog 14 #[.string s] w fun e w' => e = .returned (.bool (validL s.data.toList)) ∧ Below w.heap.size w w' := by
  have hb0 := Below.refl w.heap.size w
  go_enter Tryz.func14, Tryz.ntmps14
  go_wp2_with fail
  go_loopw [3] (fun i wr => ∃ a : Nat, a ≤ s.size ∧ i = .int .i64 a ∧ Hid (validL (s.data.toList.drop a) = validL s.data.toList) ∧ Below w.heap.size w wr) (fun i _ => s.size - (intOf i).toNat)
  case atStart => exact ⟨0, by omega, rfl, rfl, hb0⟩
  case round =>
    clear hb0
    obtain ⟨a, ha, rfl, hv, hb⟩ := hrel
    by_cases hlt : a < s.size
    · have g1 : (a : Int) < s.size := by omega
      cases hd : decL (s.data.toList.drop a) with
      | none =>
        have hno : Hid (validL s.data.toList = false) := by show _ = _; rw [← hv.out]; exact validL_none (drop_ne hlt) hd
        have HD := Lib.hid hd
        clear hd
        go_wp2_with fail
        refine (rget_none HD.out hs wr).mono ?_
        rintro e w1 ⟨rfl, hb1⟩
        go_wp2
        go_ret
        exact ⟨ret_bool hno.out.symm, hb.trans (hb1.mono hb.size)⟩
      | some p =>
        obtain ⟨r, n⟩ := p
        have hr := decL_room hd
        have hrl := decL_lt hd
        have hnx : Hid (validL (s.data.toList.drop (a + n)) = validL s.data.toList) := by show _ = _; rw [← hv.out, validL_some hd, List.drop_drop]
        have HD := Lib.hid hd
        clear hd
        go_wp2_with fail
        refine (rget_some HD.out hs wr).mono ?_
        rintro e w1 ⟨rfl, hb1⟩
        replace hb1 := hb.trans (hb1.mono hb.size)
        go_wp2
        go_roundw
        case rel => exact ⟨a + n, by omega, by go_num, hnx, hb1⟩
        case measure => simp [intOf]; omega
    · have g1 : ¬ (a : Int) < s.size := by omega
      have hyes : Hid (validL s.data.toList = true) := by show _ = _; rw [← hv.out, drop_end (by omega)]; rfl
      go_wp2
      go_ret
      exact ⟨ret_bool hyes.out.symm, hb⟩
end Go.Proofs.YtnnbbjdidbggmaaGreatDoor.U8
namespace Go.Proofs.YtnnbbjdidbggmaaGreatDoor.U8
open Go Go.RowKit Go.Joins Kit

set_option maxHeartbeats 1000000 in
set_option maxRecDepth 100000 in
theorem rcut_any (s : ByteArray) (n : Int) (n1 : n ≤ 9223372036854775807) (hs : s.size ≤ 140737488355328) (w : World) :
    Calls Tryz.prog 15 #[.string s, .int .i64 n] w fun e w' => e = .returned (.string (cutB s n.toNat)) ∧ Below w.heap.size w w' := by
  have hb0 := Below.refl w.heap.size w
  have hcb : Hid (cutB s n.toNat = ⟨(s.data.toList.take (cutN n.toNat s.data.toList)).toArray⟩) := by show _ = _; rfl
  go_enter Tryz.func15, Tryz.ntmps15
  go_wp2_with fail
  go_loopw [5, 6] (fun x i wr => ∃ a k : Nat, a ≤ s.size ∧ (k : Int) ≤ max n 0 ∧ i = .int .i64 k ∧ x = .int .i64 a ∧ Hid (a + cutN (n.toNat - k) (s.data.toList.drop a) = cutN n.toNat s.data.toList) ∧ Below w.heap.size w wr) (fun _ i _ => n.toNat - (intOf i).toNat)
  case atStart => exact ⟨0, 0, by omega, by omega, rfl, rfl, by show _ = _; simp, hb0⟩
  case round =>
    clear hb0
    obtain ⟨a, k, ha, hk, rfl, rfl, hc, hb⟩ := hrel
    have gs : (a : Int) ≤ s.size := by omega
    by_cases hlt : (k : Int) < n
    · cases hd : decL (s.data.toList.drop a) with
      | none =>
        have hend : Hid (s.extract 0 a = cutB s n.toNat) := by
          show _ = _
          rw [hcb.out, ← hc.out, cutN_none hd, extract_take]
          rfl
        have HD := Lib.hid hd
        clear hd
        by_cases hl2 : a < s.size
        · have g2 : (a : Int) < s.size := by omega
          go_wp2_with fail
          refine (rget_none HD.out hs wr).mono ?_
          rintro e w1 ⟨rfl, hb1⟩
          go_wp2
          go_ret
          exact ⟨ret_string hend.out, hb.trans (hb1.mono hb.size)⟩
        · have g2 : ¬ (a : Int) < s.size := by omega
          go_wp2
          go_ret
          exact ⟨ret_string hend.out, hb⟩
      | some p =>
        obtain ⟨r, m⟩ := p
        have hr := decL_room hd
        have hrl := decL_lt hd
        have g2 : (a : Int) < s.size := by omega
        have hnx : Hid (a + m + cutN (n.toNat - (k + 1)) (s.data.toList.drop (a + m)) = cutN n.toNat s.data.toList) := by
          show _ = _
          rw [← hc.out, show n.toNat - k = n.toNat - (k + 1) + 1 by omega, cutN_some hd, List.drop_drop]
          omega
        have HD := Lib.hid hd
        clear hd
        go_wp2_with fail
        refine (rget_some HD.out hs wr).mono ?_
        rintro e w1 ⟨rfl, hb1⟩
        replace hb1 := hb.trans (hb1.mono hb.size)
        go_wp2
        go_roundw
        case rel => exact ⟨a + m, k + 1, by omega, by omega, by go_num, by go_num, hnx, hb1⟩
        case measure => simp [intOf]; omega
    · have hend : Hid (s.extract 0 a = cutB s n.toNat) := by
        show _ = _
        rw [hcb.out, ← hc.out, show n.toNat - k = 0 by omega, extract_take]
        rfl
      go_wp2
      go_ret
      exact ⟨ret_string hend.out, hb⟩
end Go.Proofs.YtnnbbjdidbggmaaGreatDoor.U8
namespace Go.Proofs.YtnnbbjdidbggmaaGreatDoor.Lk
open Go Go.RowKit Go.Joins Kit F0 Pt

/-! ### Plain -/
theorem cut_ok (l : List UInt8) (hv : U8.validL l = true) : ∀ k, U8.validL (l.take (U8.cutN k l)) = true ∧ U8.cutN k (l.take (U8.cutN k l)) = U8.cutN k l := by
  refine U8.valid_induct (P := fun l => ∀ k, U8.validL (l.take (U8.cutN k l)) = true ∧ U8.cutN k (l.take (U8.cutN k l)) = U8.cutN k l) ?_ ?_ l hv
  · intro k
    rw [U8.cutN_none U8.decL_nil, List.take_nil]
    exact ⟨rfl, U8.cutN_none U8.decL_nil⟩
  · intro l r n h _ ih k
    cases k with
    | zero => exact ⟨rfl, rfl⟩
    | succ k =>
      obtain ⟨h1, h2, h3, h4⟩ := U8.decL_some h
      obtain ⟨i1, i2⟩ := ih k
      rw [U8.cutN_some h, List.take_add, h4]
      have hd := U8.decL_put (r : Int) (by omega) ((l.drop n).take (U8.cutN k (l.drop n)))
      refine ⟨by rw [U8.validL_append _ _ (U8.validL_put _)]; exact i1, ?_⟩
      rw [U8.cutN_some hd, h1]
      have hl := U8.putL_length (r : Int)
      rw [show (U8.putL (r : Int) ++ (l.drop n).take (U8.cutN k (l.drop n))).drop n = (l.drop n).take (U8.cutN k (l.drop n)) by rw [← h1, ← hl, List.drop_left], i2]
theorem cut_few : ∀ (k : Nat) (l : List UInt8), U8.cutN k l ≤ 4 * k
  | 0, _ => Nat.le_refl _
  | k + 1, l => by
    unfold U8.cutN
    split
    · omega
    · rename_i r n h
      have h1 := (U8.decL_some h).1
      have h2 := U8.sizeN_cases (r : Int)
      have h3 := cut_few k (l.drop n)
      omega
theorem prev_len (s : List UInt8) : (prevL s).length ≤ 400 := by
  unfold prevL
  split
  · simp
  · rename_i x _
    have := cut_few 100 (Lib.join (fldsL (saysL s x)) [32])
    rw [List.length_take]
    omega
theorem prev_ok (s : List UInt8) : okFrom true (prevL s) ∧ U8.validL (prevL s) = true ∧ (prevL s).take (U8.cutN 100 (prevL s)) = prevL s := by
  unfold prevL
  split
  · exact ⟨trivial, rfl, rfl⟩
  · rename_i x _
    obtain ⟨J, hJ⟩ : ∃ J, Lib.join (fldsL (saysL s x)) [32] = J := ⟨_, rfl⟩
    have hv : U8.validL J = true := by rw [← hJ]; exact join_valid _ (flds_valid (read_valid _))
    have hk : okFrom true J := by rw [← hJ]; exact ok_join _ (flds_inv _)
    rw [hJ]
    obtain ⟨h1, h2⟩ := cut_ok J hv 100
    exact ⟨ok_prefix (List.take_prefix _ _) hk, h1, by rw [h2, List.take_take, Nat.min_self]⟩

theorem subj_len (s : ByteArray) (hs : s.size ≤ 32768) : (subjL s.data.toList).length ≤ 131072 := by
  have h1 := (head_small s hs).2.2 subjN
  have h2 := dec_small h1
  rw [Lib.size_eq] at h2
  unfold subjL readL8
  split
  · omega
  · have := Wd.latin_len (Wd.decW true (fvL (headL s.data.toList 0 s.data.toList.length).1 subjN))
    omega

/-! ### The walk -/
theorem preview_any (s : ByteArray) (w : World) (hs : s.size ≤ 32768) (hE : Srch.Env w) (hU : UT w) :
    Calls Tryz.prog 13 #[.string s] w fun e w' => e = .returned (.string ⟨(prevL s.data.toList).toArray⟩) ∧ Below w.heap.size w w' := by
  cases hx : findP (treeL s.data.toList) with
  | none =>
    have := preview_none s w hs hE hx
    rw [show prevL s.data.toList = [] by unfold prevL; rw [hx]]
    exact this
  | some x => exact preview_some s w hs hE hU tree_ok x hx

set_option maxHeartbeats 2000000 in
set_option maxRecDepth 100000 in
theorem lookPreviews_walk (s : ByteArray) (w : World) (hEU : EnvT w) :
    Calls Tryz.prog 5 #[.string s] w fun e w' => e = .returned (.bool true) ∧ Below w.heap.size w w' := by
  obtain ⟨hE, hU⟩ := hEU
  by_cases hg : 3000 < s.size
  · have g : (3000 : Int) < s.size := by omega
    have HE := Lib.hid hE
    clear hE hU
    go_enter Tryz.func5, Tryz.ntmps5
    go_wp2_with fail
    refine (awake_any w HE.out).mono ?_
    rintro e w1 ⟨rfl, hb1⟩
    go_wp2_with fail
    go_ret
    exact ⟨rfl, hb1⟩
  have g : (s.size : Int) ≤ 3000 := by omega
  have HP := Lib.hid (preview_any s w (by omega) (srch_of hE) hU)
  obtain ⟨p, hp⟩ : ∃ p : ByteArray, (⟨(prevL s.data.toList).toArray⟩ : ByteArray) = p := ⟨_, rfl⟩
  have hpl : p.data.toList = prevL s.data.toList := by rw [← hp]
  have hps : p.size ≤ 400 := by rw [Lib.size_eq, hpl]; exact prev_len _
  obtain ⟨o1, o2, o3⟩ := prev_ok s.data.toList
  rw [← hpl] at o1 o2 o3
  rw [hp] at HP
  have HV : Hid (∀ W, Calls Tryz.prog 14 #[.string p] W fun e w' => e = .returned (.bool true) ∧ Below W.heap.size W w') := Lib.hid (fun W => by
    have := U8.rvalid_any p (by omega) W
    rw [o2] at this
    exact this)
  have HC : Hid (∀ W, Calls Tryz.prog 15 #[.string p, .int .i64 100] W fun e w' => e = .returned (.string p) ∧ Below W.heap.size W w') := Lib.hid (fun W => by
    have := U8.rcut_any p 100 (by omega) (by omega) W
    rw [show U8.cutB p (100 : Int).toNat = p from Kit.bytes_ext (by unfold U8.cutB; exact o3)] at this
    exact this)
  obtain ⟨j, hj⟩ : ∃ j : ByteArray, (⟨(subjL s.data.toList).toArray⟩ : ByteArray) = j := ⟨_, rfl⟩
  have HS : Hid (∀ W, Srch.Env W → Calls Tryz.prog 16 #[.string s] W fun e w' => e = .returned (.string j) ∧ Below W.heap.size W w') := Lib.hid (fun W h => by
    have := subject_any s W (by omega) h
    rw [hj] at this
    exact this)
  have HSV : Hid (∀ W, Calls Tryz.prog 14 #[.string j] W fun e w' => e = .returned (.bool true) ∧ Below W.heap.size W w') := Lib.hid (fun W => by
    have := U8.rvalid_any j (by
      rw [← hj, Lib.size_eq]
      exact Nat.le_trans (subj_len s (by omega)) (by omega)) W
    rw [show U8.validL j.data.toList = true by rw [← hj]; exact read_valid _] at this
    exact this)
  have HOK : Hid (∀ (k : Nat) (h : k < p.size) (c : UInt8), p[k] = c → 32 ≤ c.toNat ∧ (c = 32 → 0 < k ∧ ∀ (h2 : k - 1 < p.size), p[k - 1] ≠ 32)) := Lib.hid (fun k h c hc => by
    have h1 := ok_at o1 k (by rw [← Lib.size_eq]; exact h)
    have e1 : p.data.toList[k]'(by rw [← Lib.size_eq]; exact h) = c := by rw [← hc]; exact byte_get p k h
    rw [e1] at h1
    refine ⟨h1.1, fun e => ?_⟩
    rcases h1.2 e with ⟨_, h2⟩ | ⟨h2, h3⟩
    · cases h2
    · refine ⟨h2, fun h4 e4 => h3 ?_⟩
      rw [← e4]
      exact byte_get p (k - 1) h4)
  have HE := Lib.hid hE
  have HPE : Hid ((p.toList == p.toList) = true) := Lib.hid (beq_self_eq_true _)
  clear hE hU hp hpl o1 o2 o3 hj
  go_enter Tryz.func5, Tryz.ntmps5
  go_wp2_with fail
  refine HP.out.mono ?_
  rintro e w1 ⟨rfl, hb1⟩
  have HB1 := Lib.hid hb1
  clear hb1
  go_wp2_with fail
  go_loop [4] (fun i => ∃ k : Nat, k ≤ p.size ∧ i = .int .i64 k) (fun i => p.size - (intOf i).toNat)
  case atStart => exact ⟨0, Nat.zero_le _, rfl⟩
  case round =>
    obtain ⟨k, hk, rfl⟩ := hrel
    by_cases hlt : k < p.size
    · have g1 : (k : Int) < p.size := by omega
      obtain ⟨c, hc⟩ : ∃ c, p[k] = c := ⟨_, rfl⟩
      obtain ⟨k1, k2⟩ := HOK.out k hlt c hc
      have g2 : ¬ (c.toNat : Int) < 32 := by omega
      by_cases h32 : c = 32
      · subst h32
        obtain ⟨k3, k4⟩ := k2 rfl
        have hk1 : k - 1 < p.size := by omega
        have k5 := k4 hk1
        obtain ⟨d, hd⟩ : ∃ d, p[k - 1] = d := ⟨_, rfl⟩
        rw [hd] at k5
        have g3 : ((k : Int) == 0) = false := by rw [beq_eq_false_iff_ne]; omega
        have g4 : ((d.toNat : Int) == 32) = false := by
          rw [beq_eq_false_iff_ne]
          intro e
          exact k5 (UInt8.toNat_inj.1 (by show d.toNat = 32; omega))
        have g5 : ((k : Int) - 1).toNat = k - 1 := by omega
        clear k1 k2 k4 k5
        go_wp2_with fail
        go_round
        case rel => exact ⟨k + 1, by omega, by go_num⟩
        case measure => simp [intOf]; omega
      · have g3 : ((c.toNat : Int) == 32) = false := by
          rw [beq_eq_false_iff_ne]
          intro e
          exact h32 (UInt8.toNat_inj.1 (by show c.toNat = 32; omega))
        clear k1 k2 h32
        go_wp2_with fail
        go_round
        case rel => exact ⟨k + 1, by omega, by go_num⟩
        case measure => simp [intOf]; omega
    · obtain rfl : k = p.size := by omega
      have g1 : ¬ (p.size : Int) < p.size := by omega
      go_wp2_with fail
      refine (HV.out w1).mono ?_
      rintro e w2 ⟨rfl, hb2⟩
      have HB2 := Lib.hid (HB1.out.trans (hb2.mono HB1.out.size))
      clear hb2
      go_wp2_with fail
      refine (HC.out w2).mono ?_
      rintro e w3 ⟨rfl, hb3⟩
      have HB3 := Lib.hid (HB2.out.trans (hb3.mono HB2.out.size))
      clear hb3
      go_wp2_with fail
      refine (HS.out w3 (srch_of (HE.out.next HB3.out))).mono ?_
      rintro e w4 ⟨rfl, hb4⟩
      have HB4 := Lib.hid (HB3.out.trans (hb4.mono HB3.out.size))
      clear hb4
      go_wp2_with fail
      refine (HSV.out w4).mono ?_
      rintro e w5 ⟨rfl, hb5⟩
      have HB5 := Lib.hid (HB4.out.trans (hb5.mono HB4.out.size))
      clear hb5
      go_wp2_with fail
      refine (awake_any w5 (HE.out.next HB5.out)).mono ?_
      rintro e w6 ⟨rfl, hb6⟩
      have HB6 := Lib.hid (HB5.out.trans (hb6.mono HB5.out.size))
      clear hb6
      go_wp2_with fail
      go_ret
      exact ⟨rfl, HB6.out⟩
end Go.Proofs.YtnnbbjdidbggmaaGreatDoor.Lk
namespace Go.Proofs.YtnnbbjdidbggmaaGreatDoor.Lk
open Go Go.RowKit Go.Joins Kit

theorem preview_to {X : ByteArray} (Y : ByteArray) (w : World) (hs : X.size ≤ 32768) (h : prevL X.data.toList = Y.data.toList) (hE : Srch.Env w) (hU : UT w) :
    Calls Tryz.prog 13 #[.string X] w fun e w' => e = .returned (.string Y) ∧ Below w.heap.size w w' := by
  have := preview_any X w hs hE hU
  rw [h] at this
  exact this
theorem word_at (x : Nat) (W : World) (g : Nat) (h0 : W.cell? ⟨g, 0, none⟩ = some (.int .u8 (97 + (x : Int) % 26))) (h1 : W.cell? ⟨g, 1, none⟩ = some (.int .u8 122)) :
    (convert 32 9 (.slice (some ⟨g, 0, none⟩) 2 2)).run Tryz.prog W = .ok (.string ⟨(wd x).toArray⟩) W := by
  have h := run_convert_bytes_back (P := Tryz.prog) W 32 9 5 ⟨g, 0, none⟩ 2 (wd x) Tryz.underlying32 Tryz.underlying5 Tryz.underlying9 (by
    intro j hj
    have hj2 : j = 0 ∨ j = 1 := by
      have : j < 2 := hj
      omega
    rcases hj2 with rfl | rfl
    · have e : (((wd x)[0]'hj).toNat : Int) = 97 + (x : Int) % 26 := by
        show ((UInt8.ofNat (97 + x % 26)).toNat : Int) = _
        rw [UInt8.toNat_ofNat']
        omega
      rw [e, show (⟨g, 0, none⟩ : Addr).add 0 = ⟨g, 0, none⟩ from rfl, h0]
    · rw [show (⟨g, 0, none⟩ : Addr).add 1 = ⟨g, 1, none⟩ from rfl, h1]
      rfl)
  exact h
theorem cells_new (W : World) (u v : Value) : (W.alloc (Obj.cells #[u, v] 5)).cell? ⟨W.heap.size, 0, none⟩ = some u ∧ (W.alloc (Obj.cells #[u, v] 5)).cell? ⟨W.heap.size, 1, none⟩ = some v := by
  constructor <;> (rw [Lib.cell_of_heap (Kit.fresh_block W _ _)]; rfl)
theorem cat_list (a b : ByteArray) : (a ++ b).data.toList = a.data.toList ++ b.data.toList := by simp
set_option maxHeartbeats 4000000 in
set_option maxRecDepth 100000 in
theorem lookTexts_walk (A : Option Addr) (n c : Nat) (xs : List Int) (w : World) (l : xs.length = n) (R : ∀ k, k < n → ∃ b off, A = some ⟨b, off, none⟩ ∧ b < w.heap.size ∧ w.cell? ⟨b, off + k, none⟩ = some (.int .u8 (xs.getD k 0))) (B : ∀ k, 0 ≤ xs.getD k 0 ∧ xs.getD k 0 ≤ 255) (hEU : EnvT w) :
    Calls Tryz.prog 9 #[.slice A n c] w fun e w' => e = .returned (.bool true) ∧ Below w.heap.size w w' := by
  obtain ⟨hE, hU⟩ := hEU
  have HE := Lib.hid hE
  have HU := Lib.hid hU
  have HR := Lib.hid (And.intro R B)
  clear hE hU R B
  by_cases hg : 60 < n
  · have g : (60 : Int) < n := by omega
    go_enter Tryz.func9, Tryz.ntmps9
    go_wp2_with fail
    refine (awake_any w HE.out).mono ?_
    rintro e w1 ⟨rfl, hb1⟩
    go_wp2_with fail
    go_ret
    exact ⟨rfl, hb1⟩
  have g : (n : Int) ≤ 60 := by omega
  have hn : n ≤ 60 := by omega
  obtain ⟨ns, hns⟩ : ∃ ns : List Nat, ns = xs.map Int.toNat := ⟨_, rfl⟩
  have hnl : ns.length = n := by rw [hns, List.length_map, l]
  have HNS : Hid (∀ k (h : k < n), (xs.getD k 0) = ((ns[k]'(by omega) : Nat) : Int) ∧ ns[k]'(by omega) ≤ 255) := Lib.hid (fun k h => by
    have h1 := HR.out.2 k
    have h2 : ns[k]'(by omega) = (xs.getD k 0).toNat := by
      simp only [hns, List.getElem_map, List.getD_eq_getElem?_getD, List.getElem?_eq_getElem (show k < xs.length by omega), Option.getD_some]
    rw [h2]
    omega)
  clear hns hg
  go_enter Tryz.func9, Tryz.ntmps9
  go_wp2_with fail
  go_loopw [3, 4, 5] (fun s t i wr => ∃ (k : Nat) (S T : ByteArray), k ≤ n ∧ i = .int .i64 (k : Int) ∧ s = .string S ∧ t = .string T ∧ S.size ≤ 420 ∧ T.size ≤ 180 ∧ Hid (S.data.toList = bodyL (ns.take k)) ∧ Hid (T.data.toList = wantL (ns.take k)) ∧ Hid (Below w.heap.size w wr)) (fun _ _ i _ => n - (intOf i).toNat)
  case atStart => exact ⟨0, _, _, Nat.zero_le _, rfl, rfl, rfl, by decide, by decide, Lib.hid (by rw [List.take_zero]; rfl), Lib.hid (by rw [List.take_zero]; rfl), Lib.hid (Below.refl _ _)⟩
  case round =>
    obtain ⟨k, S, T, hk, rfl, rfl, rfl, hS, hT, hSl, hTl, hb⟩ := hrel
    by_cases hlt : k < n
    · have g1 : (k : Int) < n := by omega
      obtain ⟨b, off, rfl, hbl, hcell⟩ := HR.out.1 k hlt
      rw [(HNS.out k hlt).1] at hcell
      have hx := (HNS.out k hlt).2
      obtain ⟨x, hxx⟩ : ∃ x, ns[k]'(by omega) = x := ⟨_, rfl⟩
      rw [hxx] at hcell hx
      have hce : wr.cell? ⟨b, off + k, none⟩ = some (.int .u8 (x : Int)) := by
        rw [hb.out.cell (p := ⟨b, off + k, none⟩) hbl]
        exact hcell
      have hce2 : (wr.alloc (.cells #[.int .u8 (97 + (x : Int) % 26), .int .u8 122] 5)).cell? ⟨b, off + k, none⟩ = some (.int .u8 (x : Int)) := by
        rw [((Below.refl _ wr).alloc (Nat.le_refl _) (.cells #[.int .u8 (97 + (x : Int) % 26), .int .u8 122] 5)).cell (p := ⟨b, off + k, none⟩) (by show b < wr.heap.size; exact Nat.lt_of_lt_of_le hbl hb.out.size)]
        exact hce
      have HTK : Hid (ns.take (k + 1) = ns.take k ++ [x]) := Lib.hid (by rw [List.take_succ_eq_append_getElem (by omega), hxx])
      clear hcell hxx
      have hcv := word_at x (wr.alloc (.cells #[.int .u8 (97 + (x : Int) % 26), .int .u8 122] 5)) wr.heap.size (cells_new wr _ _).1 (cells_new wr _ _).2
      obtain ⟨D, hD⟩ : ∃ D : ByteArray, (⟨(wd x).toArray⟩ : ByteArray) = D := ⟨_, rfl⟩
      have hDs : D.size = 2 := by rw [← hD]; rfl
      have hDl : D.data.toList = wd x := by rw [← hD]
      rw [hD] at hcv
      have g5 : 0 ≤ 1 + (x : Int) % 5 := by omega
      have g6 : 1 + (x : Int) % 5 ≤ 5 := by omega
      have g7 : (1 + (x : Int) % 5).toNat = 1 + x % 5 := by omega
      have hGs : (ByteArray.extract ⟨#[32, 13, 10, 9, 32]⟩ 0 (1 + x % 5)).size ≤ 5 := by rw [ByteArray.size_extract, show (ByteArray.mk #[32, 13, 10, 9, 32]).size = 5 from rfl]; omega
      have hGl : (ByteArray.extract ⟨#[32, 13, 10, 9, 32]⟩ 0 (1 + x % 5)).data.toList = gp x := by rw [← Lib.toList_data, Lib.extract_toList]; rfl
      have HBN := Lib.hid (hb.out.alloc hb.out.size (.cells #[.int .u8 (97 + (x : Int) % 26), .int .u8 122] 5))
      have hSz : S.size ≤ 7 * k := by
        rw [Lib.size_eq, hSl.out]
        refine Nat.le_trans (body_len _) ?_
        rw [List.length_take]
        omega
      have hTz : T.size ≤ 3 * k := by
        rw [Lib.size_eq, hTl.out]
        refine Nat.le_trans (want_len _) ?_
        rw [List.length_take]
        omega
      have HNS1 : Hid ((S ++ D ++ ByteArray.extract ⟨#[32, 13, 10, 9, 32]⟩ 0 (1 + x % 5)).data.toList = bodyL (ns.take (k + 1))) := Lib.hid (by
        rw [cat_list, cat_list, hSl.out, hDl, hGl, HTK.out, body_snoc, List.append_assoc])
      have HNZ1 : Hid ((S ++ D ++ ByteArray.extract ⟨#[32, 13, 10, 9, 32]⟩ 0 (1 + x % 5)).size ≤ 420) := Lib.hid (by
        rw [ByteArray.size_append, ByteArray.size_append]
        omega)
      clear hD
      by_cases hk0 : k = 0
      · have g8 : ¬ (0 : Int) < (k : Int) := by omega
        have HNT : Hid ((T ++ D).data.toList = wantL (ns.take (k + 1))) := Lib.hid (by
          rw [cat_list, hTl.out, hDl, HTK.out, want_snoc, if_pos (by rw [hk0, List.take_zero]), List.nil_append])
        have HNZ2 : Hid ((T ++ D).size ≤ 180) := Lib.hid (by rw [ByteArray.size_append]; omega)
        clear hDl hGl hk0
        go_wp2_with fail
        go_roundw
        case rel => exact ⟨k + 1, _, _, by omega, by go_num, rfl, rfl, HNZ1.out, HNZ2.out, HNS1, HNT, HBN⟩
        case measure => simp [intOf]; omega
      · have g8 : (0 : Int) < (k : Int) := by omega
        have HNT : Hid ((T ++ ⟨#[32]⟩ ++ D).data.toList = wantL (ns.take (k + 1))) := Lib.hid (by
          rw [cat_list, cat_list, hTl.out, hDl, HTK.out, want_snoc, if_neg (by
            intro e
            have := congrArg List.length e
            rw [List.length_take, List.length_nil] at this
            omega), List.append_assoc])
        have HNZ2 : Hid ((T ++ ⟨#[32]⟩ ++ D).size ≤ 180) := Lib.hid (by rw [ByteArray.size_append, ByteArray.size_append, show (ByteArray.mk #[32]).size = 1 from rfl]; omega)
        clear hDl hGl hk0
        go_wp2_with fail
        go_roundw
        case rel => exact ⟨k + 1, _, _, by omega, by go_num, rfl, rfl, HNZ1.out, HNZ2.out, HNS1, HNT, HBN⟩
        case measure => simp [intOf]; omega
    · obtain rfl : k = n := by omega
      have g1 : ¬ (k : Int) < (k : Int) := by omega
      rw [List.take_of_length_le (by omega)] at hSl hTl
      have HS1 : Hid ((⟨#[13, 10]⟩ ++ S : ByteArray).data.toList = [13, 10] ++ bodyL ns) := Lib.hid (by rw [cat_list, hSl.out])
      have HS2 : Hid ((⟨#[67, 111, 110, 116, 101, 110, 116, 45, 84, 121, 112, 101, 58, 32, 116, 101, 120, 116, 47, 104, 116, 109, 108, 13, 10, 13, 10]⟩ ++ S : ByteArray).data.toList = hTy ++ ([13, 10] ++ ([13, 10] ++ bodyL ns))) := Lib.hid (by rw [cat_list, hSl.out]; rfl)
      have HS3 : Hid ((⟨#[67, 111, 110, 116, 101, 110, 116, 45, 68, 105, 115, 112, 111, 115, 105, 116, 105, 111, 110, 58, 32, 97, 116, 116, 97, 99, 104, 109, 101, 110, 116, 13, 10, 13, 10]⟩ ++ S : ByteArray).data.toList = hDi ++ ([13, 10] ++ ([13, 10] ++ bodyL ns))) := Lib.hid (by rw [cat_list, hSl.out]; rfl)
      have hm : ∃ m : Nat, m ≤ T.size ∧ (m : Int) = min (T.size : Int) 100 ∧ (T.extract 0 m).data.toList = prevL ([13, 10] ++ bodyL ns) := by
        refine ⟨min T.size 100, Nat.min_le_left _ _, by omega, ?_⟩
        rw [texts_one, ← hTl.out, ← Lib.size_eq, ← Lib.toList_data, Lib.extract_toList, List.drop_zero, Nat.sub_zero]
      obtain ⟨m, hm1, hm2, hm3⟩ := hm
      have hm4 : min (T.size : Int) 100 = (m : Int) := hm2.symm
      have hm5 : (m : Int) ≤ (T.size : Int) := by omega
      have hq1 : ¬ 9223372036854775807 < 2 + S.size := by omega
      have hq2 : ¬ 9223372036854775807 < 27 + S.size := by omega
      have hq3 : ¬ 9223372036854775807 < 35 + S.size := by omega
      clear hm2
      have HZ : Hid (∀ Z : ByteArray, Z.size ≤ 100 → (Z ++ S).size ≤ 32768) := Lib.hid (fun Z hz => by rw [ByteArray.size_append]; omega)
      obtain ⟨Z1, hZ1⟩ : ∃ Z : ByteArray, ⟨#[13, 10]⟩ ++ S = Z := ⟨_, rfl⟩
      rw [hZ1] at HS1
      have hzs1 : Z1.size ≤ 32768 := by rw [← hZ1]; exact HZ.out _ (by decide)
      obtain ⟨Z2, hZ2⟩ : ∃ Z : ByteArray, ⟨#[67, 111, 110, 116, 101, 110, 116, 45, 84, 121, 112, 101, 58, 32, 116, 101, 120, 116, 47, 104, 116, 109, 108, 13, 10, 13, 10]⟩ ++ S = Z := ⟨_, rfl⟩
      rw [hZ2] at HS2
      have hzs2 : Z2.size ≤ 32768 := by rw [← hZ2]; exact HZ.out _ (by decide)
      obtain ⟨Z3, hZ3⟩ : ∃ Z : ByteArray, ⟨#[67, 111, 110, 116, 101, 110, 116, 45, 68, 105, 115, 112, 111, 115, 105, 116, 105, 111, 110, 58, 32, 97, 116, 116, 97, 99, 104, 109, 101, 110, 116, 13, 10, 13, 10]⟩ ++ S = Z := ⟨_, rfl⟩
      rw [hZ3] at HS3
      have hzs3 : Z3.size ≤ 32768 := by rw [← hZ3]; exact HZ.out _ (by decide)
      have HA : Hid (∀ W, Below w.heap.size w W → Calls Tryz.prog 13 #[.string Z1] W fun e w' => e = .returned (.string (T.extract 0 m)) ∧ Below w.heap.size w w') := Lib.hid (fun W h => (preview_to (T.extract 0 m) W hzs1 (by rw [HS1.out, hm3]) (srch_of (HE.out.next h)) (HU.out.next h)).mono (fun e w' k => ⟨k.1, h.trans (k.2.mono h.size)⟩))
      have HC : Hid (∀ W, Below w.heap.size w W → Calls Tryz.prog 13 #[.string Z2] W fun e w' => e = .returned (.string ⟨#[]⟩) ∧ Below w.heap.size w w') := Lib.hid (fun W h => (preview_to ⟨#[]⟩ W hzs2 (by rw [HS2.out, prev_ty]) (srch_of (HE.out.next h)) (HU.out.next h)).mono (fun e w' k => ⟨k.1, h.trans (k.2.mono h.size)⟩))
      have HD : Hid (∀ W, Below w.heap.size w W → Calls Tryz.prog 13 #[.string Z3] W fun e w' => e = .returned (.string ⟨#[]⟩) ∧ Below w.heap.size w w') := Lib.hid (fun W h => (preview_to ⟨#[]⟩ W hzs3 (by rw [HS3.out, prev_di]) (srch_of (HE.out.next h)) (HU.out.next h)).mono (fun e w' k => ⟨k.1, h.trans (k.2.mono h.size)⟩))
      have HW : Hid (∀ W, Below w.heap.size w W → Calls Tryz.prog 10 #[] W fun e w' => e = .returned (.bool true) ∧ Below w.heap.size w w') := Lib.hid (fun W h => (awake_any W (HE.out.next h)).mono (fun e w' k => ⟨k.1, h.trans (k.2.mono h.size)⟩))
      clear hm3 hzs1 hzs2 hzs3
      go_upto_region 12 with fail
      refine wp_region_any (by kernel_rfl) ?_
      try (change wpAny _ _ _ _ _ _ _ (World.drew _))
      refine wpAny_take (i := 0) (v := ?_) rfl (by kernel_rfl) (by kernel_rfl) (by kernel_rfl) (fun _ _ _ h => h) (Or.inl ⟨by rfl, ?_⟩) ?_
      rotate_left 1
      · (intro w; go_simp) <;> with_reducible rfl
      refine wpAny_take (i := 1) (v := ?_) rfl (by kernel_rfl) (by kernel_rfl) (by kernel_rfl) (fun _ _ _ h => h) (Or.inl ⟨by rfl, ?_⟩) ?_
      rotate_left 1
      · (intro w; go_simp) <;> with_reducible rfl
      refine wpAny_take (i := 3) (v := ?_) rfl (by kernel_rfl) (by kernel_rfl) (by kernel_rfl) (fun _ _ _ h => h) (Or.inl ⟨by rfl, ?_⟩) ?_
      rotate_left 1
      · (intro w; go_simp) <;> with_reducible rfl
      refine wpAny_take (i := 4) (v := ?_) rfl (by kernel_rfl) (by kernel_rfl) (by kernel_rfl) (fun _ _ _ h => h) (Or.inl ⟨by rfl, ?_⟩) ?_
      rotate_left 1
      · (intro w; go_simp) <;> with_reducible rfl
      refine wpAny_take (i := 5) (v := ?_) rfl (by kernel_rfl) (by kernel_rfl) (by kernel_rfl) (fun _ _ _ h => h) (Or.inl ⟨by rfl, ?_⟩) ?_
      rotate_left 1
      · (intro w; go_simp) <;> with_reducible rfl
      refine wpAny_take (i := 6) (v := ?_) rfl (by kernel_rfl) (by kernel_rfl) (by kernel_rfl) (fun _ _ _ h => h) (Or.inl ⟨by rfl, ?_⟩) ?_
      rotate_left 1
      · (intro w; go_simp) <;> with_reducible rfl
      refine wpAny_take (i := 7) (v := ?_) rfl (by kernel_rfl) (by kernel_rfl) (by kernel_rfl) (fun _ _ _ h => h) (Or.inl ⟨by rfl, ?_⟩) ?_
      rotate_left 1
      · (intro w; go_simp) <;> with_reducible rfl
      refine wpAny_ready (rs := [2]) (by kernel_rfl) (by simp) ?_
      refine AllReady.cons rfl (fun K hK => ?_) AllReady.nil
      go_simp
      go_wp2_with fail
      refine (HA.out _ (by first | exact hb.out | exact hb.out.drew)).mono ?_
      rintro e wA ⟨rfl, hbA⟩
      go_wp2_with fail
      refine wpAny_take (i := 8) (v := ?_) rfl (by kernel_rfl) (by kernel_rfl) (by kernel_rfl) (fun _ _ _ h => h) (Or.inl ⟨by rfl, ?_⟩) ?_
      rotate_left 1
      · (intro w; go_simp) <;> with_reducible rfl
      refine wpAny_take (i := 9) (v := ?_) rfl (by kernel_rfl) (by kernel_rfl) (by kernel_rfl) (fun _ _ _ h => h) (Or.inl ⟨by rfl, ?_⟩) ?_
      rotate_left 1
      · (intro w; go_simp) <;> with_reducible rfl
      refine wpAny_take (i := 10) (v := ?_) rfl (by kernel_rfl) (by kernel_rfl) (by kernel_rfl) (fun _ _ _ h => h) (Or.inl ⟨by rfl, ?_⟩) ?_
      rotate_left 1
      · (intro w; go_simp) <;> with_reducible rfl
      refine wpAny_take (i := 11) (v := ?_) rfl (by kernel_rfl) (by kernel_rfl) (by kernel_rfl) (fun _ _ _ h => h) (Or.inl ⟨by rfl, ?_⟩) ?_
      rotate_left 1
      · (intro w; go_simp) <;> with_reducible rfl
      refine wpAny_ready (rs := [12]) (by kernel_rfl) (by simp) ?_
      refine AllReady.cons rfl (fun K hK => ?_) AllReady.nil
      go_simp
      go_wp2_with fail
      refine (HC.out _ (by first | exact hbA | exact hbA.drew)).mono ?_
      rintro e wC ⟨rfl, hbC⟩
      go_wp2_with fail
      refine wpAny_take (i := 13) (v := ?_) rfl (by kernel_rfl) (by kernel_rfl) (by kernel_rfl) (fun _ _ _ h => h) (Or.inl ⟨by rfl, ?_⟩) ?_
      rotate_left 1
      · (intro w; go_simp) <;> with_reducible rfl
      refine wpAny_take (i := 14) (v := ?_) rfl (by kernel_rfl) (by kernel_rfl) (by kernel_rfl) (fun _ _ _ h => h) (Or.inl ⟨by rfl, ?_⟩) ?_
      rotate_left 1
      · (intro w; go_simp) <;> with_reducible rfl
      refine wpAny_take (i := 15) (v := ?_) rfl (by kernel_rfl) (by kernel_rfl) (by kernel_rfl) (fun _ _ _ h => h) (Or.inl ⟨by rfl, ?_⟩) ?_
      rotate_left 1
      · (intro w; go_simp) <;> with_reducible rfl
      refine wpAny_take (i := 16) (v := ?_) rfl (by kernel_rfl) (by kernel_rfl) (by kernel_rfl) (fun _ _ _ h => h) (Or.inl ⟨by rfl, ?_⟩) ?_
      rotate_left 1
      · (intro w; go_simp) <;> with_reducible rfl
      refine wpAny_take (i := 17) (v := ?_) rfl (by kernel_rfl) (by kernel_rfl) (by kernel_rfl) (fun _ _ _ h => h) (Or.inl ⟨by rfl, ?_⟩) ?_
      rotate_left 1
      · (intro w; go_simp) <;> with_reducible rfl
      refine wpAny_ready (rs := [18]) (by kernel_rfl) (by simp) ?_
      refine AllReady.cons rfl (fun K hK => ?_) AllReady.nil
      go_simp
      go_wp2_with fail
      refine (HD.out _ (by first | exact hbC | exact hbC.drew)).mono ?_
      rintro e wD ⟨rfl, hbD⟩
      go_wp2_with fail
      refine wpAny_take (i := 19) (v := ?_) rfl (by kernel_rfl) (by kernel_rfl) (by kernel_rfl) (fun _ _ _ h => h) (Or.inl ⟨by rfl, ?_⟩) ?_
      rotate_left 1
      · (intro w; go_simp) <;> with_reducible rfl
      refine wpAny_take (i := 20) (v := ?_) rfl (by kernel_rfl) (by kernel_rfl) (by kernel_rfl) (fun _ _ _ h => h) (Or.inl ⟨by rfl, ?_⟩) ?_
      rotate_left 1
      · (intro w; go_simp) <;> with_reducible rfl
      refine wpAny_take (i := 21) (v := ?_) rfl (by kernel_rfl) (by kernel_rfl) (by kernel_rfl) (fun _ _ _ h => h) (Or.inl ⟨by rfl, ?_⟩) ?_
      rotate_left 1
      · (intro w; go_simp) <;> with_reducible rfl
      refine wpAny_ready (rs := [22]) (by kernel_rfl) (by simp) ?_
      refine AllReady.cons rfl (fun K hK => ?_) AllReady.nil
      go_simp
      go_wp2_with fail
      refine (HW.out _ (by first | exact hbD | exact hbD.drew)).mono ?_
      rintro e wE ⟨rfl, hbE⟩
      go_wp2_with fail
      refine wpAny_take (i := 23) (v := ?_) rfl (by kernel_rfl) (by kernel_rfl) (by kernel_rfl) (fun _ _ _ h => h) (Or.inl ⟨by rfl, ?_⟩) ?_
      rotate_left 1
      · (intro w; go_simp) <;> with_reducible rfl
      refine wpAny_take (i := 24) (v := ?_) rfl (by kernel_rfl) (by kernel_rfl) (by kernel_rfl) (fun _ _ _ h => h) (Or.inl ⟨by rfl, ?_⟩) ?_
      rotate_left 1
      · (intro w; go_simp) <;> with_reducible rfl
      refine wpAny_done (by kernel_rfl) ?_ _
      go_wp2_with fail
      go_ret
      exact ⟨rfl, by first | exact hbE | exact hbE.drew⟩
end Go.Proofs.YtnnbbjdidbggmaaGreatDoor.Lk
namespace Go.Proofs.YtnnbbjdidbggmaaGreatDoor.U8p
open Go Go.RowKit Go.WideShapes Go.ChangeShapes Kit

theorem opens {H : Type} {enc : TypeId × Value → H} {W : World} {A : Option Addr} {n c : Nat} {d : DataW H} {p : List MemPlace} (h : DataW.Trod enc Tryz.prog W 0 (fun _ => true) true 32 (.slice A n c) d p) :
    ∃ xs : List Int, xs.length = n ∧ n ≤ 9223372036854775807 ∧ (∀ k, k < n → ∃ b off, A = some ⟨b, off, none⟩ ∧ b < W.heap.size ∧ W.cell? ⟨b, off + k, none⟩ = some (.int .u8 (xs.getD k 0))) ∧ ∀ k, 0 ≤ xs.getD k 0 ∧ xs.getD k 0 ≤ 255 := by
  obtain ⟨fuel, hf⟩ := h
  have hc : Tryz.prog.cellsOf 5 = 1 := by kernel_rfl
  rcases Go.ChangeShapes.open_ints Tryz.underlying32 Tryz.underlying5 hc hf with ⟨hcs, _⟩ | ⟨a, len', cap', xs, hcs, _, hle, hmax, hall, _, hcell, hwf⟩
  · simp [Value.cells] at hcs
    obtain ⟨rfl, rfl, rfl⟩ := hcs
    exact ⟨[], rfl, by omega, fun k hk => by omega, fun k => by simp⟩
  · simp [Value.cells] at hcs
    obtain ⟨rfl, rfl, rfl⟩ := hcs
    simp only [if_true] at hall
    unfold maxLen at hmax
    have hn : n ≤ 9223372036854775807 := by omega
    refine ⟨xs.take n, by rw [List.length_take]; omega, hn, fun k hk => ?_, fun k => ?_⟩
    · obtain ⟨b, off, rfl, hcl⟩ := ints_at hcell (by omega)
      have h1 := hcl k (by omega)
      refine ⟨b, off, rfl, cell_lt h1, ?_⟩
      rw [h1]
      simp [List.getD_eq_getElem?_getD, hk]
    · have := range_u8 (zs := xs.take n) (fun m hm => hwf m (List.mem_of_mem_take hm)) k
      rw [List.getD_eq_getElem?_getD]
      exact this
end Go.Proofs.YtnnbbjdidbggmaaGreatDoor.U8p
namespace Go.Proofs.YtnnbbjdidbggmaaGreatDoor.fnLookTexts
open Go Go.ChangeShapes Go.WideShapes Go.ChangeAt Go.RowKit
open Go.ChangeMaps (open_string shut_string)

theorem laidOut : laidOutB Tryz.prog = true := by kernel_rfl
theorem env {W : World} (h : laidMetH Tryz.prog Rows.lookTextsRow.laid W) (hsh : W.ShapedOpen Tryz.prog) : Lk.EnvT W := by
  rw [MakeChecks.laidMetH_plain _ _ _ (by kernel_rfl)] at h
  exact Lk.envT_of h hsh (by kernel_rfl) (by kernel_rfl) (by kernel_rfl)

set_option maxRecDepth 100000 in
theorem contract (H : Type) (enc : TypeId × Value → H) (W : World) (base : Nat) (args : Array Value) (ds gs : List (DataW H)) (before : List MemPlace)
    (hval : ∀ (j : Nat) t v, Tryz.f9.params[j]? = some t → args[j]? = some v → Value.okWide Tryz.prog W .any base t v)
    (hW : DataW.Whole enc Tryz.prog Tryz.f9.params.toList Rows.lookTextsSpec.vars false W args.toList ds gs before) (hE : Lk.EnvT W) :
    Calls Tryz.prog 9 args W fun e W' => ∃ v, e = .returned v ∧ Rows.lookTextsSpec.post enc Tryz.prog Tryz.f9 false true false false W args v W' := by
  have hW' := hW
  obtain ⟨p, q, hA0, hV, rfl, hfz, hnd⟩ := hW
  have hA : DataW.TrodAll enc Tryz.prog W 0 (fun _ => true) true Tryz.f9.params.toList args.toList ds p := hA0
  rw [Tryz.params9] at hA hval
  obtain ⟨v0, vs0, d0, ds0, p0, q0, hargs, rfl, rfl, h0, r0⟩ := trodAll_cons hA
  obtain ⟨rfl, rfl, rfl⟩ := trodAll_nil r0
  obtain rfl : args = #[v0] := by cases args; simp_all
  obtain ⟨rfl, rfl⟩ := trodVars_none hV
  have k0 := h0
  obtain ⟨a0, n0, c0, rfl⟩ := Go.WideShapes.okWide_slice Tryz.underlying32 (hval 0 32 _ rfl rfl)
  obtain ⟨xs0, l0, -, R0, B0⟩ := U8p.opens h0
  clear hA0
  simp only [List.append_nil] at hW'
  refine (Lk.lookTexts_walk a0 n0 c0 xs0 W l0 R0 B0 hE).mono fun e W' ⟨he, hb⟩ => ?_
  subst he
  exact ⟨_, rfl, _, _, _, [], _, [], hW', trodAll_cons_mk (shut_bool Tryz.underlying4 _) trodAll_mk0, (trodAll_cons_mk (Below.trod laidOut (by kernel_rfl) (of_decide_eq_true (by kernel_rfl)) k0 hb (fun x hx => hW'.lt x (by simp [hx]))) trodAll_mk0), rfl, hb.frame _, fun h => by cases h⟩

theorem laid_met (os : Os) : laidMet Tryz.prog Rows.lookTextsRow.laid ((World.laidAll Tryz.prog os Rows.lookTextsRow.laid).forCall (fun _ _ => 0) ⟨#[], #[.slice none 0 0], []⟩).memory :=
  laidMet_laidAll #[.slice none 0 0] (by kernel_rfl) (by kernel_rfl)
theorem reads (os : Os) {H : Type} (enc : TypeId × Value → H) : ∃ places, DataW.whole enc Tryz.prog ((World.laidAll Tryz.prog os Rows.lookTextsRow.laid).forCall (fun _ _ => 0) ⟨#[], #[.slice none 0 0], []⟩).memory Tryz.f9.params.toList Rows.lookTextsSpec.vars false (#[.slice none 0 0] : Array Value).toList 8 = some ([.nil], [], places) :=
  ⟨[], by kernel_rfl⟩

set_option maxRecDepth 100000 in
theorem lifted (os : Os) (started : os.Started) (H : Type) (enc : TypeId × Value → H) (F : Stop.Interp) :
    ReturnsInHanded {} Tryz.checked os 9 .any ((OpenSpec.ofChange Rows.lookTextsSpec).preRow enc Tryz.prog Tryz.f9 Rows.lookTextsRow.domain false Rows.lookTextsRow.laid) (((OpenSpec.ofChange Rows.lookTextsSpec).at F).post enc Tryz.prog Tryz.f9 false true false false) := by
  obtain ⟨places, hx⟩ := reads os enc
  refine returnsInHanded_of_row (C := Tryz.checked) (s := OpenSpec.ofChange Rows.lookTextsSpec) Kit.own started (by kernel_rfl) Tryz.func9
    (witness_row_at (enc := enc) (C := Tryz.checked) false (World.laidAll Tryz.prog os Rows.lookTextsRow.laid) #[.slice none 0 0] (World.laidAll_os _ _ _) (by kernel_rfl) (by kernel_rfl) (by kernel_rfl)
      (OpenSpec.preRow_of_cond 8 hx (by kernel_rfl) (fun k hk => by cases hk) (by kernel_rfl) (laid_met os))) ?_
  intro W base args ds gs before hval hW _ _ _ hL hsh _
  exact contract H enc W base args ds gs before hval hW (env hL hsh)

theorem said : Rows.LookTextsSaid :=
  OpenClaim.holds_of_cond 9 Tryz.f9 rfl rfl rfl rfl rfl rfl rfl ⟨rfl, rfl, rfl, rfl, rfl⟩ rfl rfl rfl rfl rfl (by kernel_rfl) Tryz.func9 (by kernel_rfl)
    (of_decide_eq_true (by kernel_rfl)) (by unfold Func.isWrapper; rw [if_neg (by decide +kernel)]; exact ⟨rfl, rfl⟩)
    (fun os started H enc _ F => by rw [OpenClaim.pre_eq_preRow]; exact lifted os started H enc F)

theorem plain (f : FuncId) (fn : Func) (hf : Tryz.pinned.checked.prog.funcNamed "pillarbox/pillarboxlaw14.LookTexts" = some f) (hfn : Tryz.pinned.checked.prog.funcs[f]? = some fn) :
    false = Tryz.pinned.checked.prog.looks [] ∧ ∀ (j : Nat) t, fn.params[j]? = some t → Tryz.pinned.checked.prog.wantsStandIn t = false := by
  obtain rfl : f = 9 := Option.some.inj ((show Tryz.prog.funcNamed "pillarbox/pillarboxlaw14.LookTexts" = some 9 by kernel_rfl).symm.trans hf) |>.symm
  obtain rfl : fn = Tryz.f9 := (Option.some.inj (Tryz.func9.symm.trans hfn)).symm
  refine ⟨by kernel_rfl, fun j t ht => ?_⟩
  rw [Tryz.params9] at ht
  have hm : t = 32 := by simpa using Array.mem_of_getElem? ht
  rcases hm with rfl
  · exact (show Tryz.prog.wantsStandIn 32 = false by kernel_rfl)

theorem card : Rows.LookTextsCardSaid :=
  Claim7.holds_tied_plain_at .later [] _ _ _ _ said (fun _ h => by cases h) (by kernel_rfl) (fun _ h => by cases h) lookTexts_row_tie rfl ⟨rfl, rfl⟩ (by kernel_rfl) rfl plain (by kernel_rfl)
end Go.Proofs.YtnnbbjdidbggmaaGreatDoor.fnLookTexts
