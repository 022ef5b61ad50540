/-
  The law LookParts holds as its card says, for every input: it returns true, and what it is handed reads as it did. Conditions: none of its own.
-/
import Derived.Test.YtnnbbjdidbggmaaGreatDoorF0Lines
import Derived.Test.YtnnbbjdidbggmaaGreatDoorF0Mem
import Derived.Test.YtnnbbjdidbggmaaGreatDoorEnv
import Derived.Test.YtnnbbjdidbggmaaGreatDoorLkPlain
import Derived.Test.YtnnbbjdidbggmaaGreatDoorPtWell
import Derived.Test.YtnnbbjdidbggmaaGreatDoorPtSizes
import Derived.Test.YtnnbbjdidbggmaaGreatDoorLkLow
import Derived.Test.YtnnbbjdidbggmaaGreatDoorU8Valid
import Derived.Test.YtnnbbjdidbggmaaGreatDoorF0Split
import Derived.Test.YtnnbbjdidbggmaaGreatDoorPtType
import Derived.Test.YtnnbbjdidbggmaaGreatDoorU8Clone
import Derived.Test.YtnnbbjdidbggmaaGreatDoorLkPtsP
import Derived.Test.YtnnbbjdidbggmaaGreatDoorKit
import Derived.Test.YtnnbbjdidbggmaaGreatDoorShelf
import Derived.Test.YtnnbbjdidbggmaaGreatDoorPtMadeL
import Derived.Test.YtnnbbjdidbggmaaGreatDoorTxPlain
import Derived.Test.YtnnbbjdidbggmaaGreatDoorCards
import Derived.Test.YtnnbbjdidbggmaaGreatDoorTie
import Derived.Lib.MapLaws
import Derived.Lib.SpaceUEq
import Derived.Lib.Join
import Derived.RangeFuncWrites
import Derived.Lib.Bytealg
import Derived.Lib.IndexBytes
import Derived.Laws.ResultCell
import Derived.BigQuiet
import Derived.Lib.AppendStr
import Derived.Lib.ConvBytes
import Derived.OwnWalk
import Derived.Deep.LoopGhost
import Derived.WalkSmall
import Derived.IntWalk
import Derived.Deep.RegionWith
import Derived.OpenShut
import Derived.Deep.Slices
import Derived.Deep.Strs
import Derived.Deep.CutRange
import Derived.Deep.RegionHeld3
import Derived.ProofKit
import Derived.Deep.DeepHandedRow
import Derived.Lib.LaidTab
import Derived.Lay
import Derived.LaidSub
import Derived.MakeChecks
import Derived.ShutString
import Derived.Carry
namespace Go.Proofs.YtnnbbjdidbggmaaGreatDoor.Lk
open Go

def gapB (c : UInt8) : Bool := decide (c.toNat ≤ 32)
/-- The fields that are told, and the one that is under way. -/
def gapS (st : List (List UInt8) × List UInt8) (c : UInt8) : List (List UInt8) × List UInt8 :=
  if gapB c then (if st.2 = [] then st else (st.1 ++ [st.2], [])) else (st.1, st.2 ++ [c])
def gapRun (l : List UInt8) : List (List UInt8) × List UInt8 := l.foldl gapS ([], [])
def endG (st : List (List UInt8) × List UInt8) : List (List UInt8) := if st.2 = [] then st.1 else st.1 ++ [st.2]
def fldsL (l : List UInt8) : List (List UInt8) := endG (gapRun l)
theorem gap_snoc (l : List UInt8) (c : UInt8) : gapRun (l ++ [c]) = gapS (gapRun l) c := by simp [gapRun]
theorem gap_more : ∀ (m l : List UInt8) (_ : ∀ c ∈ m, gapB c = false), gapRun (l ++ m) = ((gapRun l).1, (gapRun l).2 ++ m)
  | [], l, _ => by simp
  | c :: m, l, h => by
    have h1 := h c (by simp)
    have h2 := gap_more m (l ++ [c]) (fun x hx => h x (by simp [hx]))
    rw [List.append_assoc, List.singleton_append, gap_snoc] at h2
    rw [h2]
    simp [gapS, h1]
theorem gap_at (l : List UInt8) (k : Nat) (h : k < l.length) : gapRun (l.take (k + 1)) = gapS (gapRun (l.take k)) l[k] := by
  rw [List.take_succ_eq_append_getElem h, gap_snoc]
/-- What is told, and what is under way, has no gap in it; no field is empty. -/
def GInv (st : List (List UInt8) × List UInt8) : Prop := (∀ f ∈ st.1, f ≠ [] ∧ ∀ c ∈ f, gapB c = false) ∧ ∀ c ∈ st.2, gapB c = false
theorem gapS_inv {st : List (List UInt8) × List UInt8} (h : GInv st) (c : UInt8) : GInv (gapS st c) := by
  unfold gapS
  split
  · split
    · exact h
    · rename_i h1 h2
      refine ⟨fun f hf => ?_, fun x hx => by simp at hx⟩
      rcases List.mem_append.1 hf with hf | hf
      · exact h.1 f hf
      · rw [List.mem_singleton] at hf
        subst hf
        exact ⟨h2, h.2⟩
  · rename_i h1
    refine ⟨h.1, fun x hx => ?_⟩
    rcases List.mem_append.1 hx with hx | hx
    · exact h.2 x hx
    · rw [List.mem_singleton] at hx
      subst hx
      simpa using h1
theorem foldS_inv : ∀ (l : List UInt8) {st : List (List UInt8) × List UInt8} (_ : GInv st), GInv (l.foldl gapS st)
  | [], _, h => h
  | c :: r, _, h => foldS_inv r (gapS_inv h c)
theorem gap_inv (l : List UInt8) : GInv (gapRun l) := foldS_inv l ⟨fun f h => by simp at h, fun c h => by simp at h⟩
theorem flds_inv (l : List UInt8) : ∀ f ∈ fldsL l, f ≠ [] ∧ ∀ c ∈ f, gapB c = false := by
  intro f hf
  unfold fldsL endG at hf
  split at hf
  · exact (gap_inv l).1 f hf
  · rename_i h
    rcases List.mem_append.1 hf with hf | hf
    · exact (gap_inv l).1 f hf
    · rw [List.mem_singleton] at hf
      subst hf
      exact ⟨h, (gap_inv l).2⟩

theorem gapS_pre (st : List (List UInt8) × List UInt8) (c : UInt8) : st.1 <+: (gapS st c).1 := by
  unfold gapS
  split
  · split
    · exact List.prefix_refl _
    · exact List.prefix_append _ _
  · exact List.prefix_refl _
theorem fold_pre : ∀ (m : List UInt8) (st : List (List UInt8) × List UInt8), st.1 <+: (m.foldl gapS st).1
  | [], _ => List.prefix_refl _
  | c :: m, st => (gapS_pre st c).trans (fold_pre m (gapS st c))
theorem told_pre (l : List UInt8) (k : Nat) : (gapRun (l.take k)).1 <+: fldsL l := by
  have h : gapRun l = (l.drop k).foldl gapS (gapRun (l.take k)) := by
    unfold gapRun
    rw [← List.foldl_append, List.take_append_drop]
  have h1 := fold_pre (l.drop k) (gapRun (l.take k))
  rw [← h] at h1
  refine h1.trans ?_
  unfold fldsL endG
  split
  · exact List.prefix_refl _
  · exact List.prefix_append _ _

/-! ### The fields put together -/
def okFrom (pb : Bool) : List UInt8 → Prop
  | [] => True
  | c :: r => 32 ≤ c.toNat ∧ (c = 32 → pb = false) ∧ okFrom (c == 32) r
theorem gap_no {c : UInt8} (h : gapB c = false) : 32 < c.toNat ∧ c ≠ 32 := by
  unfold gapB at h
  rw [decide_eq_false_iff_not] at h
  refine ⟨by omega, fun e => ?_⟩
  subst e
  exact h (by decide)
theorem ok_field : ∀ (f : List UInt8) (pb : Bool) (rest : List UInt8) (_ : f ≠ []) (_ : ∀ c ∈ f, gapB c = false) (_ : okFrom false rest), okFrom pb (f ++ rest)
  | [], _, _, h, _, _ => absurd rfl h
  | [c], pb, rest, _, h, hr => by
    have h1 := gap_no (h c (by simp))
    have h2 : (c == 32) = false := by rw [beq_eq_false_iff_ne]; exact h1.2
    rw [List.singleton_append, okFrom, h2]
    exact ⟨by omega, fun e => absurd e h1.2, hr⟩
  | c :: d :: r, pb, rest, _, h, hr => by
    have h1 := gap_no (h c (by simp))
    rw [List.cons_append, okFrom]
    exact ⟨by omega, fun e => absurd e h1.2, ok_field (d :: r) _ rest (by simp) (fun x hx => h x (by simp [hx])) hr⟩
theorem ok_tail : ∀ (fs : List (List UInt8)) (_ : ∀ f ∈ fs, f ≠ [] ∧ ∀ c ∈ f, gapB c = false), okFrom false (Lib.joinTail [32] fs)
  | [], _ => trivial
  | f :: r, h => by
    have h1 := h f (by simp)
    have h2 := ok_tail r (fun x hx => h x (by simp [hx]))
    rw [show Lib.joinTail [32] (f :: r) = 32 :: (f ++ Lib.joinTail [32] r) by simp [Lib.joinTail], okFrom]
    exact ⟨by decide, fun _ => rfl, ok_field f _ _ h1.1 h1.2 h2⟩
theorem ok_join (fs : List (List UInt8)) (h : ∀ f ∈ fs, f ≠ [] ∧ ∀ c ∈ f, gapB c = false) : okFrom true (Lib.join fs [32]) := by
  cases fs with
  | nil => trivial
  | cons f r =>
    rw [Lib.join_cons]
    exact ok_field f _ _ (h f (by simp)).1 (h f (by simp)).2 (ok_tail r (fun x hx => h x (by simp [hx])))
theorem ok_prefix : ∀ {p l : List UInt8} {pb : Bool} (_ : p <+: l) (_ : okFrom pb l), okFrom pb p
  | [], _, _, _, _ => trivial
  | c :: p, l, pb, hp, h => by
    obtain ⟨t, rfl⟩ := hp
    rw [List.cons_append, okFrom] at h
    rw [okFrom]
    exact ⟨h.1, h.2.1, ok_prefix ⟨t, rfl⟩ h.2.2⟩
/-- What the law asks at each place. -/
theorem ok_at : ∀ {p : List UInt8} {pb : Bool} (_ : okFrom pb p) (i : Nat) (hi : i < p.length), 32 ≤ p[i].toNat ∧ (p[i] = 32 → (i = 0 ∧ pb = false) ∨ ∃ h : 0 < i, p[i - 1]'(by omega) ≠ 32)
  | [], _, _, i, hi => by simp at hi
  | c :: r, pb, h, 0, _ => by
    rw [okFrom] at h
    exact ⟨h.1, fun e => Or.inl ⟨rfl, h.2.1 e⟩⟩
  | c :: r, pb, h, i + 1, hi => by
    rw [okFrom] at h
    have ih := ok_at h.2.2 i (by simpa using hi)
    refine ⟨ih.1, fun e => Or.inr ⟨by omega, ?_⟩⟩
    rcases ih.2 e with ⟨rfl, h0⟩ | ⟨h0, h1⟩
    · show c ≠ 32
      rw [beq_eq_false_iff_ne] at h0
      exact h0
    · obtain ⟨j, rfl⟩ : ∃ j, i = j + 1 := ⟨i - 1, by omega⟩
      exact h1

/-! ### Runes -/
theorem dec_high (n b0 b1 b2 b3 : Nat) (h : 128 ≤ b0) : 128 ≤ (Lib.decodeN n b0 b1 b2 b3).1 ∧ 1 ≤ (Lib.decodeN n b0 b1 b2 b3).2 ∧ (Lib.decodeN n b0 b1 b2 b3).2 ≤ 4 := by
  rcases Lib.decodeN_shape n b0 b1 b2 b3 with ⟨c, _⟩ | ⟨_, _, _, c, e⟩ | ⟨_, _, _, _, c, _, e⟩ | ⟨_, _, _, _, _, c, _, e⟩ | e
  · omega
  · rw [e]; exact ⟨c, by show 1 ≤ 2; omega, by show 2 ≤ 4; omega⟩
  · rw [e]; exact ⟨by show 128 ≤ _; omega, by show 1 ≤ 3; omega, by show 3 ≤ 4; omega⟩
  · rw [e]; exact ⟨by show 128 ≤ _; omega, by show 1 ≤ 4; omega, by show 4 ≤ 4; omega⟩
  · rw [e]; decide
theorem dec_low (n b0 b1 b2 b3 : Nat) (h : b0 < 128) : Lib.decodeN n b0 b1 b2 b3 = (b0, 1) := Lib.decodeN_ascii n b0 b1 b2 b3 h
/-- All bytes of a rune that is none of ASCII are high, and they are there. -/
theorem dec_bytes (n b0 b1 b2 b3 : Nat) (hn : 1 ≤ n) : (Lib.decodeN n b0 b1 b2 b3).2 ≤ n ∧ (2 ≤ (Lib.decodeN n b0 b1 b2 b3).2 → 128 ≤ b1) ∧ (3 ≤ (Lib.decodeN n b0 b1 b2 b3).2 → 128 ≤ b2) ∧ (4 ≤ (Lib.decodeN n b0 b1 b2 b3).2 → 128 ≤ b3) := by
  obtain ⟨h1, h2, h3, h4⟩ := Lib.decodeN_conts n b0 b1 b2 b3
  refine ⟨?_, fun e => by have := (h1 e).1; omega, fun e => by have := (h2 e).1; omega, fun e => by have := (h3 e).1; omega⟩
  rcases (by omega : (Lib.decodeN n b0 b1 b2 b3).2 ≤ 1 ∨ (Lib.decodeN n b0 b1 b2 b3).2 = 2 ∨ (Lib.decodeN n b0 b1 b2 b3).2 = 3 ∨ (Lib.decodeN n b0 b1 b2 b3).2 = 4) with e | e | e | e
  · omega
  · have := (h1 (by omega)).2; omega
  · have := (h2 (by omega)).2; omega
  · have := (h3 (by omega)).2; omega
end Go.Proofs.YtnnbbjdidbggmaaGreatDoor.Lk
namespace Go.Proofs.YtnnbbjdidbggmaaGreatDoor.Lk
open Go Go.RowKit Go.Joins Go.Shelf Kit F0

attribute [local go_sem] Oper.semAt_some

/-- What the library's decoder answers, where T holds. -/
def DecOk (T : World → Prop) : Prop := ∀ (s : ByteArray) (w : World), T w → Calls Tryz.prog 56 #[.string s] w fun e w' => e = .returned (.tuple #[.int .i32 ((Lib.decodeGo s).1 : Int), .int .i64 ((Lib.decodeGo s).2 : Int)]) ∧ Below w.heap.size w w'
theorem gap_count (l : List UInt8) : (gapRun l).1.length ≤ l.length := by
  have h : ∀ (l : List UInt8) (st : List (List UInt8) × List UInt8), (l.foldl gapS st).1.length ≤ st.1.length + l.length := by
    intro l
    induction l with
    | nil => intro st; exact Nat.le_refl _
    | cons c r ih =>
      intro st
      have h1 := ih (gapS st c)
      have h2 : (gapS st c).1.length ≤ st.1.length + 1 := by
        unfold gapS
        split
        · split
          · omega
          · simp
        · simp
      rw [List.foldl_cons, List.length_cons]
      omega
  have := h l ([], [])
  simpa [gapRun] using this
theorem get_list (X : ByteArray) (j : Nat) (h : j < X.size) : X.get! j = X.data.toList[j]'(by rw [← Lib.size_eq]; exact h) := by
  rw [show X.get! j = X.data[j]! from rfl, getElem!_pos X.data j h]
  simp
theorem dec_ext (X : ByteArray) (h : 0 < X.size) :
    ((X.data.toList[0]'(by rw [← Lib.size_eq]; exact h)).toNat < 128 → Lib.decodeGo X = ((X.data.toList[0]'(by rw [← Lib.size_eq]; exact h)).toNat, 1)) ∧
    (128 ≤ (X.data.toList[0]'(by rw [← Lib.size_eq]; exact h)).toNat → 128 ≤ (Lib.decodeGo X).1 ∧ 1 ≤ (Lib.decodeGo X).2 ∧ (Lib.decodeGo X).2 ≤ X.size ∧ ∀ x ∈ X.data.toList.take (Lib.decodeGo X).2, gapB x = false) := by
  have e0 : Lib.decodeGo X = Lib.decodeN X.size (X.get! 0).toNat (X.get! 1).toNat (X.get! 2).toNat (X.get! 3).toNat := by
    unfold Lib.decodeGo
    rw [if_neg (by omega), Lib.decode_at]
    rfl
  rw [e0, get_list X 0 h]
  have hg : ∀ c : UInt8, 128 ≤ c.toNat → gapB c = false := fun c hc => by unfold gapB; rw [decide_eq_false_iff_not]; omega
  refine ⟨fun hc => dec_low _ _ _ _ _ hc, fun hc => ?_⟩
  obtain ⟨h1, h2, h3⟩ := dec_high X.size _ (X.get! 1).toNat (X.get! 2).toNat (X.get! 3).toNat hc
  obtain ⟨h4, h5, h6, h7⟩ := dec_bytes X.size ((X.data.toList[0]'(by rw [← Lib.size_eq]; exact h)).toNat) (X.get! 1).toNat (X.get! 2).toNat (X.get! 3).toNat h
  have hsz := Lib.size_eq X
  generalize Lib.decodeN X.size ((X.data.toList[0]'(by rw [← Lib.size_eq]; exact h)).toNat) (X.get! 1).toNat (X.get! 2).toNat (X.get! 3).toNat = D at h1 h2 h3 h4 h5 h6 h7 ⊢
  refine ⟨h1, h2, h4, fun x hx => ?_⟩
  obtain ⟨j, hj, rfl⟩ := List.mem_iff_getElem.1 hx
  have hj2 := hj
  rw [List.length_take] at hj2
  rw [List.getElem_take]
  rcases (by omega : j = 0 ∨ j = 1 ∨ j = 2 ∨ j = 3) with rfl | rfl | rfl | rfl
  · exact hg _ hc
  · rw [← get_list X 1 (by omega)]
    exact hg _ (h5 (by omega))
  · rw [← get_list X 2 (by omega)]
    exact hg _ (h6 (by omega))
  · rw [← get_list X 3 (by omega)]
    exact hg _ (h7 (by omega))
theorem gap_any (r : Int) (w : World) : Calls Tryz.prog 34 #[.int .i32 r] w fun e w' => e = .returned (.bool (decide (r ≤ 32))) ∧ w' = w := by
  by_cases h : r ≤ 32
  · go_enter Tryz.func34, Tryz.ntmps34
    go_wp2
    go_ret
    exact ⟨by simp [h], rfl⟩
  · have h' : 32 < r := by omega
    go_enter Tryz.func34, Tryz.ntmps34
    go_wp2
    go_ret
    exact ⟨by simp; omega, rfl⟩

/-- A field as the loop's body is handed it. -/
abbrev Fd := { x : ByteArray // x.size ≤ 1000000 }
def decF (x : Fd) : List UInt8 := x.1.data.toList
def encF (x : Fd) : Array Value := #[.string x.1]
/-- The two boxes that the iterator reads. -/
def BoxF (s : ByteArray) (A1 A2 : Nat) (W : World) : Prop :=
  Boxed W A1 9 (.string s) ∧ Boxed W A2 58 (.func (.func 34) #[] #[])
set_option maxHeartbeats 1000000 in
theorem fields_seq (n : Nat) (s : ByteArray) (w : World) :
    CallsIn Fence.wide n Tryz.prog 31 #[.string s, .func (.func 34) #[] #[]] w fun e w' => e = .returned (.func (.func 55) #[] #[.pointer (some ⟨w.heap.size, 0, none⟩), .pointer (some ⟨w.heap.size + 1, 0, none⟩)]) ∧
      w' = (w.alloc (.cells #[.string s] 9)).alloc (.cells #[.func (.func 34) #[] #[]] 58) := by
  refine callsIn_wide.2 ?_
  go_enter Tryz.func31, Tryz.ntmps31
  go_wp2
  go_ret
  exact ⟨by simp, rfl⟩

/-! ### The closure -/
set_option maxHeartbeats 4000000 in
set_option maxRecDepth 100000 in
theorem fields1_in (T : World → Prop) (hD : DecOk T) (n : Nat) (hn : 1 ≤ n) (l n0 A1 A2 : Nat) (s : ByteArray) (hs : s.size ≤ 1000000) (J Jx : List Fd → World → Prop)
    (hY : ∀ pre x W, J pre W → pre.length < 1000001 → YieldAt Fence.wide (n - 1) Tryz.prog l (encF x) W fun e W' =>
      (e = .returned (.bool true) ∧ J (pre ++ [x]) W' ∧ KpL n0 (BoxF s A1 A2) W W') ∨ (e = .returned (.bool false) ∧ Jx (pre ++ [x]) W'))
    (W w0 : World) (hn0 : n0 ≤ w0.heap.size) (hW : Below n0 w0 W) (hE : ∀ w', Below n0 w0 w' → T w') (hb : BoxF s A1 A2 W) (h0 : J [] W) (hJ : AbidesFrom W.heap.size J) :
    CallsIn Fence.wide n Tryz.prog 55 #[.func (.yield l) #[] #[], .pointer (some ⟨A1, 0, none⟩), .pointer (some ⟨A2, 0, none⟩)] W fun e W' => (∃ v, e = .returned v) ∧
      ((∃ ys, ys.map decF = fldsL s.data.toList ∧ J ys W') ∨ (∃ pre, pre.map decF <+: fldsL s.data.toList ∧ Jx pre W')) := by
  refine callsIn_of_wp Tryz.func55 rfl trivial ?_ rfl
  simp only [Tryz.ntmps55, List.size_toArray, List.length_cons, List.length_nil, Nat.reduceAdd, Nat.reduceSub, Array.replicate_succ, Array.replicate_zero, List.push_toArray, List.append_toArray, List.nil_append, List.cons_append]
  gi_wp2
  gi_loopw [4, 5] (fun st p wr => ∃ (pre : List Fd) (k : Nat) (z : Int), p = .int .i64 (k : Int) ∧ st = .int .i64 z ∧ k ≤ s.size ∧ Hid (pre.map decF = (gapRun (s.data.toList.take k)).1) ∧ ((z = -1 ∧ Hid ((gapRun (s.data.toList.take k)).2 = [])) ∨ ∃ b : Nat, z = (b : Int) ∧ b < k ∧ Hid ((gapRun (s.data.toList.take k)).2 = (s.data.toList.take k).drop b)) ∧ BoxF s A1 A2 wr ∧ Below n0 w0 wr ∧ J pre wr) (fun _ p _ => s.size - (intOf p).toNat)
  case atStart => exact ⟨[], 0, -1, rfl, rfl, Nat.zero_le _, Lib.hid rfl, Or.inl ⟨rfl, Lib.hid rfl⟩, hb, hW, h0⟩
  case round =>
    obtain ⟨pre, k, z, rfl, rfl, hk, hpre, hcur, hbx, hbe, hJs⟩ := hrel
    have hc1 := hbx.1.cell
    have hc2 := hbx.2.cell
    have HPL : Hid (pre.length < 1000001) := Lib.hid (by
      have h1 := congrArg List.length hpre.out
      rw [List.length_map] at h1
      have h2 := gap_count (s.data.toList.take k)
      rw [List.length_take] at h2
      omega)
    by_cases hlt : k < s.size
    · have g1 : (k : Int) < (s.size : Int) := by omega
      have hkl : k < s.data.toList.length := by rw [← Lib.size_eq]; exact hlt
      have hex := ext_list s k s.size
      rw [List.take_of_length_le (by rw [← Lib.size_eq]; exact Nat.le_refl _)] at hex
      have hXs : (s.extract k s.size).size = s.size - k := by rw [Lib.size_eq, hex, List.length_drop, ← Lib.size_eq]
      have hX0 : 0 < (s.extract k s.size).size := by omega
      have hde := dec_ext (s.extract k s.size) hX0
      have hhd : (s.extract k s.size).data.toList[0]'(by rw [← Lib.size_eq]; exact hX0) = s.data.toList[k] := by simp
      rw [hhd, hex] at hde
      have HDEC := Lib.hid (hD (s.extract k s.size) wr (hE wr hbe))
      have hTK := gap_at s.data.toList k hkl
      obtain ⟨c, hcc⟩ : ∃ c, s.data.toList[k] = c := ⟨_, rfl⟩
      rw [hcc] at hde hTK
      obtain ⟨R, hR⟩ : ∃ R, (Lib.decodeGo (s.extract k s.size)).1 = R := ⟨_, rfl⟩
      obtain ⟨K, hK⟩ : ∃ K, (Lib.decodeGo (s.extract k s.size)).2 = K := ⟨_, rfl⟩
      have hlow : c.toNat < 128 → R = c.toNat ∧ K = 1 := fun h => by rw [← hR, ← hK, hde.1 h]; exact ⟨rfl, rfl⟩
      have hhigh := hde.2
      rw [hR, hK] at hhigh
      rw [hR, hK] at HDEC
      have hKb : 1 ≤ K ∧ k + K ≤ s.size := by
        rcases Nat.lt_or_ge c.toNat 128 with h | h
        · have := hlow h; omega
        · have := hhigh h; omega
      have HTK := Lib.hid hTK
      have HNG : Hid (32 < R → gapRun (s.data.toList.take (k + K)) = ((gapRun (s.data.toList.take k)).1, (gapRun (s.data.toList.take k)).2 ++ (s.data.toList.drop k).take K)) := Lib.hid (fun hr => by
        rw [List.take_add]
        refine gap_more _ _ (fun x hx => ?_)
        rcases Nat.lt_or_ge c.toNat 128 with h | h
        · obtain ⟨h1, h2⟩ := hlow h
          rw [h2] at hx
          rw [List.drop_eq_getElem_cons hkl, List.take_succ_cons, List.take_zero, List.mem_singleton] at hx
          rw [hx, hcc]
          unfold gapB
          rw [decide_eq_false_iff_not]
          omega
        · exact (hhigh h).2.2.2 x hx)
      have HGP : Hid (R ≤ 32 → K = 1 ∧ gapB c = true) := Lib.hid (fun hr => by
        rcases Nat.lt_or_ge c.toNat 128 with h | h
        · obtain ⟨h1, h2⟩ := hlow h
          refine ⟨h2, ?_⟩
          unfold gapB
          exact decide_eq_true (by omega)
        · have := hhigh h; omega)
      obtain ⟨hK1, hK2⟩ := hKb
      clear hde hhigh hlow hhd hcc hR hK hex hTK
      gi_wp2_with fail
      refine ⟨trivial, ?_⟩
      refine (callsIn_wide.2 HDEC.out).mono ?_
      rintro e w1 ⟨rfl, hb1⟩
      have hJ1 : J pre w1 := hJ pre wr w1 none hJs (grown_below hb1) (fun r e => by cases e)
      have hbx1 : BoxF s A1 A2 w1 := ⟨hbx.1.kept (grown_below hb1) (by simp), hbx.2.kept (grown_below hb1) (by simp)⟩
      have hbe1 : Below n0 w0 w1 := hbe.trans (hb1.mono (Nat.le_trans hn0 hbe.size))
      have hd1 := hbx1.1.cell
      have hd2 := hbx1.2.cell
      clear hc1 hc2 hJs hbx hbe hb1
      by_cases hg : R ≤ 32
      · obtain ⟨rfl, hgc⟩ := HGP.out hg
        have HGC := Lib.hid hgc
        have gr : decide ((R : Int) ≤ 32) = true := decide_eq_true (by omega)
        have HGA := Lib.hid (gap_any (R : Int) w1)
        rw [gr] at HGA
        clear hgc hg gr
        gi_wp2_with fail
        refine ⟨trivial, ?_⟩
        refine (callsIn_wide.2 HGA.out).mono ?_
        rintro e w2 ⟨rfl, rfl⟩
        rcases hcur with ⟨rfl, hcu⟩ | ⟨b, rfl, hbk, hcu⟩
        · have HNX : Hid (gapRun (s.data.toList.take (k + 1)) = gapRun (s.data.toList.take k)) := Lib.hid (by rw [HTK.out]; unfold gapS; rw [if_pos HGC.out, if_pos hcu.out])
          gi_wp2_with fail
          go_roundw
          case rel => exact ⟨pre, k + 1, -1, by go_num, rfl, by omega, Lib.hid (by rw [HNX.out]; exact hpre.out), Or.inl ⟨rfl, Lib.hid (by rw [HNX.out]; exact hcu.out)⟩, hbx1, hbe1, hJ1⟩
          case measure => simp [intOf]; omega
        · have gb : 0 ≤ (b : Int) := by omega
          have gbk : (b : Int) ≤ (k : Int) := by omega
          have hfx := ext_list s b k
          have hfs : (s.extract b k).size ≤ 1000000 := by rw [ByteArray.size_extract]; omega
          have HNE : Hid ((gapRun (s.data.toList.take k)).2 ≠ []) := Lib.hid (by
            rw [hcu.out]
            intro e
            have := congrArg List.length e
            rw [List.length_drop, List.length_take, ← Lib.size_eq] at this
            simp at this
            omega)
          have HNX : Hid (gapRun (s.data.toList.take (k + 1)) = ((pre ++ [(⟨s.extract b k, hfs⟩ : Fd)]).map decF, [])) := Lib.hid (by
            rw [HTK.out]
            unfold gapS
            rw [if_pos HGC.out, if_neg HNE.out, hcu.out, ← hfx, ← hpre.out, List.map_append]
            rfl)
          have HFP : Hid ((pre ++ [(⟨s.extract b k, hfs⟩ : Fd)]).map decF <+: fldsL s.data.toList) := Lib.hid (by
            have h := told_pre s.data.toList (k + 1)
            rw [HNX.out] at h
            exact h)
          obtain ⟨fn, tmps, assign, body, hy, hR⟩ := hY pre ⟨s.extract b k, hfs⟩ _ hJ1 HPL.out
          simp only [encF] at hy
          gi_wp2_with fail
          refine hR.mono ?_
          rintro e W3 (⟨rfl, hJ3, hk3⟩ | ⟨rfl, hJx3⟩)
          · gi_wp2
            go_roundw
            case rel => exact ⟨_, k + 1, -1, by go_num, rfl, by omega, Lib.hid (by rw [HNX.out]), Or.inl ⟨rfl, Lib.hid (by rw [HNX.out])⟩, hk3.2 hbx1, hbe1.trans hk3.1, hJ3⟩
            case measure => simp [intOf]; omega
          · gi_wp2
            refine bodyPost_ret (results_none rfl _ _ _) rfl ?_
            exact ⟨⟨_, rfl⟩, .inr ⟨_, HFP.out, hJx3⟩⟩
      · have hg2 : 32 < R := by omega
        have HN2 := Lib.hid (HNG.out hg2)
        have gr : decide ((R : Int) ≤ 32) = false := decide_eq_false (by omega)
        have HGA := Lib.hid (gap_any (R : Int) w1)
        rw [gr] at HGA
        have hdl : ((s.data.toList.drop k).take K).length = K := by rw [List.length_take, List.length_drop, ← Lib.size_eq]; omega
        have HDL := Lib.hid hdl
        clear hg gr hg2 hdl
        gi_wp2_with fail
        refine ⟨trivial, ?_⟩
        refine (callsIn_wide.2 HGA.out).mono ?_
        rintro e w2 ⟨rfl, rfl⟩
        rcases hcur with ⟨rfl, hcu⟩ | ⟨b, rfl, hbk, hcu⟩
        · have HCN : Hid ((gapRun (s.data.toList.take (k + K))).2 = (s.data.toList.take (k + K)).drop k) := Lib.hid (by
            rw [HN2.out, List.take_add, List.drop_append_of_le_length (by rw [List.length_take, ← Lib.size_eq]; omega)]
            have e1 : (s.data.toList.take k).drop k = [] := List.drop_of_length_le (by rw [List.length_take, ← Lib.size_eq]; omega)
            show (gapRun (s.data.toList.take k)).2 ++ _ = _
            rw [hcu.out, e1])
          gi_wp2_with fail
          go_roundw
          case rel => exact ⟨pre, k + K, (k : Int), by go_num, rfl, by omega, Lib.hid (by rw [HN2.out]; exact hpre.out), Or.inr ⟨k, rfl, by omega, HCN⟩, hbx1, hbe1, hJ1⟩
          case measure => simp [intOf]; omega
        · have gb : 0 ≤ (b : Int) := by omega
          have HCN : Hid ((gapRun (s.data.toList.take (k + K))).2 = (s.data.toList.take (k + K)).drop b) := Lib.hid (by
            rw [HN2.out, List.take_add, List.drop_append_of_le_length (by rw [List.length_take, ← Lib.size_eq]; omega)]
            show (gapRun (s.data.toList.take k)).2 ++ _ = _
            rw [hcu.out])
          gi_wp2_with fail
          go_roundw
          case rel => exact ⟨pre, k + K, (b : Int), by go_num, rfl, by omega, Lib.hid (by rw [HN2.out]; exact hpre.out), Or.inr ⟨b, rfl, by omega, HCN⟩, hbx1, hbe1, hJ1⟩
          case measure => simp [intOf]; omega
    · obtain rfl : k = s.size := by omega
      have g1 : ¬ (s.size : Int) < (s.size : Int) := by omega
      have HTL : Hid (s.data.toList.take s.size = s.data.toList) := Lib.hid (List.take_of_length_le (by rw [← Lib.size_eq]; exact Nat.le_refl _))
      rw [HTL.out] at hpre hcur
      rcases hcur with ⟨rfl, hcu⟩ | ⟨b, rfl, hbk, hcu⟩
      · have HFL : Hid (pre.map decF = fldsL s.data.toList) := Lib.hid (by unfold fldsL endG; rw [if_pos hcu.out, hpre.out])
        gi_wp2_with fail
        go_end0
        exact ⟨⟨_, rfl⟩, .inl ⟨pre, HFL.out, hJs⟩⟩
      · have gb : 0 ≤ (b : Int) := by omega
        have gbk : (b : Int) ≤ (s.size : Int) := by omega
        have hfx := ext_list s b s.size
        rw [HTL.out] at hfx
        have hfs : (s.extract b s.size).size ≤ 1000000 := by rw [ByteArray.size_extract]; omega
        have HFL : Hid ((pre ++ [(⟨s.extract b s.size, hfs⟩ : Fd)]).map decF = fldsL s.data.toList) := Lib.hid (by
          unfold fldsL endG
          rw [if_neg (by
            rw [hcu.out]
            intro e
            have := congrArg List.length e
            rw [List.length_drop, ← Lib.size_eq] at this
            simp at this
            omega), hcu.out, ← hfx, ← hpre.out, List.map_append]
          rfl)
        obtain ⟨fn, tmps, assign, body, hy, hR⟩ := hY pre ⟨s.extract b s.size, hfs⟩ wr hJs HPL.out
        simp only [encF] at hy
        gi_wp2_with fail
        refine hR.mono ?_
        rintro e W3 (⟨rfl, hJ3, hk3⟩ | ⟨rfl, hJx3⟩)
        · gi_wp2
          go_end0
          exact ⟨⟨_, rfl⟩, .inl ⟨_, HFL.out, hJ3⟩⟩
        · gi_wp2
          go_end0
          exact ⟨⟨_, rfl⟩, .inr ⟨_, by rw [HFL.out]; exact List.prefix_refl _, hJx3⟩⟩

theorem boxF_below {s : ByteArray} {A1 A2 : Nat} {w W : World} (h : BoxF s A1 A2 w) (hb : Below w.heap.size w W) : BoxF s A1 A2 W :=
  ⟨h.1.kept (grown_below hb) (by simp), h.2.kept (grown_below hb) (by simp)⟩
/-- .. as the law of ranges over a function asks it. -/
theorem fields_stops (T : World → Prop) (hD : DecOk T) (n : Nat) (hn : 1 ≤ n) (n0 A1 A2 : Nat) (s : ByteArray) (hs : s.size ≤ 1000000) (w w0 : World) (hn0 : n0 ≤ w0.heap.size) (hw0 : Below n0 w0 w) (hE : ∀ w', Below n0 w0 w' → T w') (hb : BoxF s A1 A2 w) :
    SeqStopsK Fence.wide n Tryz.prog 55 #[.pointer (some ⟨A1, 0, none⟩), .pointer (some ⟨A2, 0, none⟩)] encF (KpL n0 (BoxF s A1 A2))
      (fun ys => ys.map decF = fldsL s.data.toList) (fun pre => pre.map decF <+: fldsL s.data.toList) 1000001 w := fun l J Jx W hW hJ _ hY h0 =>
  fields1_in T hD n hn l n0 A1 A2 s hs J Jx hY W w0 hn0 (hw0.trans (hW.mono (Nat.le_trans hn0 hw0.size))) hE (boxF_below hb hW) h0 hJ
theorem kplF_put {s : ByteArray} {A1 A2 n0 : Nat} {w W : World} (hn : n0 ≤ w.heap.size) (l : Nat) (o o' : Obj) (hl : w.heap.size ≤ l) (h : W.heap[l]? = some o) (hc : o.isCells = false) (hw : o.isWalk = false) : KpL n0 (BoxF s A1 A2) W (W.putObj l o') := by
  refine ⟨belowK_b hn W l o o' hl h hc hw, fun hb => ?_⟩
  have hne : ∀ {A : Nat} {t : TypeId} {v : Value}, Boxed W A t v → some A ≠ some l := fun hA e => by
    cases e
    rw [show W.heap[l]? = _ from hA] at h
    cases h
    cases hc
  exact ⟨hb.1.kept (grownBy_putObj' W l o') (hne hb.1), hb.2.kept (grownBy_putObj' W l o') (hne hb.2)⟩
end Go.Proofs.YtnnbbjdidbggmaaGreatDoor.Lk
namespace Go.Proofs.YtnnbbjdidbggmaaGreatDoor.Lk
open Go Go.RowKit Kit F0

/-- Turned by the loop's own book-keeping, or in the one cell of the iterator. -/
def Turn (C B : Nat) (W : World) (row : Option Nat) : Prop := ∀ r, row = some r → r = C ∨ (B ≤ r ∧ ∃ o : Obj, W.heap[r]? = some o ∧ o.isCells = false)
/-- What an iterator with one cell of its own promises. -/
def SeqCell {α : Type} (n : Nat) (P : Program) (gf : Nat) (lb : Array Value) (encs : α → Array Value) (Kp : World → World → Prop) (S Sp : List α → Prop) (N C : Nat) (w : World) : Prop :=
  ∀ (l : Nat) (J Jx : List α → World → Prop) (W : World), Below w.heap.size w W →
    (∀ pre W1 W2 row, J pre W1 → W1.grownBy W2 row → (∀ r, row = some r → r = C) → J pre W2) → (∀ pre W1 W2 row, Jx pre W1 → W1.grownBy W2 row → (∀ r, row = some r → r = C) → Jx pre W2) →
    (∀ pre x W1, J pre W1 → pre.length < N → YieldAt Fence.wide (n - 1) P l (encs x) W1 fun e W' =>
      (e = .returned (.bool true) ∧ J (pre ++ [x]) W' ∧ Kp W1 W') ∨ (e = .returned (.bool false) ∧ Jx (pre ++ [x]) W')) →
    J [] W →
    CallsIn Fence.wide n P gf (#[.func (.yield l) #[] #[]] ++ lb) W fun e W' => (∃ v, e = .returned v) ∧ ((∃ xs, S xs ∧ J xs W') ∨ (∃ pre, Sp pre ∧ Jx pre W'))

theorem range_cell {P : Program} {α : Type} {n : Nat} {g : Operand} {ps : Array Tmp} {assign body : Code} {Q : Exit → Act → World → Prop} {a : Act} {w : World} (h1 : 1 ≤ n) {gf : Nat} {lb : Array Value}
    (hg : a.eval g = .func (.func gf) #[] lb) (eg : ∀ args w, (callFunc gf args).run P w = .ok (.enter gf args) w)
    {encs : α → Array Value} {Kp : World → World → Prop} {S Sp : List α → Prop} {N C : Nat} (hC : C < w.heap.size) (hseq : SeqCell (n - 1) P gf lb encs Kp S Sp N C w)
    (hKt : ∀ {X Y Z : World}, Kp X Y → Kp Y Z → Kp X Z) (hKb : ∀ (W : World) (l : Nat) (o o' : Obj), w.heap.size ≤ l → W.heap[l]? = some o → o.isCells = false → o.isWalk = false → Kp W (W.putObj l o')) (hps : ∀ x, (encs x).size = ps.size)
    (I : List α → World → Prop) (Ix : Code → List α → World → Prop)
    (hI : ∀ pre W1 W2 row, I pre W1 → W1.grownBy W2 row → Turn C w.heap.size W1 row → I pre W2) (hIx : ∀ c pre W1 W2 row, Ix c pre W1 → W1.grownBy W2 row → Turn C w.heap.size W1 row → Ix c pre W2)
    (h0 : I [] w) (a₁ : α → Act)
    (hassign : ∀ (l : Nat) (x : α) (W : World) (K : Act → World → Prop), K (a₁ x) W →
      assign.wpIn (Fence.wide.inRound l) (n - 1 - 1) P (Exit.then K (fun _ _ _ => False)) { tmps := (ps.zip (encs x)).foldl (fun t (p, v) => t.setIfInBounds p v) a.tmps, defers := [] } W)
    (hbody : ∀ (l : Nat) (pre : List α) (x : α) (W : World), I pre W → pre.length < N → body.wpIn (Fence.wide.inRound l) (n - 1 - 1) P (ownPostG w.heap.size Kp I Ix (pre ++ [x]) W) (a₁ x) W)
    (hdone : ∀ (D : Nat) (xs : List α) (W : World), w.heap.size ≤ D → S xs → I xs W → W.heap[D]? = some (.deferred (some [])) → Q .normal { a with defers := { target := .collected D, args := #[] } :: a.defers } W)
    (hstop : ∀ (D : Nat) (c : Code) (pre : List α) (W : World), w.heap.size ≤ D → Sp pre → Ix c pre W → W.heap[D]? = some (.deferred (some [])) → c.wpIn Fence.wide n P Q { a with defers := { target := .collected D, args := #[] } :: a.defers } W) :
    (Code.rangeFunc g ps assign body).wpIn Fence.wide n P Q a w := by
  refine wpIn_rangeFunc (fun fn _ => ?_)
  -- the two blocks of the loop's own: D for the rounds' deferred calls, L for its record
  obtain ⟨D, hD⟩ : ∃ D, w.heap.size = D := ⟨_, rfl⟩
  obtain ⟨rec, hrec⟩ : ∃ rec : LoopState → Option Code → Loop, rec = fun st pe => { state := st, pending := pe, fn, tmps := a.tmps, params := ps, assign, body, defers := D } := ⟨_, rfl⟩
  obtain ⟨V, hV⟩ : ∃ V, (w.alloc (.deferred (some []))).alloc (.loop (rec .ready none)) = V := ⟨_, rfl⟩
  have hVL : V.heap[D + 1]? = some (.loop (rec .ready none)) := by
    have h := World.alloc_heap_new (w.alloc (.deferred (some []))) (.loop (rec .ready none))
    rw [World.size_alloc, hD, hV] at h
    exact h
  have hVD : V.heap[D]? = some (.deferred (some [])) := by
    have h := World.alloc_heap_new w (.deferred (some []))
    rw [hD] at h
    rw [← hV]
    exact (Below.heap_alloc _ _ _ (by rw [World.size_alloc, hD]; exact Nat.lt_succ_self _)).trans h
  have hI' : ∀ {pre : List α} {W1 : World} {k : Nat} {o : Obj} (o' : Obj), I pre W1 → D ≤ k → W1.heap[k]? = some o → o.isCells = false → I pre (W1.putObj k o') := fun o' hi hk ho hc =>
    hI _ _ _ _ hi (grownBy_putObj' _ _ o') (fun r e => Or.inr ⟨by cases e; rw [hD]; exact hk, _, by cases e; exact ho, hc⟩)
  have hIx' : ∀ {c : Code} {pre : List α} {W1 : World} {k : Nat} {o : Obj} (o' : Obj), Ix c pre W1 → D ≤ k → W1.heap[k]? = some o → o.isCells = false → Ix c pre (W1.putObj k o') := fun o' hi hk ho hc =>
    hIx _ _ _ _ _ hi (grownBy_putObj' _ _ o') (fun r e => Or.inr ⟨by cases e; rw [hD]; exact hk, _, by cases e; exact ho, hc⟩)
  have hbV : Below w.heap.size w V := by
    rw [← hV]
    exact ((Below.refl _ w).alloc (Nat.le_refl _) _).alloc (by rw [World.size_alloc]; exact Nat.le_succ _) _
  have hIV : I [] V := hI [] w V none h0 (grown_below hbV) (fun r e => by cases e)
  have hrun : (Instr.enterLoop fn a.tmps ps assign body none).run P w = .ok (D + 1, [{ target := .collected D, args := #[] }]) V := by
    rw [← hV, hrec, ← hD]
    exact run_enterLoop_outer _ _ _ _ _
  refine ⟨D + 1, [{ target := .collected D, args := #[] }], V, { target := .fn (.func gf) lb, args := #[.func (.yield (D + 1)) #[] #[]] }, V, gf, #[.func (.yield (D + 1)) #[] #[]] ++ lb, V, hrun, ?_, fun _ _ => trivial, ?_, fun _ => h1, ?_⟩
  · simp only [resolve, hg]
    simp [go_sem]
  · simp [invoke, go_sem, eg]
  -- what holds between two rounds, and where one said 'no more'
  have hstep : ∀ {W1 W2 : World} {row : Option Nat} {k : Nat} {o : Obj}, W1.grownBy W2 row → (∀ r, row = some r → r = C) → D ≤ k → W1.heap[k]? = some o → W2.heap[k]? = some o := fun hgr hr hk ho =>
    (hgr.block _ (Array.getElem?_eq_some_iff.1 ho).1 (fun e => by have := hr _ e.symm; omega)).trans ho
  refine (hseq (D + 1) (fun pre W => I pre W ∧ W.heap[D + 1]? = some (.loop (rec .ready none)) ∧ W.heap[D]? = some (.deferred (some [])))
    (fun pre W => ∃ c, Ix c pre W ∧ W.heap[D + 1]? = some (.loop (rec .done (some c))) ∧ W.heap[D]? = some (.deferred (some []))) V hbV ?_ ?_ ?_ ⟨hIV, hVL, hVD⟩).mono ?_
  · rintro pre W1 W2 row ⟨hi, hl, hd⟩ hgr hr
    exact ⟨hI _ _ _ _ hi hgr (fun r e => Or.inl (hr r e)), hstep hgr hr (Nat.le_succ _) hl, hstep hgr hr (Nat.le_refl _) hd⟩
  · rintro pre W1 W2 row ⟨c, hi, hl, hd⟩ hgr hr
    exact ⟨c, hIx _ _ _ _ _ hi hgr (fun r e => Or.inl (hr r e)), hstep hgr hr (Nat.le_succ _) hl, hstep hgr hr (Nat.le_refl _) hd⟩
  · -- a round
    rintro pre x W ⟨hi, hl, hd⟩ hlen
    have hlt : D + 1 < W.heap.size := (Array.getElem?_eq_some_iff.1 hl).1
    have hy := run_yield (P := P) (args := encs x) hl (by rw [hrec]; exact hps x)
    rw [hrec] at hy
    refine ⟨fn, _, assign, body, hy, roundIn_of_wpIn trivial (hassign _ x W _ ⟨_, run_beginRound hl (by rw [hrec]), ?_⟩)⟩
    obtain ⟨W', hW'⟩ : ∃ W', W.putObj (D + 1) (.loop { rec .ready none with state := .busy }) = W' := ⟨_, rfl⟩
    have hl' : W'.heap[D + 1]? = some (.loop { rec .ready none with state := .busy }) := by rw [← hW']; exact World.putObj_heap_same hlt
    have hd' : W'.heap[D]? = some (.deferred (some [])) := by rw [← hW']; exact (World.putObj_heap_other (by omega)).trans hd
    have hk' : Kp W W' := by rw [← hW']; exact hKb _ _ _ _ (by omega) hl rfl rfl
    have hi' : I pre W' := by rw [← hW']; exact hI' _ hi (Nat.le_succ _) hl rfl
    rw [hW']
    refine wpIn_mono (hbody _ pre x W' hi' hlen) ?_
    -- the round's end
    have fin : ∀ (jump : Option Code) (W3 : World), KeepsFrom w.heap.size W' W3 →
        (Instr.endRound (D + 1) jump).run P W3 = .ok (.bool jump.isNone) (W3.putObj (D + 1) (.loop (rec (if jump.isNone then .ready else .done) jump))) ∧ W3.heap[D + 1]? = some (.loop { rec .ready none with state := .busy }) ∧
        (W3.putObj (D + 1) (.loop (rec (if jump.isNone then .ready else .done) jump))).heap[D + 1]? = some (.loop (rec (if jump.isNone then .ready else .done) jump)) ∧ (W3.putObj (D + 1) (.loop (rec (if jump.isNone then .ready else .done) jump))).heap[D]? = some (.deferred (some [])) := fun jump W3 hk3 => by
      have hl3 := hk3.same _ _ (by omega) hl' rfl
      have hr := run_endRound (P := P) jump hl3
      rw [hrec] at hr ⊢
      refine ⟨hr, by rw [hrec] at hl3; exact hl3, World.putObj_heap_same (Array.getElem?_eq_some_iff.1 hl3).1, (World.putObj_heap_other (by omega)).trans (hk3.same _ _ (by omega) hd' rfl)⟩
    have leave : ∀ (c : Code) (W3 : World), KeepsFrom w.heap.size W' W3 → Ix c (pre ++ [x]) W3 → ∃ v W4, (Instr.endRound (D + 1) (some c)).run P W3 = .ok v W4 ∧ ((Ending.returned v = .returned (.bool true) ∧ (I (pre ++ [x]) W4 ∧ W4.heap[D + 1]? = some (.loop (rec .ready none)) ∧ W4.heap[D]? = some (.deferred (some []))) ∧ Kp W W4) ∨
        (Ending.returned v = .returned (.bool false) ∧ ∃ c, Ix c (pre ++ [x]) W4 ∧ W4.heap[D + 1]? = some (.loop (rec .done (some c))) ∧ W4.heap[D]? = some (.deferred (some [])))) := fun c W3 hk3 hi3 => by
      obtain ⟨hr, hl3, hl4, hd4⟩ := fin (some c) W3 hk3
      exact ⟨_, _, hr, .inr ⟨rfl, c, hIx' _ hi3 (Nat.le_succ _) hl3 rfl, hl4, hd4⟩⟩
    rintro e a3 W3 hp
    cases e with
    | normal =>
      obtain ⟨hk3, hkp3, hi3⟩ := hp
      obtain ⟨hr, hl3, hl4, hd4⟩ := fin none W3 hk3
      exact ⟨_, _, hr, .inl ⟨rfl, ⟨hI' _ hi3 (Nat.le_succ _) hl3 rfl, hl4, hd4⟩, hKt (hKt hk' hkp3) (hKb _ _ _ _ (by omega) hl3 rfl rfl)⟩⟩
    | ret => exact leave .ret W3 hp.1 hp.2
    | exit id => exact leave (.exit id) W3 hp.1 hp.2
    | goto t => exact leave (.goto t) W3 hp.1 hp.2
    | panic ch => exact hp.elim
    | outgrown => exact hp.elim
  · -- behind the iterator
    rintro e W2 ⟨⟨v, rfl⟩, (⟨xs, hS, hi, hl, hd⟩ | ⟨pre, hSp, c, hi, hl, hd⟩)⟩
    · refine ⟨none, _, by have := run_endLoop (P := P) hl (by rw [hrec]; simp); rw [hrec] at this; exact this, hdone D xs _ (by omega) hS (hI' _ hi (Nat.le_succ _) hl rfl) ((World.putObj_heap_other (by omega)).trans hd)⟩
    · refine ⟨some c, _, by have := run_endLoop (P := P) hl (by rw [hrec]; simp); rw [hrec] at this; exact this, hstop D c pre _ (by omega) hSp (hIx' _ hi (Nat.le_succ _) hl rfl) ((World.putObj_heap_other (by omega)).trans hd)⟩
end Go.Proofs.YtnnbbjdidbggmaaGreatDoor.Lk
namespace Go.Proofs.YtnnbbjdidbggmaaGreatDoor.Lk
open Go Go.RowKit Go.Joins Go.Shelf Kit F0

attribute [local go_sem] Oper.semAt_some

/-! ### Plain -/
def pcsG : List UInt8 → List UInt8 → List (List UInt8)
  | cur, [] => [cur]
  | cur, c :: r => if c = 46 then cur :: pcsG [] r else pcsG (cur ++ [c]) r
/-- The pieces between full stops. -/
def pcsL (l : List UInt8) : List (List UInt8) := pcsG [] l
theorem pcsG_no : ∀ (l cur : List UInt8) (_ : ∀ c ∈ l, c ≠ 46), pcsG cur l = [cur ++ l]
  | [], cur, _ => by rw [pcsG, List.append_nil]
  | c :: r, cur, h => by
    rw [pcsG, if_neg (h c (by simp)), pcsG_no r (cur ++ [c]) (fun x hx => h x (by simp [hx]))]
    simp
theorem pcsG_at : ∀ (a cur r : List UInt8) (_ : ∀ c ∈ a, c ≠ 46), pcsG cur (a ++ 46 :: r) = (cur ++ a) :: pcsG [] r
  | [], cur, r, _ => by rw [List.nil_append, pcsG, if_pos rfl, List.append_nil]
  | c :: a, cur, r, h => by
    rw [List.cons_append, pcsG, if_neg (h c (by simp)), pcsG_at a (cur ++ [c]) r (fun x hx => h x (by simp [hx]))]
    simp
theorem pcs_no {l : List UInt8} (h : ∀ c ∈ l, c ≠ 46) : pcsL l = [l] := pcsG_no l [] h
theorem pcs_at {a r : List UInt8} (h : ∀ c ∈ a, c ≠ 46) : pcsL (a ++ 46 :: r) = a :: pcsL r := pcsG_at a [] r h
theorem pcsG_len : ∀ (l cur : List UInt8), (pcsG cur l).length ≤ l.length + 1
  | [], _ => Nat.le_refl _
  | c :: r, cur => by
    rw [pcsG]
    split
    · rw [List.length_cons, List.length_cons]
      exact Nat.succ_le_succ (pcsG_len r [])
    · rw [List.length_cons]
      exact Nat.le_succ_of_le (pcsG_len r _)

/-! ### The iterator -/
structure SpB (Ap C Av : Nat) (Y : ByteArray) (W : World) : Prop where
  sep : Boxed W Ap 9 (.string ⟨#[46]⟩)
  rest : Boxed W C 9 (.string Y)
  save : Boxed W Av 3 (.int .i64 0)
/-- What a round keeps. -/
def KpS (n0 Ap C Av : Nat) (W W' : World) : Prop := Below n0 W W' ∧ ∀ Y, SpB Ap C Av Y W → SpB Ap C Av Y W'
theorem KpS.t {n0 Ap C Av : Nat} {X Y Z : World} (h : KpS n0 Ap C Av X Y) (k : KpS n0 Ap C Av Y Z) : KpS n0 Ap C Av X Z := ⟨h.1.trans k.1, fun y hy => k.2 y (h.2 y hy)⟩
theorem kpS_put {n0 Ap C Av : Nat} {w W : World} (hn : n0 ≤ w.heap.size) (l : Nat) (o o' : Obj) (hl : w.heap.size ≤ l) (h : W.heap[l]? = some o) (hc : o.isCells = false) (hw : o.isWalk = false) : KpS n0 Ap C Av W (W.putObj l o') := by
  refine ⟨belowK_b hn W l o o' hl h hc hw, fun Y hb => ?_⟩
  have hne : ∀ {A : Nat} {t : TypeId} {v : Value}, Boxed W A t v → some A ≠ some l := fun hA e => by
    cases e
    rw [show W.heap[l]? = _ from hA] at h
    cases h
    cases hc
  exact ⟨hb.sep.kept (grownBy_putObj' W l o') (hne hb.sep), hb.rest.kept (grownBy_putObj' W l o') (hne hb.rest), hb.save.kept (grownBy_putObj' W l o') (hne hb.save)⟩
def restN (C : Nat) (w : World) : Nat := match w.cell? ⟨C, 0, none⟩ with
  | some v => Lib.strSize v
  | none => 0
theorem restN_of {C Ap Av : Nat} {Y : ByteArray} {w : World} (h : SpB Ap C Av Y w) : restN C w = Y.size := by
  unfold restN
  rw [h.rest.cell]
  exact Lib.strSize_string _
set_option maxHeartbeats 1000000 in
theorem splitSeq_any (s : ByteArray) (w : World) :
    Calls Tryz.prog 126 #[.string s, .string ⟨#[46]⟩, .int .i64 0] w fun e w' => e = .returned (.func (.func 152) #[] #[.pointer (some ⟨w.heap.size + 1, 0, none⟩), .pointer (some ⟨w.heap.size, 0, none⟩), .pointer (some ⟨w.heap.size + 1 + 1, 0, none⟩)]) ∧
      w' = ((w.alloc (.cells #[.string s] 9)).alloc (.cells #[.string ⟨#[46]⟩] 9)).alloc (.cells #[.int .i64 0] 3) := by
  go_enter Tryz.func126, Tryz.ntmps126
  go_wp2
  go_ret
  exact ⟨by simp, rfl⟩
set_option maxHeartbeats 1000000 in
theorem split_seq (s : ByteArray) (w : World) :
    Calls Tryz.prog 81 #[.string s, .string ⟨#[46]⟩] w fun e w' => e = .returned (.func (.func 152) #[] #[.pointer (some ⟨w.heap.size + 1, 0, none⟩), .pointer (some ⟨w.heap.size, 0, none⟩), .pointer (some ⟨w.heap.size + 1 + 1, 0, none⟩)]) ∧
      w' = ((w.alloc (.cells #[.string s] 9)).alloc (.cells #[.string ⟨#[46]⟩] 9)).alloc (.cells #[.int .i64 0] 3) := by
  go_enter Tryz.func81, Tryz.ntmps81
  go_wp2_with fail
  refine (splitSeq_any s w).mono ?_
  rintro e w' ⟨rfl, rfl⟩
  go_wp2_with fail
  go_ret
  exact ⟨rfl, rfl⟩
theorem dot_idx (Y : ByteArray) (w : World) (hs : Y.size ≤ 1000000) (hE : Srch.Env w) :
    Calls Tryz.prog 124 #[.string Y, .string ⟨#[46]⟩] w fun e w' => e = .returned (.int .i64 (Lib.indexByte Y.data.toList 46)) ∧ w = w' := by
  obtain ⟨m, hm⟩ := hE.max w (Below.refl _ _)
  refine (Tryz.strings_Index Y ⟨#[46]⟩ m w (by omega) hm).mono ?_
  rintro e w' ⟨rfl, rfl⟩
  refine ⟨?_, rfl⟩
  rw [show (ByteArray.mk #[46]).data.toList = [46] from rfl, Lib.index_one]

set_option maxHeartbeats 4000000 in
set_option maxRecDepth 100000 in
theorem split1_in (n : Nat) (hn : 1 ≤ n) (l n0 Ap C Av : Nat) (s : ByteArray) (hs : s.size ≤ 1000000) (hC : n0 ≤ C) (h1 : Ap ≠ C) (h2 : Av ≠ C) (J Jx : List Fd → World → Prop)
    (hJ : ∀ pre W1 W2 row, J pre W1 → W1.grownBy W2 row → (∀ r, row = some r → r = C) → J pre W2)
    (hY : ∀ pre x W, J pre W → pre.length < 1000002 → YieldAt Fence.wide (n - 1) Tryz.prog l (encF x) W fun e W' =>
      (e = .returned (.bool true) ∧ J (pre ++ [x]) W' ∧ KpS n0 Ap C Av W W') ∨ (e = .returned (.bool false) ∧ Jx (pre ++ [x]) W'))
    (W w0 : World) (hW : Below n0 w0 W) (hE : ∀ w', Below n0 w0 w' → Srch.Env w') (hb : SpB Ap C Av s W) (h0 : J [] W) :
    CallsIn Fence.wide n Tryz.prog 152 #[.func (.yield l) #[] #[], .pointer (some ⟨Ap, 0, none⟩), .pointer (some ⟨C, 0, none⟩), .pointer (some ⟨Av, 0, none⟩)] W fun e W' => (∃ v, e = .returned v) ∧
      ((∃ ys, ys.map decF = pcsL s.data.toList ∧ J ys W') ∨ (∃ pre, pre.map decF <+: pcsL s.data.toList ∧ Jx pre W')) := by
  have hc0 := hb.sep.cell
  refine callsIn_of_wp Tryz.func152 rfl trivial ?_ rfl
  simp only [Tryz.ntmps152, List.size_toArray, List.length_cons, List.length_nil, Nat.reduceAdd, Nat.reduceSub, Array.replicate_succ, Array.replicate_zero, List.push_toArray, List.append_toArray, List.nil_append, List.cons_append]
  gi_wp2
  gi_loopw [7] (fun _ wr => ∃ (pre : List Fd) (Y : ByteArray), Y.size ≤ s.size ∧ Hid (pre.map decF ++ pcsL Y.data.toList = pcsL s.data.toList) ∧ SpB Ap C Av Y wr ∧ Hid (Below n0 w0 wr) ∧ J pre wr) (fun _ wr => restN C wr)
  case atStart => exact ⟨[], s, Nat.le_refl _, Lib.hid rfl, hb, Lib.hid hW, h0⟩
  case round =>
    clear hc0
    obtain ⟨pre, Y, hYs, hp, hbx, hbe, hJs⟩ := hrel
    have hc1 := hbx.sep.cell
    have hc2 := hbx.rest.cell
    have hc3 := hbx.save.cell
    have hf2 := hbx.rest.frozen
    have HBX := Lib.hid hbx
    have HRN := Lib.hid (restN_of hbx)
    have HPL : Hid (pre.length < 1000002) := Lib.hid (by
      have e1 := congrArg List.length hp.out
      rw [List.length_append, List.length_map] at e1
      have e2 := pcsG_len s.data.toList []
      rw [← Lib.size_eq] at e2
      unfold pcsL at e1
      omega)
    have HIX := Lib.hid (dot_idx Y wr (by omega) (hE wr hbe.out))
    rcases Srch.idx_cases 46 Y.data.toList with ⟨hi, hno⟩ | ⟨a, r, hl, hno, hi⟩
    · rw [hi] at HIX
      have hYm : Y.size ≤ 1000000 := by omega
      have HF : Hid ((pre ++ [(⟨Y, hYm⟩ : Fd)]).map decF = pcsL s.data.toList) := Lib.hid (by
        rw [← hp.out, pcs_no hno, List.map_append]
        rfl)
      clear hi hno hbx
      gi_wp2_with fail
      refine ⟨trivial, ?_⟩
      refine (callsIn_wide.2 HIX.out).mono ?_
      rintro e w1 ⟨rfl, rfl⟩
      obtain ⟨fn, tmps, assign, body, hy, hR⟩ := hY pre ⟨Y, hYm⟩ wr hJs HPL.out
      simp only [encF] at hy
      gi_wp2_with fail
      refine hR.mono ?_
      rintro e W3 (⟨rfl, hJ3, hk3⟩ | ⟨rfl, hJx3⟩)
      · gi_wp2
        go_end0
        exact ⟨⟨_, rfl⟩, .inl ⟨_, HF.out, hJ3⟩⟩
      · gi_wp2
        go_end0
        exact ⟨⟨_, rfl⟩, .inr ⟨_, by rw [HF.out]; exact List.prefix_refl _, hJx3⟩⟩
    · rw [hi] at HIX
      have hlen := congrArg List.length hl
      rw [List.length_append, List.length_cons, ← Lib.size_eq] at hlen
      have hx1 : (Y.extract 0 a.length).data.toList = a := by
        rw [← Lib.toList_data, Lib.extract_toList, hl, Nat.sub_zero, List.drop_zero, List.take_left]
      have hx2 : (Y.extract (a.length + 1) Y.size).data.toList = r := by
        rw [← Lib.toList_data, Lib.extract_toList, hl, List.take_of_length_le (by rw [List.length_drop, List.length_append, List.length_cons]; omega), ← List.drop_drop, List.drop_left]
        rfl
      have hs1 : (Y.extract 0 a.length).size ≤ 1000000 := by rw [ByteArray.size_extract]; omega
      have hs2 : (Y.extract (a.length + 1) Y.size).size = r.length := by rw [Lib.size_eq, hx2]
      have HF : Hid ((pre ++ [(⟨Y.extract 0 a.length, hs1⟩ : Fd)]).map decF ++ pcsL (Y.extract (a.length + 1) Y.size).data.toList = pcsL s.data.toList) := Lib.hid (by
        rw [← hp.out, hl, pcs_at hno, List.map_append, hx2, List.append_assoc]
        show _ ++ ([(Y.extract 0 a.length).data.toList] ++ _) = _
        rw [hx1]
        rfl)
      have HFP : Hid ((pre ++ [(⟨Y.extract 0 a.length, hs1⟩ : Fd)]).map decF <+: pcsL s.data.toList) := Lib.hid ⟨_, HF.out⟩
      obtain ⟨fn, tmps, assign, body, hy, hR⟩ := hY pre ⟨Y.extract 0 a.length, hs1⟩ wr hJs HPL.out
      simp only [encF] at hy
      have hq0 : (a.length : Int) + 1 ≤ Y.size := by omega
      have HLT : Hid ((Y.extract (a.length + 1) Y.size).size < Y.size ∧ (Y.extract (a.length + 1) Y.size).size ≤ s.size) := Lib.hid (by omega)
      have HZ : Hid (∀ W' : World, SpB Ap C Av Y W' → SpB Ap C Av (Y.extract (a.length + 1) Y.size) (W'.setCell ⟨C, 0, none⟩ (.string (Y.extract (a.length + 1) Y.size)))) := Lib.hid (fun W' h =>
        ⟨h.sep.kept (grownBy_setCell' W' C _) (fun e => h1 (Option.some.inj e)), h.rest.set _, h.save.kept (grownBy_setCell' W' C _) (fun e => h2 (Option.some.inj e))⟩)
      clear hi hno hbx hl hx1 hx2 hlen hs2
      gi_wp2_with fail
      refine ⟨trivial, ?_⟩
      refine (callsIn_wide.2 HIX.out).mono ?_
      rintro e w1 ⟨rfl, rfl⟩
      gi_wp2_with fail
      refine hR.mono ?_
      rintro e W3 (⟨rfl, hJ3, hk3⟩ | ⟨rfl, hJx3⟩)
      · have hb3 := hk3.2 _ HBX.out
        have d1 := hb3.sep.cell
        have d2 := hb3.rest.cell
        have d3 := hb3.rest.frozen
        have HB3 := Lib.hid hb3
        have HN3 := Lib.hid (hbe.out.trans hk3.1)
        clear hb3 hk3 hc1 hc2 hc3 hf2
        gi_wp2_with fail
        go_roundw
        case rel => exact ⟨_, Y.extract (a.length + 1) Y.size, HLT.out.2, HF, HZ.out _ HB3.out, Lib.hid (HN3.out.setCell (p := ⟨C, 0, none⟩) hC _), hJ _ _ _ _ hJ3 (grownBy_setCell' W3 C _) (fun r e => (Option.some.inj e).symm)⟩
        case measure =>
          rw [HRN.out, restN_of (HZ.out _ HB3.out)]
          exact HLT.out.1
      · gi_wp2_with fail
        refine bodyPost_ret (results_none rfl _ _ _) rfl ?_
        exact ⟨⟨_, rfl⟩, .inr ⟨_, HFP.out, hJx3⟩⟩
end Go.Proofs.YtnnbbjdidbggmaaGreatDoor.Lk
namespace Go.Proofs.YtnnbbjdidbggmaaGreatDoor.Lk
open Go Ad

/-- Each address told is no longer than this. -/
def TS (n : Nat) (T : List Ad3) : Prop := ∀ a ∈ T, a.1.length ≤ 2 * n ∧ a.2.1.length ≤ n ∧ a.2.2.length ≤ n
theorem TS.up {n m : Nat} {T : List Ad3} (h : TS n T) (hm : n ≤ m) : TS m T := fun a ha => by have := h a ha; omega
theorem cutA_le (p : List UInt8) : (cutA p).1.length ≤ p.length ∧ (cutA p).2.length ≤ p.length := by
  unfold cutA
  split
  · simp
  · simp only [List.length_take, List.length_drop]; omega
theorem TS.tell {n : Nat} {s : St} (h : TS n s.told) (hb : Bd n s) : TS n (tellS s).told := by
  show TS n (s.told ++ oneA (nameA s) (placeA s))
  intro a ha
  rcases List.mem_append.1 ha with ha | ha
  · exact h a ha
  · unfold oneA at ha
    split at ha
    · cases ha
    · simp only [List.mem_singleton] at ha
      subst ha
      have hw := hb.wt
      have h1 : (nameA s).length ≤ 2 * n := by
        unfold nameA
        split
        · have h2 := Wd.decW_len _ true (Lib.join s.words [32]) (Nat.le_refl _)
          have h3 := join_len s.words [32] (by decide)
          omega
        · simp
      have h2 : (placeA s).length ≤ n := by
        unfold placeA
        split
        · exact hb.angle
        · have h3 := join_len s.words [] (by decide)
          omega
      have h3 := cutA_le (placeA s)
      exact ⟨h1, Nat.le_trans h3.1 h2, Nat.le_trans h3.2 h2⟩
theorem begin_told (s : St) (c : UInt8) : (beginS s c).told = s.told ∨ (beginS s c).told = (tellS s).told := by
  unfold beginS
  repeat' split
  all_goals first | exact Or.inl rfl | exact Or.inr rfl
theorem step_told (s : St) (c : UInt8) : (stepS s c).told = s.told ∨ (stepS s c).told = (tellS s).told ∨ (stepS s c).told = (tellS (endWordS s)).told := by
  unfold stepS
  split
  · split
    · rcases begin_told (endWordS s) c with h | h
      · exact Or.inl h
      · exact Or.inr (Or.inr h)
    · exact Or.inl rfl
  split
  · rcases begin_told s c with h | h
    · exact Or.inl h
    · exact Or.inr (Or.inl h)
  unfold angleS remarkS
  repeat' split
  all_goals exact Or.inl rfl
theorem TS.step {n : Nat} {s : St} (h : TS n s.told) (hb : Bd n s) (c : UInt8) : TS (n + 2) (stepS s c).told := by
  rcases step_told s c with e | e | e <;> rw [e]
  · exact h.up (by omega)
  · exact (h.tell hb).up (by omega)
  · exact (TS.tell (s := endWordS s) (n := n + 1) (h.up (by omega)) hb.endWord).up (by omega)
theorem TS.run {n : Nat} {s : St} (h : TS n s.told) (hb : Bd n s) (l : List UInt8) : TS (n + 2 * l.length) (run s l).told := by
  induction l generalizing n s with
  | nil => exact h
  | cons c r ih =>
    rw [run_cons]
    exact (ih (h.step hb c) (hb.step c)).up (by rw [List.length_cons]; omega)
theorem doc_small (l : List UInt8) : TS (2 * l.length + 3) (docA l) := by
  have h0 : TS 0 (fresh []).told := fun a ha => by cases ha
  have h1 := h0.run (Bd.new []) l
  have h2 := run_bd l
  rw [Nat.zero_add] at h1
  unfold docA endS
  split
  · exact TS.tell (s := endWordS { (run (fresh []) l) with txt := (run (fresh []) l).txt ++ [92] }) (h1.up (by omega)) (((h2.put 92 h2.st).endWord).up (by omega))
  split
  · exact TS.tell (s := endWordS (run (fresh []) l)) (h1.up (by omega)) (h2.endWord.up (by omega))
  split
  · exact TS.tell (s := endAngleS (run (fresh []) l)) (h1.up (by omega)) (h2.endAngle.up (by omega))
  · exact TS.tell (s := run (fresh []) l) (h1.up (by omega)) (h2.up (by omega))
theorem str_len (l : List UInt8) (h : l.length ≤ 1099511627) : (Tx.strL l).length ≤ 2 * l.length + 20 := by
  unfold Tx.strL
  split
  · have := (Tx.escL_length l).2
    simp only [List.length_append, List.length_cons, List.length_nil]
    omega
  · unfold Tx.litL
    have := Tx.nDigits_le (k := 12) (u := l.length) (by omega)
    rw [← Lib.decDigits_length] at this
    simp only [List.length_append, List.length_cons, List.length_nil]
    omega
theorem one_len {n : Nat} {a : Ad3} (hn : n ≤ 100000) (h : a.1.length ≤ 2 * n ∧ a.2.1.length ≤ n ∧ a.2.2.length ≤ n) : (oneAdL a).length ≤ 8 * n + 100 := by
  have h1 := str_len a.1 (by omega)
  have h2 := str_len a.2.1 (by omega)
  have h3 := str_len a.2.2 (by omega)
  unfold oneAdL
  simp only [List.length_append]
  have h4 : (if a.1 = [] then nilT else Tx.strL a.1).length ≤ 4 * n + 20 := by
    split
    · have : nilT.length = 3 := rfl
      omega
    · omega
  have h5 : nilT.length = 3 := rfl
  simp only [List.length_cons, List.length_nil]
  omega
theorem flat_len {n : Nat} (hn : n ≤ 100000) : ∀ {T : List Ad3} (_ : TS n T), (T.flatMap oneAdL).length ≤ T.length * (8 * n + 100)
  | [], _ => by simp
  | a :: r, h => by
    rw [List.flatMap_cons, List.length_append, List.length_cons, Nat.succ_mul]
    have h1 := one_len hn (h a (by simp))
    have h2 := flat_len hn (T := r) (fun x hx => h x (by simp [hx]))
    omega
/-- What is told of the addresses of a short text. -/
theorem adL_len {l : List UInt8} (h : l.length ≤ 32768) : (adL (docA l)).length ≤ 50000000000 ∧ TS 65539 (docA l) ∧ (docA l).length ≤ 65539 := by
  have h1 := (doc_small l).up (m := 65539) (by omega)
  have h2 := doc_len l
  refine ⟨?_, h1, by omega⟩
  have h3 := flat_len (by decide) h1
  have h4 : (docA l).length * (8 * 65539 + 100) ≤ 65539 * (8 * 65539 + 100) := Nat.mul_le_mul_right _ (by omega)
  unfold adL
  split
  · decide
  · simp only [List.length_append, List.length_cons, List.length_nil]
    omega
end Go.Proofs.YtnnbbjdidbggmaaGreatDoor.Lk
namespace Go.Proofs.YtnnbbjdidbggmaaGreatDoor.Lk
open Go Pt

def oneParL (f : Pt.Fl) : List UInt8 := Tx.strL f.1 ++ [32] ++ Tx.strL f.2
/-- The first k parameters, with what stands ahead of each. -/
def parK (ps : List Pt.Fl) : Nat → List UInt8
  | 0 => []
  | k + 1 => parK ps k ++ ((if k = 0 then [40] else [32]) ++ (match ps[k]? with | some f => oneParL f | none => []))
def parL (ps : List Pt.Fl) : List UInt8 := if ps = [] then nilT else parK ps ps.length ++ [41]
theorem parK_succ (ps : List Pt.Fl) (k : Nat) (h : k < ps.length) : parK ps (k + 1) = parK ps k ++ ((if k = 0 then [40] else [32]) ++ oneParL ps[k]) := by
  rw [parK, List.getElem?_eq_getElem h]
def kindL (ty : List UInt8) : List UInt8 := (Lib.cut ty [47]).1
def formL (ty : List UInt8) : List UInt8 := (Lib.cut ty [47]).2.1
def textT : List UInt8 := [116, 101, 120, 116]
def cntL (s : List UInt8) (j : P) : List UInt8 := if kindL j.ty = textT then [32] ++ Lib.decDigits (Lib.countByte (segL s j.fm j.to) 10) else []
def leafL (s : List UInt8) (j : P) : List UInt8 :=
  (Tx.strL (kindL j.ty) ++ [32] ++ Tx.strL (formL j.ty) ++ [32]) ++ parL j.ps ++ ([32] ++ nilT ++ [32] ++ nilT ++ [32] ++ Tx.strL j.enc ++ [32] ++ Lib.decDigits (j.to - j.fm)) ++ cntL s j ++ [41]
/-- What IMAP tells of a part. -/
def structP (s : List UInt8) : P → List UInt8
  | .mk ty ps enc att h f t kids => [40] ++ (if kids = [] then leafL s (.mk ty ps enc att h f t kids) else structK s kids ++ ([32] ++ Tx.strL (formL ty) ++ [41]))
where structK (s : List UInt8) : List P → List UInt8
  | [] => []
  | k :: r => structP s k ++ structK s r
theorem structP_leaf (s : List UInt8) {j : P} (h : j.kids = []) : structP s j = [40] ++ leafL s j := by
  obtain ⟨ty, ps, enc, att, hh, f, t, kids⟩ := j
  rw [structP, if_pos (show kids = [] from h)]
theorem structP_kids (s : List UInt8) {j : P} (h : j.kids ≠ []) : structP s j = [40] ++ (structP.structK s j.kids ++ ([32] ++ Tx.strL (formL j.ty) ++ [41])) := by
  obtain ⟨ty, ps, enc, att, hh, f, t, kids⟩ := j
  rw [structP, if_neg (show kids ≠ [] from h)]
  rfl
theorem structK_snoc (s : List UInt8) (j : P) : ∀ l : List P, structP.structK s (l ++ [j]) = structP.structK s l ++ structP s j
  | [] => by rw [List.nil_append, structP.structK, structP.structK, structP.structK, List.append_nil, List.nil_append]
  | k :: r => by rw [List.cons_append, structP.structK, structP.structK, structK_snoc s j r, List.append_assoc]
theorem structK_take (s : List UInt8) (l : List P) (k : Nat) (h : k < l.length) : structP.structK s (l.take (k + 1)) = structP.structK s (l.take k) ++ structP s l[k] := by
  rw [List.take_succ_eq_append_getElem h, structK_snoc]

/-! ### How much there is -/
/-- How many parts. -/
def wtP : P → Nat
  | .mk _ _ _ _ _ _ _ kids => wtK kids + 1
where wtK : List P → Nat
  | [] => 0
  | k :: r => wtP k + wtK r
theorem wt_own (j : P) : wtP j = wtP.wtK j.kids + 1 := by
  obtain ⟨ty, ps, enc, att, hh, f, t, kids⟩ := j
  rfl
theorem wt_take : ∀ (l : List P) (k : Nat) (h : k < l.length), wtP.wtK (l.take k) + wtP l[k] ≤ wtP.wtK l
  | [], k, h => by simp at h
  | j :: r, 0, _ => by simp [wtP.wtK]
  | j :: r, k + 1, h => by
    have := wt_take r k (by simpa using h)
    simp only [List.take_succ_cons, wtP.wtK, List.getElem_cons_succ]
    omega
theorem foldK_wt {rd : Nat → Nat → Nat → P × Nat} (h : ∀ f e n, n ≤ 30 → wtP (rd f e n).1 + n ≤ (rd f e n).2 + 1 ∧ (rd f e n).2 ≤ 30) : ∀ (l : List (Nat × Nat)) (n : Nat) (_ : n ≤ 30), wtP.wtK (foldK rd l n).1 + n ≤ (foldK rd l n).2
  | [], n, _ => by rw [foldK]; simp [wtP.wtK]
  | (f, e) :: r, n, hn => by
    rw [foldK]
    split
    · have h1 := h f e (n + 1) (by omega)
      have h2 := foldK_wt h r (rd f e (n + 1)).2 h1.2
      simp only [wtP.wtK]
      omega
    · simp [wtP.wtK]
theorem read_wt (s : List UInt8) : ∀ (d a b n : Nat) (_ : n ≤ 30), wtP (readL s d a b n).1 + n ≤ (readL s d a b n).2 + 1
  | 0, a, b, n, h => by rw [readL]; simp [partL, wtP, wtP.wtK]; omega
  | d + 1, a, b, n, h => by
    rw [readL]
    split
    · simp [partL, wtP, wtP.wtK]; omega
    · rename_i bd _
      have h1 := foldK_wt (rd := readL s d) (fun f e n hn => ⟨read_wt s d f e n hn, (read_count s d f e n hn).2⟩) (kidsL bd s (headL s a b).2 b) n h
      simp only [partL, wtP]
      omega
theorem tree_wt (s : List UInt8) : wtP (treeL s) ≤ 30 := by
  have h1 := read_wt s 6 0 s.length 1 (by omega)
  have h2 := (read_count s 6 0 s.length 1 (by omega)).2
  unfold treeL
  omega
/-- Its texts are short, it lies in the octets. -/
def fineP (n : Nat) : P → Prop
  | .mk ty ps enc _ _ f t kids => (ty.length ≤ 40000 ∧ enc.length ≤ 40000 ∧ ps.length ≤ 40000 ∧ (∀ x ∈ ps, x.1.length ≤ 40000 ∧ x.2.length ≤ 40000) ∧ f ≤ t ∧ t ≤ n) ∧ fineK n kids
where fineK (n : Nat) : List P → Prop
  | [] => True
  | k :: r => fineP n k ∧ fineK n r
theorem fineK_mem {n : Nat} : ∀ {l : List P} (_ : fineP.fineK n l), ∀ k ∈ l, fineP n k
  | [], _, k, hk => by cases hk
  | j :: r, h, k, hk => by
    rcases List.mem_cons.1 hk with rfl | hk
    · exact h.1
    · exact fineK_mem h.2 k hk
theorem fine_own {n : Nat} {j : P} (h : fineP n j) : (j.ty.length ≤ 40000 ∧ j.enc.length ≤ 40000 ∧ j.ps.length ≤ 40000 ∧ (∀ x ∈ j.ps, x.1.length ≤ 40000 ∧ x.2.length ≤ 40000) ∧ j.fm ≤ j.to ∧ j.to ≤ n) ∧ ∀ k ∈ j.kids, fineP n k := by
  obtain ⟨ty, ps, enc, att, hh, f, t, kids⟩ := j
  exact ⟨h.1, fineK_mem h.2⟩
theorem foldK_fine {m : Nat} {rd : Nat → Nat → Nat → P × Nat} {b : Nat} (h : ∀ f e n, f ≤ e → e ≤ b → fineP m (rd f e n).1) : ∀ (l : List (Nat × Nat)) (lo n : Nat) (_ : Ord b lo l), fineP.fineK m (foldK rd l n).1
  | [], lo, n, _ => by rw [foldK]; trivial
  | (f, e) :: r, lo, n, ho => by
    obtain ⟨h1, h2, h3, h4⟩ := ho
    rw [foldK]
    split
    · exact ⟨h f e (n + 1) h2 h3, foldK_fine h r e _ h4⟩
    · trivial
theorem part_fine {s : List UInt8} (hs : s.length ≤ 32768) {a b : Nat} (hab : a ≤ b) (hb : b ≤ s.length) : (typeL (headL s a b).1).1.length ≤ 40000 ∧ (encL (headL s a b).1).length ≤ 40000 ∧ (typeL (headL s a b).1).2.length ≤ 40000 ∧ (∀ x ∈ (typeL (headL s a b).1).2, x.1.length ≤ 40000 ∧ x.2.length ≤ 40000) ∧ (headL s a b).2 ≤ b ∧ b ≤ s.length := by
  have h1 := type_sizes (s := s) (a := a) (b := b) hb
  have h2 := split_in hab hb
  have h3 := (head_sizes (s := s) (a := a) (b := b) hb).1
  refine ⟨by omega, ?_, by omega, fun x hx => by have := h1.2.2 x hx; omega, h2.2, hb⟩
  unfold encL
  cases e : fstL (headL s a b).1 cencT with
  | none => decide
  | some f =>
    have h4 := small_le f.2
    have h5 := (h3 f (fst_mem e)).2
    simp only
    omega
theorem read_fine (s : List UInt8) (hs : s.length ≤ 32768) : ∀ (d a b n : Nat) (_ : a ≤ b) (_ : b ≤ s.length), fineP s.length (readL s d a b n).1
  | 0, a, b, n, hab, hb => by
    have h := part_fine hs hab hb
    rw [readL]
    exact ⟨h, trivial⟩
  | d + 1, a, b, n, hab, hb => by
    have h := part_fine hs hab hb
    rw [readL]
    split
    · exact ⟨h, trivial⟩
    · rename_i bd _
      refine ⟨h, ?_⟩
      exact foldK_fine (b := b) (fun f e n h1 h2 => read_fine s hs d f e n h1 (by omega)) _ (headL s a b).2 n (kids_ord bd s b _ none _ _ (linesG_rise b _ [] _ _ (Nat.le_refl _) (by
        have := seg_len (s := s) (a := (headL s a b).2) (b := b) hb
        have := (split_in hab hb).2
        omega)) (split_in hab hb).2 (Nat.le_refl _) (fun f e => by cases e))
theorem tree_fine (s : List UInt8) (hs : s.length ≤ 32768) : fineP s.length (treeL s) := read_fine s hs 6 0 s.length 1 (Nat.zero_le _) (Nat.le_refl _)
theorem cut_len2 (l : List UInt8) : (kindL l).length ≤ l.length ∧ (formL l).length ≤ l.length := by
  unfold kindL formL
  rw [Lib.cut, Lib.index_one]
  split
  · simp only [List.length_take, List.length_drop]; omega
  · simp
theorem onePar_len {f : Pt.Fl} (h : f.1.length ≤ 40000 ∧ f.2.length ≤ 40000) : (oneParL f).length ≤ 160041 := by
  have h1 := str_len f.1 (by omega)
  have h2 := str_len f.2 (by omega)
  unfold oneParL
  simp only [List.length_append, List.length_singleton]
  omega
theorem parK_len {ps : List Pt.Fl} (h : ∀ x ∈ ps, x.1.length ≤ 40000 ∧ x.2.length ≤ 40000) : ∀ k, (parK ps k).length ≤ k * 160042
  | 0 => Nat.le_refl _
  | k + 1 => by
    have h1 := parK_len h k
    rw [parK, List.length_append, List.length_append]
    have h2 : (if k = 0 then [40] else [32] : List UInt8).length = 1 := by split <;> rfl
    have h3 : (match ps[k]? with | some f => oneParL f | none => []).length ≤ 160041 := by
      cases e : ps[k]? with
      | none => simp
      | some f => exact onePar_len (h f (List.mem_of_getElem? e))
    omega
theorem parL_len {ps : List Pt.Fl} (h : ∀ x ∈ ps, x.1.length ≤ 40000 ∧ x.2.length ≤ 40000) (hl : ps.length ≤ 40000) : (parL ps).length ≤ 6500000000 := by
  have h1 := parK_len h ps.length
  have h2 : ps.length * 160042 ≤ 40000 * 160042 := Nat.mul_le_mul_right _ hl
  unfold parL
  split
  · decide
  · simp only [List.length_append, List.length_singleton]
    omega
theorem dig_len {n : Nat} (h : n ≤ 1099511627776) : (Lib.decDigits n).length ≤ 13 := by
  rw [Lib.decDigits_length]
  exact Tx.nDigits_le (k := 12) (by omega)
theorem cnt_len {s : List UInt8} (hs : s.length ≤ 32768) (j : P) : (cntL s j).length ≤ 14 := by
  unfold cntL
  split
  · have h1 : Lib.countByte (segL s j.fm j.to) 10 ≤ (segL s j.fm j.to).length := List.count_le_length
    have h2 : (segL s j.fm j.to).length ≤ s.length := by unfold segL; simp only [List.length_drop, List.length_take]; omega
    have := dig_len (n := Lib.countByte (segL s j.fm j.to) 10) (by omega)
    simp only [List.length_append, List.length_singleton]
    omega
  · simp
theorem leaf_len {s : List UInt8} (hs : s.length ≤ 32768) {j : P} (h : fineP s.length j) : (leafL s j).length ≤ 6600000000 := by
  obtain ⟨⟨h1, h2, h3, h4, h5, h6⟩, _⟩ := fine_own h
  have q0 := cut_len2 j.ty
  have q1 := str_len (kindL j.ty) (by omega)
  have q2 := str_len (formL j.ty) (by omega)
  have q3 := str_len j.enc (by omega)
  have q4 := parL_len h4 h3
  have q5 := cnt_len hs j
  have q6 := dig_len (n := j.to - j.fm) (by omega)
  have q7 : nilT.length = 3 := rfl
  unfold leafL
  simp only [List.length_append, List.length_singleton]
  omega
theorem structP_len {s : List UInt8} (hs : s.length ≤ 32768) (j : P) : fineP s.length j → (structP s j).length ≤ wtP j * 7000000000 := by
  refine P.ind (M := fun j => fineP s.length j → (structP s j).length ≤ wtP j * 7000000000) (fun j ih h => ?_) j
  obtain ⟨hown, hk⟩ := fine_own h
  rw [wt_own]
  by_cases e : j.kids = []
  · rw [structP_leaf s e, List.length_append, List.length_singleton]
    have := leaf_len hs h
    omega
  · rw [structP_kids s e]
    have h1 : ∀ l : List P, (∀ k ∈ l, k ∈ j.kids) → (structP.structK s l).length ≤ wtP.wtK l * 7000000000 := by
      intro l
      induction l with
      | nil => intro _; rw [structP.structK]; simp
      | cons k r ihl =>
        intro hm
        rw [structP.structK, List.length_append, wtP.wtK]
        have a1 := ih k (hm k (by simp)) (hk k (hm k (by simp)))
        have a2 := ihl (fun x hx => hm x (by simp [hx]))
        omega
    have h2 := h1 j.kids (fun _ h => h)
    have q0 := cut_len2 j.ty
    have q2 := str_len (formL j.ty) (by have := hown.1; omega)
    have := hown.1
    simp only [List.length_append, List.length_singleton]
    omega
def structL (s : List UInt8) : List UInt8 := structP s (treeL s)
end Go.Proofs.YtnnbbjdidbggmaaGreatDoor.Lk
namespace Go.Proofs.YtnnbbjdidbggmaaGreatDoor.Lk
open Go Go.RowKit Go.Joins Kit F0 Pt

mutual
/-- The first part that is to be read. -/
def findP : P → Option P
  | .mk ty ps enc att h f t kids => if ty = plainT ∧ att = false then some (.mk ty ps enc att h f t kids) else findK kids
def findK : List P → Option P
  | [] => none
  | k :: r => match findP k with
    | some x => some x
    | none => findK r
end
theorem findP_own (j : P) : findP j = if j.ty = plainT ∧ j.att = false then some j else findK j.kids := by
  cases j
  rw [findP]
  rfl
theorem findK_at : ∀ (ks : List P) (k : Nat) (hk : k < ks.length) (_ : findK (ks.take k) = none), (∀ x, findP ks[k] = some x → findK ks = some x) ∧ (findP ks[k] = none → findK (ks.take (k + 1)) = none)
  | [], k, hk, _ => by simp at hk
  | y :: r, 0, _, _ => by
    refine ⟨fun x hx => ?_, fun hx => ?_⟩
    · have hx' : findP y = some x := hx
      rw [findK, hx']
    · have hx' : findP y = none := hx
      rw [List.take_succ_cons, List.take_zero, findK, hx']
      rfl
  | y :: r, k + 1, hk, h => by
    rw [List.take_succ_cons, findK] at h
    cases hy : findP y with
    | some z => rw [hy] at h; cases h
    | none =>
      rw [hy] at h
      have ih := findK_at r k (by simpa using hk) h
      refine ⟨fun x hx => ?_, fun hx => ?_⟩
      · rw [findK, hy]
        exact ih.1 x hx
      · rw [List.take_succ_cons, findK, hy]
        exact ih.2 hx
/-- What is read off where a struct's variable and a value are handed back. -/
theorem part_result2 {fn : Func} {p u : Tmp} (h : fn.results = #[.cell p 42, .tmp u]) (tmps : Array Value) {w : World} {G : Nat} {c0 c1 c2 c3 c4 c5 c6 c7 : Value}
    (hp : tmps.getD p undef = .pointer (some ⟨G, 0, none⟩)) (hb : Bx G c0 c1 c2 c3 c4 c5 c6 c7 w) : (results fn tmps).run Tryz.prog w = .ok (.tuple #[.agg #[c0, c1, c2, c3, c4, c5, c6, c7], tmps.getD u undef]) w := by
  rw [results_cell_tmp h, hp]
  simp [asAddr, Result.andThen, run_loadVar_row w G _ _ _ _ _ hb.blk Tryz.underlying42 rfl (by kernel_rfl)]
theorem wt_len : ∀ l : List P, l.length ≤ wtP.wtK l ∧ ∀ k ∈ l, wtP k ≤ wtP.wtK l
  | [] => ⟨Nat.zero_le _, fun k h => by cases h⟩
  | k :: r => by
    have h1 := wt_len r
    have h2 : 1 ≤ wtP k := by rw [wt_own]; omega
    rw [List.length_cons, wtP.wtK]
    refine ⟨by omega, fun x hx => ?_⟩
    rcases List.mem_cons.1 hx with rfl | hx
    · omega
    · have := h1.2 x hx
      omega
def FindOk (Q : Nat → Prop) (j : P) : Prop := ∀ (w : World) (c0 c1 c2 c3 c4 c5 c6 c7 : Value), (∀ g, Q g → g < w.heap.size) → wtP j ≤ 1000000 → PartAt Q w j (.agg #[c0, c1, c2, c3, c4, c5, c6, c7]) →
  Calls Tryz.prog 28 #[.agg #[c0, c1, c2, c3, c4, c5, c6, c7]] w fun e w' => Below w.heap.size w w' ∧
    ((∃ x d0 d1 d2 d3 d4 d5 d6 d7, findP j = some x ∧ e = .returned (.tuple #[.agg #[d0, d1, d2, d3, d4, d5, d6, d7], .bool true]) ∧ PartAt Q w' x (.agg #[d0, d1, d2, d3, d4, d5, d6, d7])) ∨
      (findP j = none ∧ e = .returned (.tuple #[.agg #[zS, zL, zS, zB, zI, zI, zI, zL], .bool false])))

set_option maxHeartbeats 4000000 in
set_option maxRecDepth 100000 in
theorem find_ok (Q : Nat → Prop) (j : P) (ih : ∀ k ∈ j.kids, FindOk Q k) : FindOk Q j := by
  intro w c0 c1 c2 c3 c4 c5 c6 c7 hQ hw hc
  rw [wt_own] at hw
  have HQ := Lib.hid hQ
  clear hQ
  have hc0 := hc
  obtain ⟨ap, mp, ak, mk, e, hps, cs, hk1, hk2⟩ := part_cells hc
  injection e with e
  injection e with e
  injection e with e0 e
  injection e with e1 e
  injection e with e2 e
  injection e with e3 e
  injection e with e4 e
  injection e with e5 e
  injection e with e6 e
  injection e with e7 e
  subst e0 e1 e2 e3 e4 e5 e6 e7
  have HFO := Lib.hid (findP_own j)
  have HP0 := Lib.hid hc0
  have HKC := Lib.hid (fun (w' : World) (hb : Below w.heap.size w w') (i : Nat) (hi : i < j.kids.length) => kid_cells (hk1.keep (kept_below (Q := Q) hb)) (KidsAt.keep (kept_below (Q := Q) hb) hk2) i hi)
  have HIH := Lib.hid ih
  have HWT := Lib.hid (wt_len j.kids)
  have hwl := (wt_len j.kids).1
  have HFA := Lib.hid (findK_at j.kids)
  have HFE : Hid (findK (j.kids.take j.kids.length) = findK j.kids) := Lib.hid (by rw [List.take_length])
  obtain ⟨hh, hhh⟩ : ∃ x, j.hd = x := ⟨_, rfl⟩
  obtain ⟨ff, hff⟩ : ∃ x, j.fm = x := ⟨_, rfl⟩
  obtain ⟨tt, htt⟩ : ∃ x, j.to = x := ⟨_, rfl⟩
  obtain ⟨ty, hty⟩ : ∃ x, j.ty = x := ⟨_, rfl⟩
  obtain ⟨enc, henc⟩ : ∃ x, j.enc = x := ⟨_, rfl⟩
  obtain ⟨att, hatt⟩ : ∃ x, j.att = x := ⟨_, rfl⟩
  obtain ⟨np, hnp⟩ : ∃ x, j.ps.length = x := ⟨_, rfl⟩
  obtain ⟨ks, hks⟩ : ∃ x, j.kids = x := ⟨_, rfl⟩
  rw [hty, hatt, hks] at HFO
  rw [hks] at HKC HIH HFA HFE HWT hw hwl
  rw [hhh, hff, htt, hty, henc, hatt, hnp, hks] at HP0 ⊢
  clear hc hc0 hps hk1 hk2 hhh hff htt hty henc hatt hnp hks ih
  unfold sV at HP0 ⊢
  by_cases hp : ty = plainT ∧ att = false
  · obtain ⟨h1, rfl⟩ := hp
    have g1 : (ty == [116, 101, 120, 116, 47, 112, 108, 97, 105, 110]) = true := by rw [beq_iff_eq]; exact h1
    have HF : Hid (findP j = some j) := Lib.hid (by rw [HFO.out, if_pos ⟨h1, rfl⟩])
    clear h1
    go_enter Tryz.func28, Tryz.ntmps28
    go_wp2_with fail
    have hb2 : Below w.heap.size w ((w.alloc (.cells #[.string ⟨ty.toArray⟩, .slice ap np mp, .string ⟨enc.toArray⟩, .bool false, .int .i64 (hh : Int), .int .i64 (ff : Int), .int .i64 (tt : Int), .slice ak ks.length mk] 42)).alloc (.cells #[.string ⟨ty.toArray⟩, .slice ap np mp, .string ⟨enc.toArray⟩, .bool false, .int .i64 (hh : Int), .int .i64 (ff : Int), .int .i64 (tt : Int), .slice ak ks.length mk] 42)) := ((Below.refl _ w).alloc (Nat.le_refl _) _).alloc (by simp) _
    refine ⟨rfl, .tuple #[.agg #[.string ⟨ty.toArray⟩, .slice ap np mp, .string ⟨enc.toArray⟩, .bool false, .int .i64 (hh : Int), .int .i64 (ff : Int), .int .i64 (tt : Int), .slice ak ks.length mk], .bool true], part_result2 (fn := Tryz.f28) (p := 2) (u := 3) rfl _ rfl (Bx.madeAt (n := w.heap.size + 1) (World.size_alloc _ _) _ _ _ _ _ _ _ _), hb2, ?_⟩
    exact Or.inl ⟨j, HF.out, _, _, _, _, _, _, _, _, rfl, HP0.out.keep (kept_below hb2)⟩
  · have HF : Hid (findP j = findK ks) := Lib.hid (by rw [HFO.out, if_neg hp])
    have hg : (ty == [116, 101, 120, 116, 47, 112, 108, 97, 105, 110]) = false ∨ ((ty == [116, 101, 120, 116, 47, 112, 108, 97, 105, 110]) = true ∧ att = true) := by
      by_cases h1 : ty = plainT
      · refine Or.inr ⟨by rw [beq_iff_eq]; exact h1, ?_⟩
        cases att
        · exact absurd ⟨h1, rfl⟩ hp
        · rfl
      · exact Or.inl (by rw [beq_eq_false_iff_ne]; exact h1)
    clear hp HFO HP0
    have HBX : Hid (∀ o : Obj, Bx (w.heap.size + 1) zS zL zS zB zI zI zI zL ((w.alloc o).alloc (.cells #[zS, zL, zS, zB, zI, zI, zI, zL] 42))) := Lib.hid (fun o => Bx.madeAt (n := w.heap.size + 1) (World.size_alloc _ _) _ _ _ _ _ _ _ _)
    have HB0 : Hid (∀ o p : Obj, Below w.heap.size w ((w.alloc o).alloc p)) := Lib.hid (fun o p => ((Below.refl _ w).alloc (Nat.le_refl _) o).alloc (by simp) p)
    unfold zS zL zB zI at *
    rcases hg with g1 | ⟨g1, rfl⟩
    all_goals
      go_enter Tryz.func28, Tryz.ntmps28
      go_wp2_with fail
      go_loopw [20] (fun i wr => ∃ k : Nat, k ≤ ks.length ∧ i = .int .i64 (k : Int) ∧ Hid (findK (ks.take k) = none) ∧ Hid (Bx (w.heap.size + 1) (.string ⟨#[]⟩) (.slice none 0 0) (.string ⟨#[]⟩) (.bool false) (.int .i64 0) (.int .i64 0) (.int .i64 0) (.slice none 0 0) wr) ∧ Hid (Below w.heap.size w wr)) (fun i _ => ks.length - (intOf i).toNat)
      case atStart => exact ⟨0, Nat.zero_le _, rfl, Lib.hid (by rw [List.take_zero]; rfl), Lib.hid (HBX.out _), Lib.hid (HB0.out _ _)⟩
      case round =>
        obtain ⟨k, hk, rfl, hno, hbx, hb⟩ := hrel
        by_cases hlt : k < ks.length
        · have gk : (k : Int) < (ks.length : Int) := by omega
          obtain ⟨g, o, b0, b1, b2, b3, b4, b5, b6, b7, rfl, hgl, u0, u1, u2, u3, u4, u5, u6, u7, hpk⟩ := HKC.out wr hb.out k hlt
          obtain ⟨x0, a1, l1, m1, x2, x3, x4, x5, x6, a7, l7, m7, rfl, rfl, rfl, rfl, rfl, rfl, rfl, rfl⟩ := part_forms hpk
          have hal : Below wr.heap.size wr (wr.alloc (.cells #[.string x0, .slice a1 l1 m1, .string x2, .bool x3, .int .i64 x4, .int .i64 x5, .int .i64 x6, .slice a7 l7 m7] 42)) := (Below.refl _ wr).alloc (Nat.le_refl _) _
          have HSZ : Hid (w.heap.size + 2 ≤ wr.heap.size) := Lib.hid (by have := hbx.out.lt; omega)
          have HCALL := Lib.hid (HIH.out ks[k] (List.getElem_mem hlt) _ _ _ _ _ _ _ _ _ (fun g hg => by have := HQ.out g hg; have := hal.size; have := HSZ.out; omega) (by have := HWT.out.2 ks[k] (List.getElem_mem hlt); omega) (hpk.keep (kept_below hal)))
          have HST := Lib.hid (HFA.out k hlt hno.out)
          have HAL := Lib.hid hal
          obtain ⟨kd, hkd⟩ : ∃ kd, ks[k] = kd := ⟨_, rfl⟩
          rw [hkd] at HCALL HST
          clear hpk hal hkd
          go_wp2_with fail
          refine HCALL.out.mono ?_
          rintro e w5 ⟨hb5, ⟨x, d0, d1, d2, d3, d4, d5, d6, d7, hx, rfl, hpx⟩ | ⟨hx, rfl⟩⟩
          · obtain ⟨y0, v1, r1, n1, y2, y3, y4, y5, y6, v7, r7, n7, rfl, rfl, rfl, rfl, rfl, rfl, rfl, rfl⟩ := part_forms hpx
            have hB5 : Below wr.heap.size wr w5 := HAL.out.trans (hb5.mono HAL.out.size)
            have hbw : Below w.heap.size w w5 := hb.out.trans (hB5.mono hb.out.size)
            have hal6 : Below w5.heap.size w5 (w5.alloc (.cells #[.string y0, .slice v1 r1 n1, .string y2, .bool y3, .int .i64 y4, .int .i64 y5, .int .i64 y6, .slice v7 r7 n7] 42)) := (Below.refl _ w5).alloc (Nat.le_refl _) _
            have hbx6 := (hbx.out.below hB5).below hal6
            have hb6 := hbw.trans (hal6.mono hbw.size)
            have HFIN := Lib.hid (And.intro (hbx6.setAll (.string y0) (.slice v1 r1 n1) (.string y2) (.bool y3) (.int .i64 y4) (.int .i64 y5) (.int .i64 y6) (.slice v7 r7 n7)) (And.intro (PartAt.keep (finW_kept (Q' := Q) (w5.alloc (.cells #[.string y0, .slice v1 r1 n1, .string y2, .bool y3, .int .i64 y4, .int .i64 y5, .int .i64 y6, .slice v7 r7 n7] 42)) (w.heap.size + 1) (.string y0) (.slice v1 r1 n1) (.string y2) (.bool y3) (.int .i64 y4) (.int .i64 y5) (.int .i64 y6) (.slice v7 r7 n7) (fun g hg => ⟨by have := HQ.out g hg; omega, hg⟩)) (hpx.keep (kept_below hal6))) ((((((((hb6.setCell (p := ⟨w.heap.size + 1, 0, none⟩) (Nat.le_succ _) (.string y0)).setCell (p := ⟨w.heap.size + 1, 1, none⟩) (Nat.le_succ _) (.slice v1 r1 n1)).setCell (p := ⟨w.heap.size + 1, 2, none⟩) (Nat.le_succ _) (.string y2)).setCell (p := ⟨w.heap.size + 1, 3, none⟩) (Nat.le_succ _) (.bool y3)).setCell (p := ⟨w.heap.size + 1, 4, none⟩) (Nat.le_succ _) (.int .i64 y4)).setCell (p := ⟨w.heap.size + 1, 5, none⟩) (Nat.le_succ _) (.int .i64 y5)).setCell (p := ⟨w.heap.size + 1, 6, none⟩) (Nat.le_succ _) (.int .i64 y6)).setCell (p := ⟨w.heap.size + 1, 7, none⟩) (Nat.le_succ _) (.slice v7 r7 n7))))
            have HFX : Hid (findP j = some x) := Lib.hid (by rw [HF.out]; exact HST.out.1 x hx)
            have q0 := hbx6.p0
            have q1 := hbx6.p1
            have q2 := hbx6.p2
            have q3 := hbx6.p3
            have q4 := hbx6.p4
            have q5 := hbx6.p5
            have q6 := hbx6.p6
            have q7 := hbx6.p7
            have e0 := hbx6.free 0
            have e1 := hbx6.free 1
            have e2 := hbx6.free 2
            have e3 := hbx6.free 3
            have e4 := hbx6.free 4
            have e5 := hbx6.free 5
            have e6 := hbx6.free 6
            have e7 := hbx6.free 7
            clear hB5 hbw hal6 hbx6 hb6 hb5 hpx hx
            go_wp2_with fail
            refine ⟨rfl, .tuple #[.agg #[.string y0, .slice v1 r1 n1, .string y2, .bool y3, .int .i64 y4, .int .i64 y5, .int .i64 y6, .slice v7 r7 n7], .bool true], part_result2 (fn := Tryz.f28) (p := 2) (u := 3) rfl _ rfl HFIN.out.1, HFIN.out.2.2, ?_⟩
            exact Or.inl ⟨x, _, _, _, _, _, _, _, _, HFX.out, rfl, HFIN.out.2.1⟩
          · have hB5 : Below wr.heap.size wr w5 := HAL.out.trans (hb5.mono HAL.out.size)
            have hbw : Below w.heap.size w w5 := hb.out.trans (hB5.mono hb.out.size)
            have hal6 : Below w5.heap.size w5 (w5.alloc (.cells #[.string ⟨#[]⟩, .slice none 0 0, .string ⟨#[]⟩, .bool false, .int .i64 0, .int .i64 0, .int .i64 0, .slice none 0 0] 42)) := (Below.refl _ w5).alloc (Nat.le_refl _) _
            have HX6 := Lib.hid ((hbx.out.below hB5).below hal6)
            have HB6 := Lib.hid (hbw.trans (hal6.mono hbw.size))
            have HNX := Lib.hid (HST.out.2 hx)
            clear hB5 hbw hal6 hb5 hx
            unfold zS zL zB zI
            go_wp2_with fail
            go_roundw
            case rel => exact ⟨k + 1, by omega, by go_num, HNX, HX6, HB6⟩
            case measure => simp [intOf]; omega
        · obtain rfl : k = ks.length := by omega
          have gk : ¬ (ks.length : Int) < (ks.length : Int) := by omega
          have hbz := hbx.out
          have HFIN := Lib.hid (And.intro (hbz.setAll (.string ⟨#[]⟩) (.slice none 0 0) (.string ⟨#[]⟩) (.bool false) (.int .i64 0) (.int .i64 0) (.int .i64 0) (.slice none 0 0)) ((((((((hb.out.setCell (p := ⟨w.heap.size + 1, 0, none⟩) (Nat.le_succ _) (.string ⟨#[]⟩)).setCell (p := ⟨w.heap.size + 1, 1, none⟩) (Nat.le_succ _) (.slice none 0 0)).setCell (p := ⟨w.heap.size + 1, 2, none⟩) (Nat.le_succ _) (.string ⟨#[]⟩)).setCell (p := ⟨w.heap.size + 1, 3, none⟩) (Nat.le_succ _) (.bool false)).setCell (p := ⟨w.heap.size + 1, 4, none⟩) (Nat.le_succ _) (.int .i64 0)).setCell (p := ⟨w.heap.size + 1, 5, none⟩) (Nat.le_succ _) (.int .i64 0)).setCell (p := ⟨w.heap.size + 1, 6, none⟩) (Nat.le_succ _) (.int .i64 0)).setCell (p := ⟨w.heap.size + 1, 7, none⟩) (Nat.le_succ _) (.slice none 0 0)))
          have HFX : Hid (findP j = none) := Lib.hid (by rw [HF.out, ← HFE.out]; exact hno.out)
          have q0 := hbz.p0
          have q1 := hbz.p1
          have q2 := hbz.p2
          have q3 := hbz.p3
          have q4 := hbz.p4
          have q5 := hbz.p5
          have q6 := hbz.p6
          have q7 := hbz.p7
          have e0 := hbz.free 0
          have e1 := hbz.free 1
          have e2 := hbz.free 2
          have e3 := hbz.free 3
          have e4 := hbz.free 4
          have e5 := hbz.free 5
          have e6 := hbz.free 6
          have e7 := hbz.free 7
          clear hbz
          go_wp2_with fail
          refine ⟨rfl, .tuple #[.agg #[.string ⟨#[]⟩, .slice none 0 0, .string ⟨#[]⟩, .bool false, .int .i64 0, .int .i64 0, .int .i64 0, .slice none 0 0], .bool false], part_result2 (fn := Tryz.f28) (p := 2) (u := 3) rfl _ rfl HFIN.out.1, HFIN.out.2, ?_⟩
          exact Or.inr ⟨HFX.out, rfl⟩
/-- The first part that is to be read, of any part. -/
theorem find_any (Q : Nat → Prop) (j : P) : FindOk Q j := P.ind (M := FindOk Q) (fun j ih => find_ok Q j ih) j
end Go.Proofs.YtnnbbjdidbggmaaGreatDoor.Lk
namespace Go.Proofs.YtnnbbjdidbggmaaGreatDoor.Lk
open Go Go.RowKit Go.Joins Kit F0 Pt

/-- The headers of a whole message. -/
theorem head_any (s : ByteArray) (w : World) (hs : s.size ≤ 32768) (hE : Srch.Env w) :
    Calls Tryz.prog 37 #[.string s, .int .i64 0, .int .i64 (s.size : Int)] w fun e w' => ∃ v, e = .returned (.tuple #[v, .int .i64 ((headL s.data.toList 0 s.size).2 : Int)]) ∧
      FAt w' v (headL s.data.toList 0 s.size).1 ∧ Below w.heap.size w w' :=
  (split_some s 0 s.size w hs (Nat.zero_le _) (Nat.le_refl _) hE).mono (fun e w' h => by
    obtain ⟨v, he, hr, hb⟩ := h
    exact ⟨v, he, RowF.at hr, hb⟩)
/-- .. and their sizes. -/
theorem head_small (s : ByteArray) (hs : s.size ≤ 32768) : (∀ f ∈ (headL s.data.toList 0 s.size).1, f.1.length ≤ 1073741824 ∧ f.2.length ≤ 1073741824) ∧ (headL s.data.toList 0 s.size).1.length ≤ 1073741824 ∧ ∀ n, (fvL (headL s.data.toList 0 s.size).1 n).length ≤ 32768 := by
  have h := head_sizes (s := s.data.toList) (a := 0) (b := s.size) (by rw [Lib.size_eq]; exact Nat.le_refl _)
  rw [← Lib.size_eq] at h
  refine ⟨fun f hf => by have := h.1 f hf; omega, by omega, fun n => ?_⟩
  unfold fvL fstL
  cases e : List.find? (fun f => Tx.foldL f.1 == Tx.foldL n) (headL s.data.toList 0 s.size).1 with
  | none => simp
  | some f =>
    have := h.1 f (List.mem_of_find?_eq_some e)
    simp only
    omega

theorem gone_new {W0 : World} {B A : Nat} {l : List UInt8} {w : World} (h : GatB W0 B A l w) (o : Obj) : GoneB W0 B A l w (w.alloc o) :=
  gone_next (gone_refl h) ((Below.refl _ w).alloc (Nat.le_refl _) o)
/-- Adding texts that are laid now. -/
theorem add_new (W0 : World) {B : Nat} (A : Nat) (l : List UInt8) (ts : List ByteArray) (cs : Array Value) (n : Nat) (w : World) (h : GatB W0 B A l w) (hcs : cs.toList = ts.map .string) (hn : ts.length = n) (hn9 : n ≤ 1099511627776) (hl : l.length + (flatT ts).length ≤ 1099511627776) :
    Calls Tryz.prog 53 #[.slice (some ⟨w.heap.size, 0, none⟩) n n, .pointer (some ⟨A, 0, none⟩)] (w.alloc (.cells cs 9)) fun e w' => e = .returned (.tuple #[]) ∧ GoneB W0 B A (l ++ flatT ts) w w' :=
  (add_any W0 A l ts cs w.heap.size n n (0, 0) _ (gone_new h _).gat (Kit.fresh_block w cs _) hcs hn hn9 hl).mono (fun _ _ h' => ⟨h'.1, gone_trans (gone_new h _) h'.2⟩)

set_option maxHeartbeats 2000000 in
set_option maxRecDepth 100000 in
theorem readable_any (s : ByteArray) (w : World) (hs : s.size ≤ 1099511627) :
    Calls Tryz.prog 32 #[.string s] w fun e w' => e = .returned (.string ⟨(readL8 s.data.toList).toArray⟩) ∧ Below w.heap.size w w' := by
  cases hv : U8.validL s.data.toList
  · have HV := Lib.hid hv
    have HR : Hid (readL8 s.data.toList = Wd.latinL s.data.toList) := Lib.hid (by unfold readL8; rw [hv]; rfl)
    clear hv
    go_enter Tryz.func32, Tryz.ntmps32
    go_wp2_with fail
    refine (U8.valid_any s (by omega) w).mono ?_
    rintro e w' ⟨rfl, rfl⟩
    rw [HV.out]
    go_wp2_with fail
    refine (gather_any w).mono ?_
    rintro e w1 ⟨rfl, rfl⟩
    have H0 : Hid (Gat w w.heap.size (Wd.latinL (s.data.toList.take 0)) (w.alloc (.cells #[.slice none 0 0] 32))) := Lib.hid (by rw [List.take_zero]; exact gat_new w)
    go_wp2_with fail
    go_loopw [15] (fun i wr => ∃ k : Nat, k ≤ s.size ∧ i = .int .i64 (k : Int) ∧ Hid (Gat w w.heap.size (Wd.latinL (s.data.toList.take k)) wr)) (fun i _ => s.size - (intOf i).toNat)
    case atStart => exact ⟨0, Nat.zero_le _, rfl, H0⟩
    case round =>
      clear H0
      obtain ⟨k, hk, rfl, hG⟩ := hrel
      by_cases hlt : k < s.size
      · have gk : (k : Int) < (s.size : Int) := by omega
        have hr := Wd.latin_room s k
        have g0 := (s[k]).toNat_lt
        have hst := Lib.hid (Wd.latin_take s k hlt)
        have hp := Wd.putB_le (s[k].toNat : Int)
        obtain ⟨L, hL⟩ : ∃ L, Wd.latinL (s.data.toList.take k) = L := ⟨_, rfl⟩
        rw [hL] at hr hG hst
        clear hL
        go_wp2_with fail
        refine (U8.put_any (s[k].toNat : Int) wr).mono ?_
        rintro e w2 ⟨rfl, hb2⟩
        have hG2 := Lib.hid (hG.out.next hb2)
        obtain ⟨T, hT⟩ : ∃ T, U8.putB (s[k].toNat : Int) = T := ⟨_, rfl⟩
        have hTd : Hid (T.data.toList = U8.putL (s[k].toNat : Int)) := Lib.hid (by rw [← hT]; simp [U8.putB])
        rw [hT] at hp ⊢
        have hfl : (flatT [T]).length = T.size := by rw [flatT_cons, flatT_nil, List.append_nil, ← Lib.size_eq]
        clear hT
        go_wp2_with fail
        refine (add_new w w.heap.size L [T] #[.string T] 1 w2 hG2.out rfl rfl (by decide) (by omega)).mono ?_
        rintro e w3 ⟨rfl, hg3⟩
        have HG3 := Lib.hid hg3.gat
        clear hg3
        go_wp2_with fail
        go_roundw
        case rel =>
          refine ⟨k + 1, by omega, by go_num, ?_⟩
          rw [hst.out, ← hTd.out]
          have := HG3
          rw [flatT_cons, flatT_nil, List.append_nil] at this
          exact this
        case measure => simp [intOf]; omega
      · have gk : ¬ (k : Int) < (s.size : Int) := by omega
        rw [List.take_of_length_le (by rw [← Lib.size_eq]; omega)] at hG
        go_wp2_with fail
        refine (told_any w w.heap.size _ wr hG.out).mono ?_
        rintro e w4 ⟨rfl, rfl⟩
        have HB := Lib.hid hG.out.below
        go_wp2_with fail
        go_ret
        rw [HR.out]
        exact ⟨rfl, HB.out⟩
  · have HV := Lib.hid hv
    have HR : Hid (readL8 s.data.toList = s.data.toList) := Lib.hid (by unfold readL8; rw [hv]; rfl)
    clear hv
    go_enter Tryz.func32, Tryz.ntmps32
    go_wp2_with fail
    refine (U8.valid_any s (by omega) w).mono ?_
    rintro e w' ⟨rfl, rfl⟩
    rw [HV.out]
    go_wp2_with fail
    go_ret
    rw [HR.out]
    exact ⟨rfl, Below.refl _ _⟩

theorem dec_small {l : List UInt8} (h : l.length ≤ 32768) : (Wd.decW true l).length ≤ 65536 := by
  have := Wd.decW_len _ true l (Nat.le_refl _)
  omega
set_option maxHeartbeats 2000000 in
set_option maxRecDepth 100000 in
theorem subject_any (s : ByteArray) (w : World) (hs : s.size ≤ 32768) (hE : Srch.Env w) :
    Calls Tryz.prog 16 #[.string s] w fun e w' => e = .returned (.string ⟨(subjL s.data.toList).toArray⟩) ∧ Below w.heap.size w w' := by
  have HE := Lib.hid hE
  have HS : Hid (subjL s.data.toList = readL8 (Wd.decW true (fvL (headL s.data.toList 0 s.size).1 subjN))) := Lib.hid (by unfold subjL; rw [Lib.size_eq])
  have HSM := Lib.hid (head_small s hs)
  have HH := Lib.hid (head_any s w hs hE)
  obtain ⟨fs, hfs⟩ : ∃ fs, (headL s.data.toList 0 s.size).1 = fs := ⟨_, rfl⟩
  obtain ⟨bd, hbd⟩ : ∃ bd, (headL s.data.toList 0 s.size).2 = bd := ⟨_, rfl⟩
  rw [hfs] at HS HSM
  rw [hfs, hbd] at HH
  clear hfs hbd hE
  go_enter Tryz.func16, Tryz.ntmps16
  go_wp2_with fail
  refine HH.out.mono ?_
  rintro e w1 ⟨v, rfl, hF, hb1⟩
  obtain ⟨va, vc, rfl, _⟩ := hF.form
  have HF := Lib.hid hF
  clear hF
  go_wp2_with fail
  refine (first_call _ fs ⟨#[83, 117, 98, 106, 101, 99, 116]⟩ w1 HF.out HSM.out.1 (by decide) HSM.out.2.1).mono ?_
  rintro e w2 ⟨rfl, hb2⟩
  rw [show fvL fs (ByteArray.mk #[83, 117, 98, 106, 101, 99, 116]).data.toList = fvL fs subjN from rfl]
  have hvz := HSM.out.2.2 subjN
  obtain ⟨V, hV⟩ : ∃ V, fvL fs subjN = V := ⟨_, rfl⟩
  rw [hV] at hvz HS ⊢
  clear hV
  have HB2 := Lib.hid (hb1.trans (hb2.mono hb1.size))
  have HE2 := Lib.hid (HE.out.next HB2.out)
  clear hb1 hb2
  unfold sV
  go_wp2_with fail
  refine (Wd.decode_any ⟨V.toArray⟩ w2 (by rw [Lib.size_mk]; omega) HE2.out).mono ?_
  rintro e w3 ⟨rfl, hb3⟩
  rw [show (ByteArray.mk V.toArray).data.toList = V from rfl]
  have HB3 := Lib.hid (HB2.out.trans (hb3.mono HB2.out.size))
  have hdz := dec_small hvz
  clear hb3
  go_wp2_with fail
  refine (readable_any ⟨(Wd.decW true V).toArray⟩ w3 (by rw [Lib.size_mk]; omega)).mono ?_
  rintro e w4 ⟨rfl, hb4⟩
  rw [show (ByteArray.mk (Wd.decW true V).toArray).data.toList = Wd.decW true V from rfl]
  go_wp2_with fail
  go_ret
  rw [HS.out]
  exact ⟨rfl, HB3.out.trans (hb4.mono HB3.out.size)⟩
end Go.Proofs.YtnnbbjdidbggmaaGreatDoor.Lk
namespace Go.Proofs.YtnnbbjdidbggmaaGreatDoor.Lk
open Go Go.RowKit Go.Joins Go.Shelf Kit F0 Pt

attribute [local go_sem] Oper.semAt_some

/-! ### Plain -/
def stepN (j : P) (its : Bool) (n : Nat) : Option (P × Bool) :=
  if n = 0 then none else match j.kids[n - 1]? with
    | some k => some (k, its)
    | none => if n = 1 ∧ its = false then some (j, true) else none
def stepP (j : P) (its : Bool) (x : List UInt8) : Option (P × Bool) :=
  match Tx.numL x with
  | none => none
  | some n => stepN j its n
theorem step_none {j : P} {its : Bool} {x : List UInt8} (h : Tx.numL x = none) : stepP j its x = none := by unfold stepP; rw [h]
theorem step_some {j : P} {its : Bool} {x : List UInt8} {n : Nat} (h : Tx.numL x = some n) : stepP j its x = stepN j its n := by unfold stepP; rw [h]
theorem step_kid {j : P} {its : Bool} {m : Nat} (h : m < j.kids.length) : stepN j its (m + 1) = some (j.kids[m], its) := by
  unfold stepN
  rw [if_neg (by omega), Nat.add_sub_cancel, List.getElem?_eq_getElem h]
theorem step_past {j : P} {its : Bool} {m : Nat} (h : ¬ m < j.kids.length) : stepN j its (m + 1) = if m + 1 = 1 ∧ its = false then some (j, true) else none := by
  unfold stepN
  rw [if_neg (by omega), Nat.add_sub_cancel, List.getElem?_eq_none (by omega)]
theorem num_le {l : List UInt8} {n : Nat} (h : Tx.numL l = some n) : n ≤ 4294967295 := by
  unfold Tx.numL at h
  split at h
  · cases h
  · split at h
    · split at h
      · obtain rfl := Option.some.inj h
        assumption
      · cases h
    · cases h
def pathP : P → Bool → List (List UInt8) → Option P
  | j, _, [] => some j
  | j, its, x :: r => match stepP j its x with
    | none => none
    | some (k, i) => pathP k i r
/-- The part at the end of a path. -/
def partPL (j : P) (path : List UInt8) : Option P := pathP j false (pcsL path)
theorem pathP_cons {j k : P} {its i : Bool} {x : List UInt8} (h : stepP j its x = some (k, i)) (r : List (List UInt8)) : pathP j its (x :: r) = pathP k i r := by rw [pathP, h]
theorem pathP_none {j : P} {its : Bool} {x : List UInt8} (h : stepP j its x = none) (r : List (List UInt8)) : pathP j its (x :: r) = none := by rw [pathP, h]

/-! ### Memory -/
structure AtW (w : World) (N : Nat) (c0 c1 c2 c3 c4 c5 c6 c7 : Value) (its : Bool) (W : World) : Prop where
  p : Bx N c0 c1 c2 c3 c4 c5 c6 c7 W
  r : Bx (N + 1) (.string ⟨#[]⟩) (.slice none 0 0) (.string ⟨#[]⟩) (.bool false) (.int .i64 0) (.int .i64 0) (.int .i64 0) (.slice none 0 0) W
  o : Boxed W (N + 1 + 1) 4 (.bool false)
  i : Boxed W (N + 1 + 1 + 1) 4 (.bool its)
  b : Below w.heap.size w W
theorem bx_turn {G : Nat} {c0 c1 c2 c3 c4 c5 c6 c7 : Value} {W W' : World} {row : Option Nat} (h : Bx G c0 c1 c2 c3 c4 c5 c6 c7 W) (hg : W.grownBy W' row) (hr : some G ≠ row) : Bx G c0 c1 c2 c3 c4 c5 c6 c7 W' := h.same (hg.block G h.lt hr)
theorem AtW.turn {w : World} {N B : Nat} {c0 c1 c2 c3 c4 c5 c6 c7 : Value} {its : Bool} {W W' : World} {row : Option Nat} (h : AtW w N c0 c1 c2 c3 c4 c5 c6 c7 its W) (hN : N = w.heap.size) (hB : N ≤ B) (hg : W.grownBy W' row) (hr : Turn (N + 4) B W row) : AtW w N c0 c1 c2 c3 c4 c5 c6 c7 its W' := by
  have hne : ∀ {k : Nat} {cs : Array Value} {t : TypeId} {fz : Nat × Nat}, W.heap[k]? = some (.cells cs t fz) → k < N + 4 → some k ≠ row := fun hk hlt e => by
    rcases hr _ e.symm with rfl | ⟨_, o, ho, hc⟩
    · omega
    · rw [hk] at ho
      cases ho
      cases hc
  refine ⟨bx_turn h.p hg (hne h.p.blk (by omega)), bx_turn h.r hg (hne h.r.blk (by omega)), h.o.kept hg (hne h.o (by omega)), h.i.kept hg (hne h.i (by omega)), h.b.grown hg h.b.size (fun k e => ?_)⟩
  rcases hr k e with rfl | ⟨h1, _⟩ <;> omega
theorem kpS_set {n0 Ap C Av k o : Nat} {W : World} {v : Value} (h0 : n0 ≤ k) (h1 : k ≠ Ap) (h2 : k ≠ C) (h3 : k ≠ Av) : KpS n0 Ap C Av W (W.setCell ⟨k, o, none⟩ v) :=
  ⟨(Below.refl n0 W).setCell (p := ⟨k, o, none⟩) h0 v, fun Y h => by
    have hk : ∀ {A : Nat} {t : TypeId} {u : Value}, Boxed W A t u → k ≠ A → Boxed (W.setCell ⟨k, o, none⟩ v) A t u := fun hb hne => (Below.heap_setCell W ⟨k, o, none⟩ v _ (fun e => hne e.symm)).trans hb
    exact ⟨hk h.sep h1, hk h.rest h2, hk h.save h3⟩⟩
theorem kpS_refl {n0 Ap C Av : Nat} (W : World) : KpS n0 Ap C Av W W := ⟨Below.refl _ _, fun _ h => h⟩
/-- Eight stores into one block. -/
def set8 (W : World) (G : Nat) (d0 d1 d2 d3 d4 d5 d6 d7 : Value) : World :=
  (((((((W.setCell ⟨G, 0, none⟩ d0).setCell ⟨G, 1, none⟩ d1).setCell ⟨G, 2, none⟩ d2).setCell ⟨G, 3, none⟩ d3).setCell ⟨G, 4, none⟩ d4).setCell ⟨G, 5, none⟩ d5).setCell ⟨G, 6, none⟩ d6).setCell ⟨G, 7, none⟩ d7
theorem kpS_set8 {n0 Ap C Av G : Nat} {W : World} {d0 d1 d2 d3 d4 d5 d6 d7 : Value} (h0 : n0 ≤ G) (h1 : G ≠ Ap) (h2 : G ≠ C) (h3 : G ≠ Av) : KpS n0 Ap C Av W (set8 W G d0 d1 d2 d3 d4 d5 d6 d7) := by
  unfold set8
  exact (((((((kpS_set h0 h1 h2 h3).t (kpS_set h0 h1 h2 h3)).t (kpS_set h0 h1 h2 h3)).t (kpS_set h0 h1 h2 h3)).t (kpS_set h0 h1 h2 h3)).t (kpS_set h0 h1 h2 h3)).t (kpS_set h0 h1 h2 h3)).t (kpS_set h0 h1 h2 h3)
theorem others_set8 {G : Nat} (W : World) (d0 d1 d2 d3 d4 d5 d6 d7 : Value) : KeepsOthers W (set8 W G d0 d1 d2 d3 d4 d5 d6 d7) := by
  unfold set8
  exact (((((((KeepsOthers.setCell _ _ _).trans (KeepsOthers.setCell _ _ _)).trans (KeepsOthers.setCell _ _ _)).trans (KeepsOthers.setCell _ _ _)).trans (KeepsOthers.setCell _ _ _)).trans (KeepsOthers.setCell _ _ _)).trans (KeepsOthers.setCell _ _ _)).trans (KeepsOthers.setCell _ _ _)
theorem heap_set8 {G k : Nat} (W : World) (d0 d1 d2 d3 d4 d5 d6 d7 : Value) (h : k ≠ G) : (set8 W G d0 d1 d2 d3 d4 d5 d6 d7).heap[k]? = W.heap[k]? := by
  unfold set8
  rw [Below.heap_setCell _ _ _ _ h, Below.heap_setCell _ _ _ _ h, Below.heap_setCell _ _ _ _ h, Below.heap_setCell _ _ _ _ h, Below.heap_setCell _ _ _ _ h, Below.heap_setCell _ _ _ _ h, Below.heap_setCell _ _ _ _ h, Below.heap_setCell _ _ _ _ h]
theorem below_set8 {B G : Nat} {w W : World} (h : Below B w W) (hG : B ≤ G) (d0 d1 d2 d3 d4 d5 d6 d7 : Value) : Below B w (set8 W G d0 d1 d2 d3 d4 d5 d6 d7) := by
  unfold set8
  exact (((((((h.setCell (p := ⟨G, 0, none⟩) hG _).setCell (p := ⟨G, 1, none⟩) hG _).setCell (p := ⟨G, 2, none⟩) hG _).setCell (p := ⟨G, 3, none⟩) hG _).setCell (p := ⟨G, 4, none⟩) hG _).setCell (p := ⟨G, 5, none⟩) hG _).setCell (p := ⟨G, 6, none⟩) hG _).setCell (p := ⟨G, 7, none⟩) hG _
theorem AtW.kid {w : World} {N : Nat} {c0 c1 c2 c3 c4 c5 c6 c7 : Value} {its : Bool} {W : World} (h : AtW w N c0 c1 c2 c3 c4 c5 c6 c7 its W) (hN : N = w.heap.size) (d0 d1 d2 d3 d4 d5 d6 d7 : Value) : AtW w N d0 d1 d2 d3 d4 d5 d6 d7 its (set8 W N d0 d1 d2 d3 d4 d5 d6 d7) :=
  ⟨h.p.setAll _ _ _ _ _ _ _ _, h.r.same (heap_set8 _ _ _ _ _ _ _ _ _ (by omega)), (heap_set8 _ _ _ _ _ _ _ _ _ (by omega)).trans h.o, (heap_set8 _ _ _ _ _ _ _ _ _ (by omega)).trans h.i, below_set8 h.b (by omega) _ _ _ _ _ _ _ _⟩
theorem AtW.itself {w : World} {N : Nat} {c0 c1 c2 c3 c4 c5 c6 c7 : Value} {its : Bool} {W : World} (h : AtW w N c0 c1 c2 c3 c4 c5 c6 c7 its W) (hN : N = w.heap.size) (x : Bool) : AtW w N c0 c1 c2 c3 c4 c5 c6 c7 x (W.setCell ⟨N + 1 + 1 + 1, 0, none⟩ (.bool x)) :=
  ⟨h.p.same (Below.heap_setCell _ _ _ _ (fun e => by have e' : N = N + 1 + 1 + 1 := e; omega)), h.r.same (Below.heap_setCell _ _ _ _ (fun e => by have e' : N + 1 = N + 1 + 1 + 1 := e; omega)), (Below.heap_setCell _ _ _ _ (fun e => by have e' : N + 1 + 1 = N + 1 + 1 + 1 := e; omega)).trans h.o, h.i.set _, h.b.setCell (p := ⟨N + 1 + 1 + 1, 0, none⟩) (by show _ ≤ N + 1 + 1 + 1; omega) _⟩
/-- Where there is none: what the result's cells hold. -/
structure NoneW (w : World) (N : Nat) (W : World) : Prop where
  r : Bx (N + 1) (.string ⟨#[]⟩) (.slice none 0 0) (.string ⟨#[]⟩) (.bool false) (.int .i64 0) (.int .i64 0) (.int .i64 0) (.slice none 0 0) W
  o : Boxed W (N + 1 + 1) 4 (.bool false)
  b : Below w.heap.size w W
theorem AtW.gone {w : World} {N : Nat} {c0 c1 c2 c3 c4 c5 c6 c7 : Value} {its : Bool} {W : World} (h : AtW w N c0 c1 c2 c3 c4 c5 c6 c7 its W) (hN : N = w.heap.size) : NoneW w N ((set8 W (N + 1) (.string ⟨#[]⟩) (.slice none 0 0) (.string ⟨#[]⟩) (.bool false) (.int .i64 0) (.int .i64 0) (.int .i64 0) (.slice none 0 0)).setCell ⟨N + 1 + 1, 0, none⟩ (.bool false)) := by
  have ho : Boxed (set8 W (N + 1) (.string ⟨#[]⟩) (.slice none 0 0) (.string ⟨#[]⟩) (.bool false) (.int .i64 0) (.int .i64 0) (.int .i64 0) (.slice none 0 0)) (N + 1 + 1) 4 (.bool false) := (heap_set8 _ _ _ _ _ _ _ _ _ (by omega)).trans h.o
  have hr : Bx (N + 1) (.string ⟨#[]⟩) (.slice none 0 0) (.string ⟨#[]⟩) (.bool false) (.int .i64 0) (.int .i64 0) (.int .i64 0) (.slice none 0 0) (set8 W (N + 1) (.string ⟨#[]⟩) (.slice none 0 0) (.string ⟨#[]⟩) (.bool false) (.int .i64 0) (.int .i64 0) (.int .i64 0) (.slice none 0 0)) := h.r.setAll _ _ _ _ _ _ _ _
  have hb : Below w.heap.size w (set8 W (N + 1) (.string ⟨#[]⟩) (.slice none 0 0) (.string ⟨#[]⟩) (.bool false) (.int .i64 0) (.int .i64 0) (.int .i64 0) (.slice none 0 0)) := below_set8 h.b (by omega) _ _ _ _ _ _ _ _
  obtain ⟨V, hV⟩ : ∃ V, set8 W (N + 1) (.string ⟨#[]⟩) (.slice none 0 0) (.string ⟨#[]⟩) (.bool false) (.int .i64 0) (.int .i64 0) (.int .i64 0) (.slice none 0 0) = V := ⟨_, rfl⟩
  rw [hV] at ho hr hb ⊢
  exact ⟨hr.same (Below.heap_setCell _ _ _ _ (fun e => by have e' : N + 1 = N + 1 + 1 := e; omega)), ho.set _, hb.setCell (p := ⟨N + 1 + 1, 0, none⟩) (by show _ ≤ N + 1 + 1; omega) _⟩
theorem NoneW.turn {w : World} {N B : Nat} {W W' : World} {row : Option Nat} (h : NoneW w N W) (hN : N = w.heap.size) (hB : N ≤ B) (hg : W.grownBy W' row) (hr : Turn (N + 4) B W row) : NoneW w N W' := by
  have hne : ∀ {k : Nat} {cs : Array Value} {t : TypeId} {fz : Nat × Nat}, W.heap[k]? = some (.cells cs t fz) → k < N + 4 → some k ≠ row := fun hk hlt e => by
    rcases hr _ e.symm with rfl | ⟨_, o, ho, hc⟩
    · omega
    · rw [hk] at ho
      cases ho
      cases hc
  refine ⟨bx_turn h.r hg (hne h.r.blk (by omega)), h.o.kept hg (hne h.o (by omega)), h.b.grown hg h.b.size (fun k e => ?_)⟩
  rcases hr k e with rfl | ⟨h1, _⟩ <;> omega
theorem put_block {W : World} {D k : Nat} (h : k ≠ D) (o : Obj) : (W.putObj D o).heap[k]? = W.heap[k]? := World.putObj_heap_other h
/-- What lies behind both results' stores, the loop's block for deferred calls turned. -/
theorem AtW.full {w : World} {N D : Nat} {c0 c1 c2 c3 c4 c5 c6 c7 : Value} {its : Bool} {W : World} (h : AtW w N c0 c1 c2 c3 c4 c5 c6 c7 its W) (hN : N = w.heap.size) (hD : N + 7 ≤ D) (hK : W.heap[D]? = some (.deferred (some []))) (b : Bool) (d0 d1 d2 d3 d4 d5 d6 d7 : Value) :
    ((set8 W (N + 1) d0 d1 d2 d3 d4 d5 d6 d7).setCell ⟨N + 1 + 1, 0, none⟩ (.bool b)).heap[D]? = some (.deferred (some [])) ∧
      Bx (N + 1) d0 d1 d2 d3 d4 d5 d6 d7 (((set8 W (N + 1) d0 d1 d2 d3 d4 d5 d6 d7).setCell ⟨N + 1 + 1, 0, none⟩ (.bool b)).putObj D (.deferred none)) ∧
      Boxed (((set8 W (N + 1) d0 d1 d2 d3 d4 d5 d6 d7).setCell ⟨N + 1 + 1, 0, none⟩ (.bool b)).putObj D (.deferred none)) (N + 1 + 1) 4 (.bool b) ∧
      Below w.heap.size w (((set8 W (N + 1) d0 d1 d2 d3 d4 d5 d6 d7).setCell ⟨N + 1 + 1, 0, none⟩ (.bool b)).putObj D (.deferred none)) := by
  have ho : Boxed (set8 W (N + 1) d0 d1 d2 d3 d4 d5 d6 d7) (N + 1 + 1) 4 (.bool false) := (heap_set8 _ _ _ _ _ _ _ _ _ (by omega)).trans h.o
  have hr : Bx (N + 1) d0 d1 d2 d3 d4 d5 d6 d7 (set8 W (N + 1) d0 d1 d2 d3 d4 d5 d6 d7) := h.r.setAll _ _ _ _ _ _ _ _
  have hb : Below w.heap.size w (set8 W (N + 1) d0 d1 d2 d3 d4 d5 d6 d7) := below_set8 h.b (by omega) _ _ _ _ _ _ _ _
  have hk : (set8 W (N + 1) d0 d1 d2 d3 d4 d5 d6 d7).heap[D]? = some (.deferred (some [])) := (heap_set8 _ _ _ _ _ _ _ _ _ (by omega)).trans hK
  obtain ⟨V, hV⟩ : ∃ V, set8 W (N + 1) d0 d1 d2 d3 d4 d5 d6 d7 = V := ⟨_, rfl⟩
  rw [hV] at ho hr hb hk ⊢
  have hk2 : (V.setCell ⟨N + 1 + 1, 0, none⟩ (.bool b)).heap[D]? = some (.deferred (some [])) := (Below.heap_setCell _ _ _ _ (fun e => by have e' : D = N + 1 + 1 := e; omega)).trans hk
  have hb2 := hb.setCell (p := ⟨N + 1 + 1, 0, none⟩) (by show _ ≤ N + 1 + 1; omega) (.bool b)
  refine ⟨hk2, hr.same ?_, (put_block (by omega) _).trans (ho.set _), hb2.grown (grownBy_putObj' _ D _) hb2.size (fun k e => by cases e; omega)⟩
  rw [put_block (by omega)]
  exact Below.heap_setCell _ _ _ _ (fun e => by have e' : N + 1 = N + 1 + 1 := e; omega)
theorem NoneW.full {w : World} {N D : Nat} {W : World} (h : NoneW w N W) (hN : N = w.heap.size) (hD : N + 7 ≤ D) : NoneW w N (W.putObj D (.deferred none)) :=
  ⟨h.r.same (put_block (by omega) _), (put_block (by omega) _).trans h.o, h.b.grown (grownBy_putObj' _ D _) h.b.size (fun k e => by cases e; omega)⟩
end Go.Proofs.YtnnbbjdidbggmaaGreatDoor.Lk
namespace Go.Proofs.YtnnbbjdidbggmaaGreatDoor.Lk
open Go Go.RowKit Go.Joins Go.Shelf Kit F0 Pt

attribute [local go_sem] Oper.semAt_some

/-- What is read off where both results lie in variables. -/
theorem at_result (tmps : Array Value) {w : World} {N : Nat} {c0 c1 c2 c3 c4 c5 c6 c7 : Value} {b : Bool}
    (hp : tmps.getD 4 undef = .pointer (some ⟨N + 1, 0, none⟩)) (hq : tmps.getD 5 undef = .pointer (some ⟨N + 1 + 1, 0, none⟩)) (hb : Bx (N + 1) c0 c1 c2 c3 c4 c5 c6 c7 w) (ho : Boxed w (N + 1 + 1) 4 (.bool b)) :
    (results Tryz.f46 tmps).run Tryz.prog w = .ok (.tuple #[.agg #[c0, c1, c2, c3, c4, c5, c6, c7], .bool b]) w := by
  have h2 := ho.cell
  have hp' : tmps[4]?.getD undef = .pointer (some ⟨N + 1, 0, none⟩) := by simpa using hp
  have hq' : tmps[5]?.getD undef = .pointer (some ⟨N + 1 + 1, 0, none⟩) := by simpa using hq
  have e0 := hb.p0
  have e1 := hb.p1
  have e2 := hb.p2
  have e3 := hb.p3
  have e4 := hb.p4
  have e5 := hb.p5
  have e6 := hb.p6
  have e7 := hb.p7
  simp [results, Tryz.f46, hp', hq', go_sem, h2, e0, e1, e2, e3, e4, e5, e6, e7]
def world4 (s : ByteArray) (c0 c1 c2 c3 c4 c5 c6 c7 : Value) (w : World) : World :=
  ((((((w.alloc (.cells #[c0, c1, c2, c3, c4, c5, c6, c7] 42)).alloc (.cells #[.string ⟨#[]⟩, .slice none 0 0, .string ⟨#[]⟩, .bool false, .int .i64 0, .int .i64 0, .int .i64 0, .slice none 0 0] 42)).alloc (.cells #[.bool false] 4)).alloc (.cells #[.bool false] 4)).alloc (.cells #[.string s] 9)).alloc (.cells #[.string ⟨#[46]⟩] 9)).alloc (.cells #[.int .i64 0] 3)
theorem boxed_at' {W : World} {n : Nat} (h : W.heap.size = n) (t : TypeId) (v : Value) : Boxed (W.alloc (.cells #[v] t)) n t v := by
  subst h
  exact Boxed.new W t v
theorem world4_at (s : ByteArray) (c0 c1 c2 c3 c4 c5 c6 c7 : Value) (w : World) (N : Nat) (hN : w.heap.size = N) :
    AtW w N c0 c1 c2 c3 c4 c5 c6 c7 false (world4 s c0 c1 c2 c3 c4 c5 c6 c7 w) ∧ SpB (N + 5) (N + 4) (N + 6) s (world4 s c0 c1 c2 c3 c4 c5 c6 c7 w) ∧ (world4 s c0 c1 c2 c3 c4 c5 c6 c7 w).heap.size = N + 7 := by
  subst hN
  have bx : ∀ {W : World} {G : Nat} {d0 d1 d2 d3 d4 d5 d6 d7 : Value} (o : Obj), Bx G d0 d1 d2 d3 d4 d5 d6 d7 W → Bx G d0 d1 d2 d3 d4 d5 d6 d7 (W.alloc o) := fun o h => h.below ((Below.refl _ _).alloc (Nat.le_refl _) o)
  unfold world4
  refine ⟨⟨?_, ?_, ?_, ?_, ?_⟩, ⟨?_, ?_, ?_⟩, ?_⟩
  · exact bx _ (bx _ (bx _ (bx _ (bx _ (bx _ (Bx.made w _ _ _ _ _ _ _ _))))))
  · exact bx _ (bx _ (bx _ (bx _ (bx _ (Bx.madeAt (World.size_alloc _ _) _ _ _ _ _ _ _ _)))))
  · exact ((((boxed_at' (by simp) _ _).alloc _).alloc _).alloc _).alloc _
  · exact (((boxed_at' (by simp) _ _).alloc _).alloc _).alloc _
  · exact (((((((Below.refl _ w).alloc (Nat.le_refl _) _).alloc (by simp) _).alloc (by simp; omega) _).alloc (by simp; omega) _).alloc (by simp; omega) _).alloc (by simp; omega) _).alloc (by simp; omega) _
  · exact (boxed_at' (by simp) _ _).alloc _
  · exact ((boxed_at' (by simp) _ _).alloc _).alloc _
  · exact boxed_at' (by simp) _ _
  · simp

set_option maxHeartbeats 4000000 in
set_option maxRecDepth 100000 in
theorem partAt_any (Q : Nat → Prop) (j : P) (s : ByteArray) (w : World) (c0 c1 c2 c3 c4 c5 c6 c7 : Value) (hs : s.size ≤ 1000000) (hc : PartAt Q w j (.agg #[c0, c1, c2, c3, c4, c5, c6, c7])) (hE : Srch.Env w) :
    Calls Tryz.prog 46 #[.agg #[c0, c1, c2, c3, c4, c5, c6, c7], .string s] w fun e w' => Below w.heap.size w w' ∧
      ((∃ x d0 d1 d2 d3 d4 d5 d6 d7, partPL j s.data.toList = some x ∧ e = .returned (.tuple #[.agg #[d0, d1, d2, d3, d4, d5, d6, d7], .bool true]) ∧ PartAt Q w x (.agg #[d0, d1, d2, d3, d4, d5, d6, d7])) ∨
        (partPL j s.data.toList = none ∧ e = .returned (.tuple #[.agg #[.string ⟨#[]⟩, .slice none 0 0, .string ⟨#[]⟩, .bool false, .int .i64 0, .int .i64 0, .int .i64 0, .slice none 0 0], .bool false]))) := by
  obtain ⟨t0, a1, n1, m1, t2, t3, t4, t5, t6, a7, n7, m7, rfl, rfl, rfl, rfl, rfl, rfl, rfl, rfl⟩ := part_forms hc
  have HC := Lib.hid hc
  have HE := Lib.hid hE
  clear hc hE
  refine (callsIn_wide (n := 3)).1 ?_
  refine callsIn_of_wp_marks Tryz.func46 rfl trivial ?_ rfl
  simp only [Tryz.ntmps46, List.size_toArray, List.length_cons, List.length_nil, Nat.reduceAdd, Nat.reduceSub, Array.replicate_succ, Array.replicate_zero, List.push_toArray, List.append_toArray, List.nil_append, List.cons_append]
  gi_wp2_with fail
  refine ⟨trivial, ?_⟩
  refine (callsIn_wide.2 (split_seq s _)).mono ?_
  rintro e w1 ⟨rfl, rfl⟩
  obtain ⟨N, hN⟩ : ∃ N, w.heap.size = N := ⟨_, rfl⟩
  obtain ⟨hat, hsp, hsz⟩ := world4_at s (.string t0) (.slice a1 n1 m1) (.string t2) (.bool t3) (.int .i64 t4) (.int .i64 t5) (.int .i64 t6) (.slice a7 n7 m7) w N hN
  have HAT := Lib.hid hat
  have HSP := Lib.hid hsp
  clear hat hsp
  gi_wp2_with fail
  have hw0 : (((((((w.alloc (.cells #[.string t0, .slice a1 n1 m1, .string t2, .bool t3, .int .i64 t4, .int .i64 t5, .int .i64 t6, .slice a7 n7 m7] 42)).alloc (.cells #[.string ⟨#[]⟩, .slice none 0 0, .string ⟨#[]⟩, .bool false, .int .i64 0, .int .i64 0, .int .i64 0, .slice none 0 0] 42)).alloc (.cells #[.bool false] 4)).alloc (.cells #[.bool false] 4)).alloc (.cells #[.string s] 9)).alloc (.cells #[.string ⟨#[46]⟩] 9)).alloc (.cells #[.int .i64 0] 3)) = world4 s (.string t0) (.slice a1 n1 m1) (.string t2) (.bool t3) (.int .i64 t4) (.int .i64 t5) (.int .i64 t6) (.slice a7 n7 m7) w := rfl
  rw [hw0]
  clear hw0
  obtain ⟨W7, hW7⟩ : ∃ W7, world4 s (.string t0) (.slice a1 n1 m1) (.string t2) (.bool t3) (.int .i64 t4) (.int .i64 t5) (.int .i64 t6) (.slice a7 n7 m7) w = W7 := ⟨_, rfl⟩
  rw [hW7] at HAT HSP hsz ⊢
  have HNW : Hid (N = w.heap.size) := Lib.hid hN.symm
  clear hW7 hN
  refine range_cell (n := 3) (by omega) (gf := 152) (lb := #[.pointer (some ⟨N + 5, 0, none⟩), .pointer (some ⟨N + 4, 0, none⟩), .pointer (some ⟨N + 6, 0, none⟩)]) rfl (enters_of Tryz.func152 (by kernel_rfl) rfl)
    (encs := encF) (Kp := KpS N (N + 5) (N + 4) (N + 6)) (S := fun ys => ys.map decF = pcsL s.data.toList) (Sp := fun pre => pre.map decF <+: pcsL s.data.toList) (N := 1000002) (C := N + 4) (by omega)
    (fun l J Jx W hW hJ _ hY h0 => split1_in 2 (by omega) l N (N + 5) (N + 4) (N + 6) s hs (by omega) (by omega) (by omega) J Jx hJ hY W w (by
        have h1 := HAT.out.b
        rw [← HNW.out] at h1
        exact h1.trans (hW.mono (by omega))) (fun w' h => HE.out.next (by rw [← HNW.out]; exact h)) ⟨HSP.out.sep.kept (grown_below hW) (by simp), HSP.out.rest.kept (grown_below hW) (by simp), HSP.out.save.kept (grown_below hW) (by simp)⟩ h0)
    (fun h k => h.t k) (fun W l o o' hl h hc hw => kpS_put (w := W7) (by omega) l o o' hl h hc hw) (fun _ => rfl)
    (fun pre W => ∃ (j' : P) (its : Bool) (c0 c1 c2 c3 c4 c5 c6 c7 : Value), (∀ rest, pathP j false (pre.map decF ++ rest) = pathP j' its rest) ∧ PartAt Q w j' (.agg #[c0, c1, c2, c3, c4, c5, c6, c7]) ∧ AtW w N c0 c1 c2 c3 c4 c5 c6 c7 its W)
    (fun c pre W => c = .ret ∧ (∀ rest, pathP j false (pre.map decF ++ rest) = none) ∧ NoneW w N W)
    (fun pre W1 W2 row h hg hr => by
      obtain ⟨j', its, c0, c1, c2, c3, c4, c5, c6, c7, h1, h2, h3⟩ := h
      exact ⟨j', its, c0, c1, c2, c3, c4, c5, c6, c7, h1, h2, h3.turn HNW.out (by omega) hg hr⟩)
    (fun c pre W1 W2 row h hg hr => ⟨h.1, h.2.1, h.2.2.turn HNW.out (by omega) hg hr⟩)
    ⟨j, false, _, _, _, _, _, _, _, _, fun rest => rfl, HC.out, HAT.out⟩
    (fun x => { tmps := #[.agg #[.string t0, .slice a1 n1 m1, .string t2, .bool t3, .int .i64 t4, .int .i64 t5, .int .i64 t6, .slice a7 n7 m7], .string s, .pointer (some ⟨N, 0, none⟩), undef, .pointer (some ⟨N + 1, 0, none⟩), .pointer (some ⟨N + 1 + 1, 0, none⟩), .pointer (some ⟨N + 1 + 1 + 1, 0, none⟩), .string x.1, undef, undef, .string s,
      .func (.func 152) #[] #[.pointer (some ⟨N + 1 + 1 + 1 + 1 + 1, 0, none⟩), .pointer (some ⟨N + 1 + 1 + 1 + 1, 0, none⟩), .pointer (some ⟨N + 1 + 1 + 1 + 1 + 1 + 1, 0, none⟩)], .string x.1, undef, undef, undef, undef, undef, undef, undef, undef, undef, undef, undef, undef, undef, undef, undef, undef, undef, undef, undef, undef, undef, undef, undef, undef, undef, undef, undef, undef, undef, undef, undef, undef, undef, undef], defers := [] }) ?assign ?body ?done ?stop
  case assign =>
    intro l x W K hK
    dsimp only [encF]
    gi_wp2
    exact hK
  case body =>
    rintro l pre ⟨y, hy⟩ W ⟨j', its, c0, c1, c2, c3, c4, c5, c6, c7, hpath, hpart, hat⟩ hlt
    obtain ⟨ap, mp, ak, mk, e, hps, cs, hk1, hk2⟩ := part_cells hpart
    injection e with e
    injection e with e
    injection e with e0 e
    injection e with e1 e
    injection e with e2 e
    injection e with e3 e
    injection e with e4 e
    injection e with e5 e
    injection e with e6 e
    injection e with e7 e
    subst e0 e1 e2 e3 e4 e5 e6 e7
    have HPA := Lib.hid hpath
    have HPT := Lib.hid hpart
    have HW := Lib.hid hat
    have HGN := Lib.hid (hat.gone HNW.out)
    have HKC := Lib.hid (fun (i : Nat) (hi : i < j'.kids.length) => kid_cells hk1 hk2 i hi)
    have hc7 := hat.p.p7
    have hci := hat.i.cell
    have hfi := hat.i.frozen
    have hco := hat.o.cell
    have hfo := hat.o.frozen
    have q0 := hat.r.p0
    have q1 := hat.r.p1
    have q2 := hat.r.p2
    have q3 := hat.r.p3
    have q4 := hat.r.p4
    have q5 := hat.r.p5
    have q6 := hat.r.p6
    have q7 := hat.r.p7
    have f0 := hat.r.free 0
    have f1 := hat.r.free 1
    have f2 := hat.r.free 2
    have f3 := hat.r.free 3
    have f4 := hat.r.free 4
    have f5 := hat.r.free 5
    have f6 := hat.r.free 6
    have f7 := hat.r.free 7
    have hne1 : N + 1 ≠ N + 1 + 1 := by omega
    have hne2 : N + 1 + 1 ≠ N + 1 := by omega
    have HNUM := Lib.hid (Tx.number_any y W (by omega))
    obtain ⟨L, hL⟩ : ∃ L, j'.kids.length = L := ⟨_, rfl⟩
    rw [hL] at hc7
    have HL := Lib.hid hL
    have HX := Lib.hid hlt
    clear hpath hpart hat hps hk1 hk2 hL hlt
    cases hnum : Tx.numL y.data.toList with
    | none =>
      rw [hnum] at HNUM
      have HST : Hid (stepP j' its (decF ⟨y, hy⟩) = none) := Lib.hid (step_none hnum)
      clear hnum
      unfold Tx.numV at HNUM
      have HF : Hid (∀ rest, pathP j false ((pre ++ [(⟨y, hy⟩ : Fd)]).map decF ++ rest) = none) := Lib.hid (fun rest => by
        rw [List.map_append, List.append_assoc, HPA.out]
        exact pathP_none (HST.out) rest)
      gi_wp2_with fail
      refine ⟨trivial, ?_⟩
      refine (CallsIn.inRound l (callsIn_wide.2 HNUM.out)).mono ?_
      rintro e w1 ⟨rfl, rfl⟩
      gi_wp2_with fail
      exact ⟨((others_set8 _ _ _ _ _ _ _ _ _).trans (KeepsOthers.setCell _ _ _)).from _, rfl, HF.out, HGN.out⟩
    | some n =>
      rw [hnum] at HNUM
      have HSP2 : Hid (stepP j' its (decF ⟨y, hy⟩) = stepN j' its n) := Lib.hid (step_some hnum)
      have hn32 := num_le hnum
      clear hnum
      unfold Tx.numV at HNUM
      simp only [Option.getD_some, Option.isSome_some] at HNUM
      cases n with
      | zero =>
        have HST : Hid (stepP j' its (decF ⟨y, hy⟩) = none) := Lib.hid (by rw [HSP2.out]; rfl)
        clear HSP2
        have HF : Hid (∀ rest, pathP j false ((pre ++ [(⟨y, hy⟩ : Fd)]).map decF ++ rest) = none) := Lib.hid (fun rest => by
          rw [List.map_append, List.append_assoc, HPA.out]
          exact pathP_none (HST.out) rest)
        gi_wp2_with fail
        refine ⟨trivial, ?_⟩
        refine (CallsIn.inRound l (callsIn_wide.2 HNUM.out)).mono ?_
        rintro e w1 ⟨rfl, rfl⟩
        gi_wp2_with fail
        exact ⟨((others_set8 _ _ _ _ _ _ _ _ _).trans (KeepsOthers.setCell _ _ _)).from _, rfl, HF.out, HGN.out⟩
      | succ m =>
        rw [show ((m + 1 : Nat) : Int) = (m : Int) + 1 by omega] at HNUM
        have hm0 : ((m : Int) + 1 == 0) = false := by rw [beq_eq_false_iff_ne]; omega
        by_cases hml : m < L
        · have g1 : (m : Int) + 1 ≤ (L : Int) := by omega
          have hmk : m < j'.kids.length := by rw [HL.out]; exact hml
          have HST : Hid (stepP j' its (decF ⟨y, hy⟩) = some (j'.kids[m], its)) := Lib.hid (by rw [HSP2.out, step_kid hmk])
          obtain ⟨g, o, d0, d1, d2, d3, d4, d5, d6, d7, hak, hgl, u0, u1, u2, u3, u4, u5, u6, u7, hpk⟩ := HKC.out m hmk
          obtain ⟨x0, b1, l1, k1, x2, x3, x4, x5, x6, b7, l7, k7, rfl, rfl, rfl, rfl, rfl, rfl, rfl, rfl⟩ := part_forms hpk
          have up : ∀ {q : Nat} {v : Value}, w.cell? ⟨g, q, none⟩ = some v → W.cell? ⟨g, q, none⟩ = some v := fun h => by
            rw [HW.out.b.cell (p := ⟨g, _, none⟩) hgl]
            exact h
          have v0 := up u0
          have v1 := up u1
          have v2 := up u2
          have v3 := up u3
          have v4 := up u4
          have v5 := up u5
          have v6 := up u6
          have v7 := up u7
          have HPK := Lib.hid hpk
          subst hak
          have p0 := HW.out.p.p0
          have p1 := HW.out.p.p1
          have p2 := HW.out.p.p2
          have p3 := HW.out.p.p3
          have p4 := HW.out.p.p4
          have p5 := HW.out.p.p5
          have p6 := HW.out.p.p6
          have r0 := HW.out.p.free 0
          have r1 := HW.out.p.free 1
          have r2 := HW.out.p.free 2
          have r3 := HW.out.p.free 3
          have r4 := HW.out.p.free 4
          have r5 := HW.out.p.free 5
          have r6 := HW.out.p.free 6
          have r7 := HW.out.p.free 7
          clear HSP2 hpk u0 u1 u2 u3 u4 u5 u6 u7 up q0 q1 q2 q3 q4 q5 q6 q7 f0 f1 f2 f3 f4 f5 f6 f7
          gi_wp2_with fail
          refine ⟨trivial, ?_⟩
          refine (CallsIn.inRound l (callsIn_wide.2 HNUM.out)).mono ?_
          rintro e w1 ⟨rfl, rfl⟩
          gi_wp2_with fail
          exact ⟨(others_set8 _ _ _ _ _ _ _ _ _).from _, kpS_set8 (by omega) (by omega) (by omega) (by omega), _, its, _, _, _, _, _, _, _, _, fun rest => by
            rw [List.map_append, List.append_assoc, HPA.out]
            exact pathP_cons HST.out rest, HPK.out, HW.out.kid HNW.out _ _ _ _ _ _ _ _⟩
        · have g1 : ¬ (m : Int) + 1 ≤ (L : Int) := by omega
          have HNK : Hid (stepP j' its (decF ⟨y, hy⟩) = if m + 1 = 1 ∧ its = false then some (j', true) else none) := Lib.hid (by rw [HSP2.out, step_past (by rw [HL.out]; exact hml)])
          clear HSP2
          by_cases h1 : m = 0
          · subst h1
            cases its
            · have HST : Hid (stepP j' false (decF ⟨y, hy⟩) = some (j', true)) := Lib.hid (by rw [HNK.out, if_pos ⟨rfl, rfl⟩])
              have HPJ : Hid (∀ rest, pathP j false ((pre ++ [(⟨y, hy⟩ : Fd)]).map decF ++ rest) = pathP j' true rest) := Lib.hid (fun rest => by
                rw [List.map_append, List.append_assoc, HPA.out]
                exact pathP_cons HST.out rest)
              clear HNK
              gi_wp2_with fail
              refine ⟨trivial, ?_⟩
              refine (CallsIn.inRound l (callsIn_wide.2 HNUM.out)).mono ?_
              rintro e w1 ⟨rfl, rfl⟩
              gi_wp2_with fail
              exact ⟨(KeepsOthers.setCell _ _ _).from _, kpS_set (by omega) (by omega) (by omega) (by omega), j', true, _, _, _, _, _, _, _, _, HPJ.out, HPT.out, HW.out.itself HNW.out true⟩
            · have HST : Hid (stepP j' true (decF ⟨y, hy⟩) = none) := Lib.hid (by rw [HNK.out, if_neg (by simp)])
              clear HNK
              have HF : Hid (∀ rest, pathP j false ((pre ++ [(⟨y, hy⟩ : Fd)]).map decF ++ rest) = none) := Lib.hid (fun rest => by
                rw [List.map_append, List.append_assoc, HPA.out]
                exact pathP_none (HST.out) rest)
              gi_wp2_with fail
              refine ⟨trivial, ?_⟩
              refine (CallsIn.inRound l (callsIn_wide.2 HNUM.out)).mono ?_
              rintro e w1 ⟨rfl, rfl⟩
              gi_wp2_with fail
              exact ⟨((others_set8 _ _ _ _ _ _ _ _ _).trans (KeepsOthers.setCell _ _ _)).from _, rfl, HF.out, HGN.out⟩
          · have HST : Hid (stepP j' its (decF ⟨y, hy⟩) = none) := Lib.hid (by rw [HNK.out, if_neg (by omega)])
            have hm1 : ((m : Int) + 1 == 1) = false := by rw [beq_eq_false_iff_ne]; omega
            clear HNK
            have HF : Hid (∀ rest, pathP j false ((pre ++ [(⟨y, hy⟩ : Fd)]).map decF ++ rest) = none) := Lib.hid (fun rest => by
              rw [List.map_append, List.append_assoc, HPA.out]
              exact pathP_none (HST.out) rest)
            gi_wp2_with fail
            refine ⟨trivial, ?_⟩
            refine (CallsIn.inRound l (callsIn_wide.2 HNUM.out)).mono ?_
            rintro e w1 ⟨rfl, rfl⟩
            gi_wp2_with fail
            exact ⟨((others_set8 _ _ _ _ _ _ _ _ _).trans (KeepsOthers.setCell _ _ _)).from _, rfl, HF.out, HGN.out⟩
  case done =>
    rintro D ys W hD hys ⟨j', its, c0, c1, c2, c3, c4, c5, c6, c7, hpath, hpart, hat⟩ hK
    have hres : partPL j s.data.toList = some j' := by
      have h := hpath []
      rw [List.append_nil, hys] at h
      unfold partPL
      rw [h]
      rfl
    obtain ⟨x0, b1, l1, k1, x2, x3, x4, x5, x6, b7, l7, k7, rfl, rfl, rfl, rfl, rfl, rfl, rfl, rfl⟩ := part_forms hpart
    have p0 := hat.p.p0
    have p1 := hat.p.p1
    have p2 := hat.p.p2
    have p3 := hat.p.p3
    have p4 := hat.p.p4
    have p5 := hat.p.p5
    have p6 := hat.p.p6
    have p7 := hat.p.p7
    have q0 := hat.r.p0
    have q1 := hat.r.p1
    have q2 := hat.r.p2
    have q3 := hat.r.p3
    have q4 := hat.r.p4
    have q5 := hat.r.p5
    have q6 := hat.r.p6
    have q7 := hat.r.p7
    have f0 := hat.r.free 0
    have f1 := hat.r.free 1
    have f2 := hat.r.free 2
    have f3 := hat.r.free 3
    have f4 := hat.r.free 4
    have f5 := hat.r.free 5
    have f6 := hat.r.free 6
    have f7 := hat.r.free 7
    have hco := hat.o.cell
    have hfo := hat.o.frozen
    have hne1 : N + 1 ≠ N + 1 + 1 := by omega
    have hne2 : N + 1 + 1 ≠ N + 1 := by omega
    have HFULL := Lib.hid (hat.full HNW.out (by omega) hK true (.string x0) (.slice b1 l1 k1) (.string x2) (.bool x3) (.int .i64 x4) (.int .i64 x5) (.int .i64 x6) (.slice b7 l7 k7))
    have HRES := Lib.hid hres
    have HPT := Lib.hid hpart
    clear hpath hpart hat hK hres hys
    gi_wp2_with fail
    refine ⟨by simp, .inl ⟨_, _, rfl, run_takeDeferred HFULL.out.1, ?_⟩⟩
    refine ⟨.tuple #[.agg #[.string x0, .slice b1 l1 k1, .string x2, .bool x3, .int .i64 x4, .int .i64 x5, .int .i64 x6, .slice b7 l7 k7], .bool true], at_result _ rfl rfl HFULL.out.2.1 HFULL.out.2.2.1, HFULL.out.2.2.2, Or.inl ⟨j', _, _, _, _, _, _, _, _, HRES.out, rfl, HPT.out⟩⟩
  case stop =>
    rintro D c pre W hD hpre ⟨rfl, hno, hn⟩ hK
    have hres : partPL j s.data.toList = none := by
      obtain ⟨rest, hr⟩ := hpre
      unfold partPL
      rw [← hr]
      exact hno rest
    have HRES := Lib.hid hres
    have HN2 := Lib.hid (hn.full (D := D) HNW.out (by omega))
    have HK := Lib.hid hK
    clear hres hn hK hno hpre
    gi_wp2_with fail
    refine ⟨by simp, .inl ⟨_, _, rfl, run_takeDeferred HK.out, ?_⟩⟩
    refine ⟨.tuple #[.agg #[.string ⟨#[]⟩, .slice none 0 0, .string ⟨#[]⟩, .bool false, .int .i64 0, .int .i64 0, .int .i64 0, .slice none 0 0], .bool false], at_result _ rfl rfl HN2.out.r HN2.out.o, HN2.out.b, Or.inr ⟨HRES.out, rfl⟩⟩
end Go.Proofs.YtnnbbjdidbggmaaGreatDoor.Lk
namespace Go.Proofs.YtnnbbjdidbggmaaGreatDoor.Lk
open Go Go.RowKit Go.Joins Kit F0 Pt

set_option maxHeartbeats 1000000 in
set_option maxRecDepth 100000 in
theorem section_of (s spec : ByteArray) (a b : Nat) (w : World) (hs : s.size ≤ 32768) (hab : a ≤ b) (hb : b ≤ s.size)
    (hP : Calls Tryz.prog 22 #[.string s, .string spec] w fun e w' => e = .returned (.tuple #[.int .i64 (a : Int), .int .i64 (b : Int), .bool true]) ∧ Below w.heap.size w w') :
    Calls Tryz.prog 11 #[.string s, .string spec] w fun e w' => e = .returned (.tuple #[.string (s.extract a b), .bool true]) ∧ Below w.heap.size w w' := by
  have HP := Lib.hid hP
  have HX : Hid ((s.extract a b).size ≤ 281474976710656) := Lib.hid (by
    rw [ByteArray.size_extract]
    omega)
  have g1 : (a : Int) ≤ (b : Int) := by omega
  have g2 : (b : Int) ≤ (s.size : Int) := by omega
  clear hP
  go_enter Tryz.func11, Tryz.ntmps11
  go_wp2_with fail
  refine HP.out.mono ?_
  rintro e w1 ⟨rfl, hb1⟩
  go_wp2_with fail
  refine (U8.clone_any _ w1 HX.out).mono ?_
  rintro e w2 ⟨rfl, hb2⟩
  go_wp2_with fail
  go_ret2
  exact ⟨rfl, hb1.trans (hb2.mono hb1.size)⟩
set_option maxHeartbeats 1000000 in
set_option maxRecDepth 100000 in
theorem section_no (s spec : ByteArray) (x y : Value) (w : World)
    (hP : Calls Tryz.prog 22 #[.string s, .string spec] w fun e w' => e = .returned (.tuple #[x, y, .bool false]) ∧ Below w.heap.size w w') :
    Calls Tryz.prog 11 #[.string s, .string spec] w fun e w' => e = .returned (.tuple #[.string ⟨#[]⟩, .bool false]) ∧ Below w.heap.size w w' := by
  have HP := Lib.hid hP
  clear hP
  go_enter Tryz.func11, Tryz.ntmps11
  go_wp2_with fail
  refine HP.out.mono ?_
  rintro e w1 ⟨rfl, hb1⟩
  go_wp2_with fail
  go_ret2
  exact ⟨rfl, hb1⟩

set_option maxHeartbeats 1000000 in
set_option maxRecDepth 100000 in
theorem place_whole (s : ByteArray) (w : World) (hs : s.size ≤ 32768) (hE : Srch.Env w) :
    Calls Tryz.prog 22 #[.string s, .string ⟨#[]⟩] w fun e w' => e = .returned (.tuple #[.int .i64 ((0 : Nat) : Int), .int .i64 (s.size : Int), .bool true]) ∧ Below w.heap.size w w' := by
  have HH := Lib.hid (head_any s w hs hE)
  clear hE
  go_enter Tryz.func22, Tryz.ntmps22
  go_wp2_with fail
  refine HH.out.mono ?_
  rintro e w1 ⟨v, rfl, _, hb1⟩
  go_wp2_with fail
  go_ret3
  exact ⟨rfl, hb1⟩
set_option maxHeartbeats 1000000 in
set_option maxRecDepth 100000 in
theorem place_head (s : ByteArray) (w : World) (hs : s.size ≤ 32768) (hE : Srch.Env w) :
    Calls Tryz.prog 22 #[.string s, .string ⟨#[72, 69, 65, 68, 69, 82]⟩] w fun e w' => e = .returned (.tuple #[.int .i64 ((0 : Nat) : Int), .int .i64 ((headL s.data.toList 0 s.size).2 : Int), .bool true]) ∧ Below w.heap.size w w' := by
  have HH := Lib.hid (head_any s w hs hE)
  clear hE
  go_enter Tryz.func22, Tryz.ntmps22
  go_wp2_with fail
  refine HH.out.mono ?_
  rintro e w1 ⟨v, rfl, _, hb1⟩
  go_wp2_with fail
  go_ret3
  exact ⟨rfl, hb1⟩
set_option maxHeartbeats 1000000 in
set_option maxRecDepth 100000 in
theorem place_text (s : ByteArray) (w : World) (hs : s.size ≤ 32768) (hE : Srch.Env w) :
    Calls Tryz.prog 22 #[.string s, .string ⟨#[84, 69, 88, 84]⟩] w fun e w' => e = .returned (.tuple #[.int .i64 ((headL s.data.toList 0 s.size).2 : Int), .int .i64 (s.size : Int), .bool true]) ∧ Below w.heap.size w w' := by
  have HH := Lib.hid (head_any s w hs hE)
  clear hE
  go_enter Tryz.func22, Tryz.ntmps22
  go_wp2_with fail
  refine HH.out.mono ?_
  rintro e w1 ⟨v, rfl, _, hb1⟩
  go_wp2_with fail
  go_ret3
  exact ⟨rfl, hb1⟩
theorem body_in (s : ByteArray) : (headL s.data.toList 0 s.size).2 ≤ s.size := (split_in (s := s.data.toList) (a := 0) (b := s.size) (Nat.zero_le _) (by rw [Lib.size_eq]; exact Nat.le_refl _)).2
/-- The whole, the headers, the body. -/
theorem section_three (s : ByteArray) (w : World) (hs : s.size ≤ 32768) (hE : Srch.Env w) :
    (Calls Tryz.prog 11 #[.string s, .string ⟨#[]⟩] w fun e w' => e = .returned (.tuple #[.string (s.extract 0 s.size), .bool true]) ∧ Below w.heap.size w w') ∧
    (Calls Tryz.prog 11 #[.string s, .string ⟨#[72, 69, 65, 68, 69, 82]⟩] w fun e w' => e = .returned (.tuple #[.string (s.extract 0 (headL s.data.toList 0 s.size).2), .bool true]) ∧ Below w.heap.size w w') ∧
    (Calls Tryz.prog 11 #[.string s, .string ⟨#[84, 69, 88, 84]⟩] w fun e w' => e = .returned (.tuple #[.string (s.extract (headL s.data.toList 0 s.size).2 s.size), .bool true]) ∧ Below w.heap.size w w') :=
  ⟨section_of s _ 0 s.size w hs (Nat.zero_le _) (Nat.le_refl _) (place_whole s w hs hE), section_of s _ 0 _ w hs (Nat.zero_le _) (body_in s) (place_head s w hs hE), section_of s _ _ s.size w hs (body_in s) (Nat.le_refl _) (place_text s w hs hE)⟩
end Go.Proofs.YtnnbbjdidbggmaaGreatDoor.Lk
namespace Go.Proofs.YtnnbbjdidbggmaaGreatDoor.Lk
open Go Go.RowKit Go.Joins Kit F0 Pt

/-! ### Plain -/
def mimeL : List UInt8 := [46, 77, 73, 77, 69]
def headerL : List UInt8 := [72, 69, 65, 68, 69, 82]
def textL : List UInt8 := [84, 69, 88, 84]
/-- Where the octets begin and end that a spec calls. -/
def placeL (s spec : List UInt8) : Option (Nat × Nat) :=
  if spec = [] then some (0, s.length) else if spec = headerL then some (0, (Pt.headL s 0 s.length).2) else if spec = textL then some ((Pt.headL s 0 s.length).2, s.length) else
    match partPL (treeL s) (Lib.trimSuffix spec mimeL) with
    | none => none
    | some x => some (if Lib.hasSuffix spec mimeL then (x.hd, x.fm) else (x.fm, x.to))
theorem ins_wide {j : P} {a b c : Nat} (h : insL j a b) (hc : b ≤ c) : insL j a c := by
  obtain ⟨h1, h2, h3, h4, h5⟩ := ins_own h
  obtain ⟨ty, ps, enc, att, hh, f, t, kids⟩ := j
  exact ⟨h1, h2, h3, Nat.le_trans h4 hc, h5⟩
theorem kidsI_mem : ∀ (l : List P) (lo t : Nat) (_ : insL.kidsI l lo t) (k : P) (_ : k ∈ l), ∃ a, insL k a t
  | [], _, _, _, _, h => by cases h
  | x :: r, lo, t, hi, k, hk => by
    have hi' : insL x lo t ∧ insL.kidsI r x.to t := hi
    rcases List.mem_cons.1 hk with rfl | hk
    · exact ⟨lo, hi'.1⟩
    · exact kidsI_mem r x.to t hi'.2 k hk
theorem step_ins {j k : P} {its i : Bool} {x : List UInt8} {a b : Nat} (hj : insL j a b) (h : stepP j its x = some (k, i)) : ∃ a', insL k a' b := by
  unfold stepP at h
  split at h
  · cases h
  · rename_i n _
    unfold stepN at h
    split at h
    · cases h
    · split at h
      · rename_i y hy
        obtain ⟨rfl, rfl⟩ := Prod.mk.inj (Option.some.inj h)
        have ho := ins_own hj
        obtain ⟨a', ha⟩ := kidsI_mem _ _ _ ho.2.2.2.2 _ (List.mem_of_getElem? hy)
        exact ⟨a', ins_wide ha ho.2.2.2.1⟩
      · split at h
        · obtain ⟨rfl, rfl⟩ := Prod.mk.inj (Option.some.inj h)
          exact ⟨a, hj⟩
        · cases h
theorem path_ins : ∀ (xs : List (List UInt8)) (j : P) (its : Bool) (a b : Nat) (_ : insL j a b) (k : P) (_ : pathP j its xs = some k), ∃ a', insL k a' b
  | [], j, its, a, b, hj, k, h => by
    obtain rfl := Option.some.inj h
    exact ⟨a, hj⟩
  | x :: r, j, its, a, b, hj, k, h => by
    rw [pathP] at h
    split at h
    · cases h
    · rename_i y i hy
      obtain ⟨a', h'⟩ := step_ins hj hy
      exact path_ins r y i a' b h' k h
theorem place_in {s spec : List UInt8} {a b : Nat} (h : placeL s spec = some (a, b)) : a ≤ b ∧ b ≤ s.length := by
  have hh := split_in (s := s) (a := 0) (b := s.length) (Nat.zero_le _) (Nat.le_refl _)
  unfold placeL at h
  split at h
  · obtain ⟨rfl, rfl⟩ := Prod.mk.inj (Option.some.inj h)
    omega
  · split at h
    · obtain ⟨rfl, rfl⟩ := Prod.mk.inj (Option.some.inj h)
      exact ⟨Nat.zero_le _, hh.2⟩
    · split at h
      · obtain ⟨rfl, rfl⟩ := Prod.mk.inj (Option.some.inj h)
        exact ⟨hh.2, Nat.le_refl _⟩
      · split at h
        · cases h
        · rename_i x hx
          obtain ⟨a', hi⟩ := path_ins _ _ _ _ _ (tree_ins s) x hx
          have ho := ins_own hi
          have h' := Option.some.inj h
          split at h'
          · obtain ⟨rfl, rfl⟩ := Prod.mk.inj h'
            omega
          · obtain ⟨rfl, rfl⟩ := Prod.mk.inj h'
            omega

/-! ### The walk -/
theorem mime_any (spec : ByteArray) (w : World) (hs : spec.size ≤ 1000000) :
    Calls Tryz.prog 45 #[.string spec, .string ⟨#[46, 77, 73, 77, 69]⟩] w fun e w' => e = .returned (.tuple #[.string ⟨(Lib.trimSuffix spec.data.toList mimeL).toArray⟩, .bool (Lib.hasSuffix spec.data.toList mimeL)]) ∧ w = w' := by
  refine (Tryz.strings_CutSuffix spec ⟨#[46, 77, 73, 77, 69]⟩ w (by omega)).mono ?_
  rintro e w' ⟨rfl, rfl⟩
  exact ⟨rfl, rfl⟩
theorem trim_le (l p : List UInt8) : (Lib.trimSuffix l p).length ≤ l.length := by
  unfold Lib.trimSuffix
  split
  · rw [List.length_take]; omega
  · exact Nat.le_refl _
def PlcOut (s spec : List UInt8) (e : Ending) : Prop := match partPL (treeL s) (Lib.trimSuffix spec mimeL) with
  | none => e = .returned (.tuple #[.int .i64 0, .int .i64 0, .bool false])
  | some x => e = .returned (.tuple #[.int .i64 (((if Lib.hasSuffix spec mimeL then x.hd else x.fm) : Nat) : Int), .int .i64 (((if Lib.hasSuffix spec mimeL then x.fm else x.to) : Nat) : Int), .bool true])
theorem plc_some {s spec : List UInt8} {x : P} {e : Ending} (h : partPL (treeL s) (Lib.trimSuffix spec mimeL) = some x) (he : e = .returned (.tuple #[.int .i64 (((if Lib.hasSuffix spec mimeL then x.hd else x.fm) : Nat) : Int), .int .i64 (((if Lib.hasSuffix spec mimeL then x.fm else x.to) : Nat) : Int), .bool true])) : PlcOut s spec e := by
  unfold PlcOut
  rw [h]
  exact he
theorem plc_none {s spec : List UInt8} {e : Ending} (h : partPL (treeL s) (Lib.trimSuffix spec mimeL) = none) (he : e = .returned (.tuple #[.int .i64 0, .int .i64 0, .bool false])) : PlcOut s spec e := by
  unfold PlcOut
  rw [h]
  exact he
set_option maxHeartbeats 4000000 in
set_option maxRecDepth 100000 in
theorem place_path (s spec : ByteArray) (w : World) (hs : s.size ≤ 32768) (hsp : spec.size ≤ 1000000) (h0 : (spec.toList == []) = false) (h1 : (spec.toList == headerL) = false) (h2 : (spec.toList == textL) = false) (hE : Srch.Env w) :
    Calls Tryz.prog 22 #[.string s, .string spec] w fun e w' => Below w.heap.size w w' ∧
      PlcOut s.data.toList spec.data.toList e := by
  have HH := Lib.hid (head_any s w hs hE)
  have HE := Lib.hid hE
  have he : spec.toList.isEmpty = false := by
    cases e : spec.toList with
    | nil => rw [e] at h0; cases h0
    | cons c r => rfl
  unfold headerL at h1
  unfold textL at h2
  clear hE
  go_enter Tryz.func22, Tryz.ntmps22
  go_wp2_with fail
  refine HH.out.mono ?_
  rintro e w1 ⟨v, rfl, _, hb1⟩
  have HB1 := Lib.hid hb1
  clear hb1
  go_wp2_with fail
  refine (mime_any spec w1 hsp).mono ?_
  rintro e w' ⟨rfl, rfl⟩
  obtain ⟨q, hq⟩ : ∃ q : ByteArray, (⟨(Lib.trimSuffix spec.data.toList mimeL).toArray⟩ : ByteArray) = q := ⟨_, rfl⟩
  have hql : q.data.toList = Lib.trimSuffix spec.data.toList mimeL := by rw [← hq]
  have hqs : q.size ≤ 1000000 := by
    rw [Lib.size_eq, hql]
    have := trim_le spec.data.toList mimeL
    rw [← Lib.size_eq] at this
    omega
  rw [hq]
  have HPQ : Hid (partPL (treeL s.data.toList) q.data.toList = partPL (treeL s.data.toList) (Lib.trimSuffix spec.data.toList mimeL)) := Lib.hid (by rw [hql])
  have HT := Lib.hid (tree_any s w1 hs (HE.out.next HB1.out))
  clear hq hql
  go_wp2_with fail
  refine HT.out.mono ?_
  rintro e w2 ⟨c0, c1, c2, c3, c4, c5, c6, c7, rfl, hp, hb2⟩
  have HB2 := Lib.hid (HB1.out.trans (hb2.mono HB1.out.size))
  have HA := Lib.hid (partAt_any (fun g => w1.heap.size ≤ g) (treeL s.data.toList) q w2 c0 c1 c2 c3 c4 c5 c6 c7 hqs hp (HE.out.next HB2.out))
  clear hp hb2
  go_wp2_with fail
  refine HA.out.mono ?_
  rintro e w3 ⟨hb3, ⟨x, d0, d1, d2, d3, d4, d5, d6, d7, hx, rfl, hpx⟩ | ⟨hx, rfl⟩⟩
  · have HB3 := Lib.hid (HB2.out.trans (hb3.mono HB2.out.size))
    clear hb3
    obtain ⟨ap, mp, ak, mk, e, -, -, -, -⟩ := part_cells hpx
    injection e with e
    injection e with e
    injection e with e0 e
    injection e with e1 e
    injection e with e2 e
    injection e with e3 e
    injection e with e4 e
    injection e with e5 e
    injection e with e6 e
    injection e with e7 e
    subst e0 e1 e2 e3 e4 e5 e6 e7
    obtain ⟨ty, hty⟩ : ∃ b, x.ty = b := ⟨_, rfl⟩
    obtain ⟨np, hnp⟩ : ∃ b, x.ps.length = b := ⟨_, rfl⟩
    obtain ⟨enc, henc⟩ : ∃ b, x.enc = b := ⟨_, rfl⟩
    obtain ⟨att, hatt⟩ : ∃ b, x.att = b := ⟨_, rfl⟩
    obtain ⟨hd, hhd⟩ : ∃ b, x.hd = b := ⟨_, rfl⟩
    obtain ⟨fm, hfm⟩ : ∃ b, x.fm = b := ⟨_, rfl⟩
    obtain ⟨tt, htt⟩ : ∃ b, x.to = b := ⟨_, rfl⟩
    obtain ⟨nk, hnk⟩ : ∃ b, x.kids.length = b := ⟨_, rfl⟩
    have HFIN : Hid (∀ b, Lib.hasSuffix spec.data.toList mimeL = b → PlcOut s.data.toList spec.data.toList (.returned (.tuple #[.int .i64 ((cond b hd fm : Nat) : Int), .int .i64 ((cond b fm tt : Nat) : Int), .bool true]))) := Lib.hid (fun b hb => plc_some (by rw [← HPQ.out]; exact hx) (by rw [hhd, hfm, htt, hb]; cases b <;> rfl))
    rw [hty, hnp, henc, hatt, hhd, hfm, htt, hnk]
    unfold sV
    clear hpx hx hty hnp henc hatt hhd hfm htt hnk
    have hbx := Bx.made w3 (.string ⟨ty.toArray⟩) (.slice ap np mp) (.string ⟨enc.toArray⟩) (.bool att) (.int .i64 (hd : Int)) (.int .i64 (fm : Int)) (.int .i64 (tt : Int)) (.slice ak nk mk)
    have z4 := hbx.p4
    have z5 := hbx.p5
    have z6 := hbx.p6
    have HB4 := Lib.hid (HB3.out.alloc HB3.out.size (.cells #[.string ⟨ty.toArray⟩, .slice ap np mp, .string ⟨enc.toArray⟩, .bool att, .int .i64 (hd : Int), .int .i64 (fm : Int), .int .i64 (tt : Int), .slice ak nk mk] 42))
    clear hbx
    cases hsx : Lib.hasSuffix spec.data.toList mimeL
    · have HF2 := Lib.hid (HFIN.out _ hsx)
      clear hsx
      go_wp2_with fail
      go_region
      go_wp2_with fail
      go_ret3
      exact ⟨HB4.out.drew, HF2.out⟩
    · have HF2 := Lib.hid (HFIN.out _ hsx)
      clear hsx
      go_wp2_with fail
      go_region
      go_wp2_with fail
      go_ret3
      exact ⟨HB4.out.drew, HF2.out⟩
  · have HB3 := Lib.hid (HB2.out.trans (hb3.mono HB2.out.size))
    have HFIN : Hid (PlcOut s.data.toList spec.data.toList (.returned (.tuple #[.int .i64 0, .int .i64 0, .bool false]))) := Lib.hid (plc_none (by rw [← HPQ.out]; exact hx) rfl)
    clear hb3 hx
    have hbx := Bx.made w3 (.string ⟨#[]⟩) (.slice none 0 0) (.string ⟨#[]⟩) (.bool false) (.int .i64 0) (.int .i64 0) (.int .i64 0) (.slice none 0 0)
    have z4 := hbx.p4
    have z5 := hbx.p5
    have z6 := hbx.p6
    have HB4 := Lib.hid (HB3.out.alloc HB3.out.size (.cells #[.string ⟨#[]⟩, .slice none 0 0, .string ⟨#[]⟩, .bool false, .int .i64 0, .int .i64 0, .int .i64 0, .slice none 0 0] 42))
    clear hbx
    cases hsx : Lib.hasSuffix spec.data.toList mimeL
    · have HF2 := HFIN
      go_wp2_with fail
      go_region
      go_wp2_with fail
      go_ret3
      exact ⟨HB4.out.drew, HF2.out⟩
    · have HF2 := HFIN
      go_wp2_with fail
      go_region
      go_wp2_with fail
      go_ret3
      exact ⟨HB4.out.drew, HF2.out⟩
end Go.Proofs.YtnnbbjdidbggmaaGreatDoor.Lk
namespace Go.Proofs.YtnnbbjdidbggmaaGreatDoor.Lk
open Go Go.RowKit Go.Joins Kit F0 Pt

/-- What Section tells. -/
def secL (s spec : List UInt8) : Option (List UInt8) := (placeL s spec).map fun p => segL s p.1 p.2
def SecOut (s spec : List UInt8) (e : Ending) : Prop := match secL s spec with
  | none => e = .returned (.tuple #[.string ⟨#[]⟩, .bool false])
  | some t => e = .returned (.tuple #[.string ⟨t.toArray⟩, .bool true])
theorem sec_some {s spec t : List UInt8} {e : Ending} (h : secL s spec = some t) (he : e = .returned (.tuple #[.string ⟨t.toArray⟩, .bool true])) : SecOut s spec e := by
  unfold SecOut
  rw [h]
  exact he
theorem sec_none {s spec : List UInt8} {e : Ending} (h : secL s spec = none) (he : e = .returned (.tuple #[.string ⟨#[]⟩, .bool false])) : SecOut s spec e := by
  unfold SecOut
  rw [h]
  exact he
theorem ext_mk (s : ByteArray) (a b : Nat) : s.extract a b = ⟨(segL s.data.toList a b).toArray⟩ := Kit.bytes_ext (by
  show (s.extract a b).data.toList = segL s.data.toList a b
  exact ext_seg s a b)
theorem neq_list {s : ByteArray} {l : List UInt8} (h : s.data.toList ≠ l) : (s.toList == l) = false := by
  rw [beq_eq_false_iff_ne, Lib.toList_data]
  exact h
theorem section_any (s spec : ByteArray) (w : World) (hs : s.size ≤ 32768) (hsp : spec.size ≤ 1000000) (hE : Srch.Env w) :
    Calls Tryz.prog 11 #[.string s, .string spec] w fun e w' => Below w.heap.size w w' ∧ SecOut s.data.toList spec.data.toList e := by
  obtain ⟨k1, k2, k3⟩ := section_three s w hs hE
  have hz : s.size = s.data.toList.length := Lib.size_eq s
  by_cases h0 : spec.data.toList = []
  · obtain rfl : spec = ⟨#[]⟩ := Kit.bytes_ext h0
    refine k1.mono ?_
    rintro e w' ⟨rfl, hb⟩
    exact ⟨hb, sec_some (t := segL s.data.toList 0 s.data.toList.length) rfl (by rw [ext_mk, hz])⟩
  by_cases h1 : spec.data.toList = headerL
  · obtain rfl : spec = ⟨#[72, 69, 65, 68, 69, 82]⟩ := Kit.bytes_ext h1
    refine k2.mono ?_
    rintro e w' ⟨rfl, hb⟩
    refine ⟨hb, sec_some (t := segL s.data.toList 0 (Pt.headL s.data.toList 0 s.size).2) ?_ (by rw [ext_mk])⟩
    rw [hz]
    rfl
  by_cases h2 : spec.data.toList = textL
  · obtain rfl : spec = ⟨#[84, 69, 88, 84]⟩ := Kit.bytes_ext h2
    refine k3.mono ?_
    rintro e w' ⟨rfl, hb⟩
    refine ⟨hb, sec_some (t := segL s.data.toList (Pt.headL s.data.toList 0 s.size).2 s.size) ?_ (by rw [ext_mk])⟩
    rw [hz]
    rfl
  have HP := place_path s spec w hs hsp (neq_list h0) (neq_list h1) (neq_list h2) hE
  cases hx : partPL (treeL s.data.toList) (Lib.trimSuffix spec.data.toList mimeL) with
  | none =>
    have hpl : placeL s.data.toList spec.data.toList = none := by
      unfold placeL
      rw [if_neg h0, if_neg h1, if_neg h2, hx]
    refine (section_no s spec (.int .i64 0) (.int .i64 0) w (HP.mono ?_)).mono ?_
    · rintro e w' ⟨hb, he⟩
      unfold PlcOut at he
      rw [hx] at he
      exact ⟨he, hb⟩
    · rintro e w' ⟨rfl, hb⟩
      exact ⟨hb, sec_none (by unfold secL; rw [hpl]; rfl) rfl⟩
  | some x =>
    have hpl : placeL s.data.toList spec.data.toList = some (if Lib.hasSuffix spec.data.toList mimeL then (x.hd, x.fm) else (x.fm, x.to)) := by
      unfold placeL
      rw [if_neg h0, if_neg h1, if_neg h2, hx]
    obtain ⟨a, b, hab⟩ : ∃ a b, (if Lib.hasSuffix spec.data.toList mimeL then (x.hd, x.fm) else (x.fm, x.to)) = (a, b) := ⟨_, _, rfl⟩
    have ha : (if Lib.hasSuffix spec.data.toList mimeL then x.hd else x.fm) = a ∧ (if Lib.hasSuffix spec.data.toList mimeL then x.fm else x.to) = b := by
      split at hab <;> (obtain ⟨rfl, rfl⟩ := Prod.mk.inj hab)
      · rename_i h
        rw [if_pos h, if_pos h]
        exact ⟨rfl, rfl⟩
      · rename_i h
        rw [if_neg h, if_neg h]
        exact ⟨rfl, rfl⟩
    have hpl' : placeL s.data.toList spec.data.toList = some (a, b) := by rw [hpl, ← hab]
    have hin := place_in hpl'
    refine (section_of s spec a b w hs hin.1 (by rw [hz]; exact hin.2) (HP.mono ?_)).mono ?_
    · rintro e w' ⟨hb, he⟩
      unfold PlcOut at he
      rw [hx] at he
      refine ⟨?_, hb⟩
      rw [he, ha.1, ha.2]
    · rintro e w' ⟨rfl, hb⟩
      exact ⟨hb, sec_some (t := segL s.data.toList a b) (by unfold secL; rw [hpl']; rfl) (by rw [ext_mk])⟩
end Go.Proofs.YtnnbbjdidbggmaaGreatDoor.Lk
namespace Go.Proofs.YtnnbbjdidbggmaaGreatDoor.Lk
open Go F0 Pt

theorem dig_dot (u : Nat) : ∀ c ∈ Lib.decDigits u, c ≠ 46 := fun c hc e => by
  have h : ∀ (u : Nat), ∀ c ∈ Lib.decDigits u, Tx.isDig c = true := fun u => by
    induction u using Nat.strongRecOn with
    | _ u ih =>
      intro c hc
      by_cases h : u < 10
      · rw [Lib.decDigits_one h, List.mem_singleton] at hc
        rw [hc]
        exact (Tx.isDig_ofNat h).1
      · rw [Lib.decDigits, dif_neg h, List.mem_append, List.mem_singleton] at hc
        rcases hc with hc | rfl
        · exact ih (u / 10) (by omega) c hc
        · exact (Tx.isDig_ofNat (Nat.mod_lt _ (by decide))).1
  have := h u c hc
  rw [e] at this
  cases this
/-- How a spec of a number below 30 is read. -/
theorem spec_all : ∀ u, u < 30 → Lib.decDigits u ≠ [] ∧ Lib.decDigits u ≠ headerL ∧ Lib.decDigits u ≠ textL ∧ Lib.hasSuffix (Lib.decDigits u) mimeL = false ∧ Lib.trimSuffix (Lib.decDigits u) mimeL = Lib.decDigits u ∧
    Lib.decDigits u ++ mimeL ≠ headerL ∧ Lib.decDigits u ++ mimeL ≠ textL ∧ Lib.hasSuffix (Lib.decDigits u ++ mimeL) mimeL = true ∧ Lib.trimSuffix (Lib.decDigits u ++ mimeL) mimeL = Lib.decDigits u ∧
    Lib.decDigits u ++ [46, 49] ≠ headerL ∧ Lib.decDigits u ++ [46, 49] ≠ textL ∧ Lib.hasSuffix (Lib.decDigits u ++ [46, 49]) mimeL = false ∧ Lib.trimSuffix (Lib.decDigits u ++ [46, 49]) mimeL = Lib.decDigits u ++ [46, 49] ∧ Tx.numL (Lib.decDigits u) = some u := by decide +kernel
theorem one_num : Tx.numL [49] = some 1 := by decide +kernel
theorem part_no (T : P) {u : Nat} (hu : u < 30) (h : ¬ u < T.kids.length + 1) (h2 : u ≠ 1) : partPL T (Lib.decDigits u) = none := by
  have hs := (spec_all u hu).2.2.2.2.2.2.2.2.2.2.2.2.2
  obtain ⟨m, rfl⟩ : ∃ m, u = m + 1 := ⟨u - 1, by omega⟩
  unfold partPL
  rw [pcs_no (dig_dot _)]
  exact pathP_none (by rw [step_some hs, step_past (by omega), if_neg (by omega)]) _
theorem part_zero (T : P) : partPL T [48] = none := by
  unfold partPL
  rw [show pcsL [48] = [[48]] by decide]
  exact pathP_none (by rw [step_some (n := 0) (by decide +kernel)]; rfl) _
theorem part_one {T : P} {m : Nat} (hu : m + 1 < 30) (h : m < T.kids.length) : partPL T (Lib.decDigits (m + 1)) = some T.kids[m] := by
  have hs := (spec_all (m + 1) hu).2.2.2.2.2.2.2.2.2.2.2.2.2
  unfold partPL
  rw [pcs_no (dig_dot _), pathP_cons (by rw [step_some hs, step_kid h])]
  rfl
theorem part_two {T : P} {m : Nat} (hu : m + 1 < 30) (h : m < T.kids.length) (hk : T.kids[m].kids = []) : partPL T (Lib.decDigits (m + 1) ++ [46, 49]) = some T.kids[m] := by
  have hs := (spec_all (m + 1) hu).2.2.2.2.2.2.2.2.2.2.2.2.2
  unfold partPL
  rw [pcs_at (dig_dot _), pathP_cons (by rw [step_some hs, step_kid h]), show pcsL [49] = [[49]] by decide, pathP_cons (k := T.kids[m]) (i := true) (by rw [step_some one_num, step_past (m := 0) (by rw [hk]; simp), if_pos ⟨rfl, rfl⟩])]
  rfl
/-- The sections of the text that the law puts together. -/
theorem pts_sec {cs : List (List UInt8 × List UInt8)} (hp : ∀ x ∈ cs, ∃ i, i < 21 ∧ x.1 = ptP i) (hc : ∀ x ∈ cs, Pure x.2) (h0 : cs ≠ []) (hn : cs.length ≤ 20) :
    (∀ (m : Nat) (h : m < cs.length), secL (ptS cs) (Lib.decDigits (m + 1)) = some cs[m].2 ∧ secL (ptS cs) (Lib.decDigits (m + 1) ++ mimeL) = some cs[m].1 ∧ secL (ptS cs) (Lib.decDigits (m + 1) ++ [46, 49]) = some cs[m].2) ∧
      secL (ptS cs) (Lib.decDigits (cs.length + 1)) = none ∧ secL (ptS cs) [48] = none := by
  obtain ⟨s, hs⟩ : ∃ s, ptS cs = s := ⟨_, rfl⟩
  obtain ⟨T, hT⟩ : ∃ T, treeL s = T := ⟨_, rfl⟩
  obtain ⟨hl, hk⟩ := pts_tree hp hc (by omega) s hs T hT
  have hpos : 0 < cs.length := List.length_pos_iff.2 h0
  rw [hs]
  refine ⟨fun m h => ?_, ?_, ?_⟩
  · have hm : m < T.kids.length := by omega
    obtain ⟨k1, k2, k3⟩ := hk m h hm
    obtain ⟨a1, a2, a3, a4, a5, a6, a7, a8, a9, b1, b2, b3, b4, _⟩ := spec_all (m + 1) (by omega)
    have p1 := part_one (T := T) (m := m) (by omega) hm
    have p2 := part_two (T := T) (m := m) (by omega) hm k1
    refine ⟨?_, ?_, ?_⟩
    · unfold secL placeL
      rw [if_neg a1, if_neg a2, if_neg a3, a5, hT, p1, a4]
      exact congrArg some k3
    · unfold secL placeL
      rw [if_neg (by simp [mimeL]), if_neg a6, if_neg a7, a9, hT, p1, a8]
      exact congrArg some k2
    · unfold secL placeL
      rw [if_neg (by simp), if_neg b1, if_neg b2, b4, hT, p2, b3]
      exact congrArg some k3
  · obtain ⟨a1, a2, a3, a4, a5, _⟩ := spec_all (cs.length + 1) (by omega)
    unfold secL placeL
    rw [if_neg a1, if_neg a2, if_neg a3, a5, hT, part_no T (by omega) (by omega) (by omega)]
    rfl
  · unfold secL placeL
    rw [if_neg (by decide), if_neg (by decide), if_neg (by decide), show Lib.trimSuffix [48] mimeL = [48] by decide, hT, part_zero]
    rfl
end Go.Proofs.YtnnbbjdidbggmaaGreatDoor.Lk
namespace Go.Proofs.YtnnbbjdidbggmaaGreatDoor.Apm
open Go Go.RowKit Go.Joins

/-- Writing cells into a row of which no cell from there on is frozen. -/
theorem put_cells (P : Program) (g : Nat) (t : TypeId) (fz : Nat × Nat) : ∀ (vs : List Value) (k i : Nat) (cur : Array Value) (w : World), w.heap[g]? = some (.cells cur t fz) → (fz.2 = 0 ∨ cur.size ≤ fz.1) → k + i + vs.length ≤ cur.size → (∀ v ∈ vs, v.oneCell' = true) →
    ∃ cs : Array Value, (storeCells ⟨g, k, none⟩ vs i).run P w = .ok () (w.setRow g cs) ∧ cs.toList = cur.toList.take (k + i) ++ vs ++ cur.toList.drop (k + i + vs.length)
  | [], k, i, cur, w, hg, _, _, _ => ⟨cur, by rw [setRow_self w g cur t fz hg]; rfl, by simp⟩
  | v :: rest, k, i, cur, w, hg, hfz, hl, h1 => by
    have hl' : k + i + (rest.length + 1) ≤ cur.size := hl
    have hi : k + i < cur.size := by omega
    have e1 : (⟨g, k, none⟩ : Addr).add i = ⟨g, k + i, none⟩ := by simp [Addr.add]
    have e2 : w.cell? ⟨g, k + i, none⟩ = some cur[k + i] := by simp [World.cell?, hg, hi]
    have e3 : w.frozen? ⟨g, k + i, none⟩ = false := by
      obtain ⟨a, b⟩ := fz
      simp only at hfz
      simp only [World.frozen?, hg, Bool.and_eq_false_iff, decide_eq_false_iff_not]
      omega
    have e4 : (store ((⟨g, k, none⟩ : Addr).add i) v).run P w = .ok () (w.setRow g (cur.setIfInBounds (k + i) v)) := by
      rw [e1, run_store P w _ v _ (h1 v List.mem_cons_self), e2]
      simp [e3, setCell_eq_setRow w g (k + i) cur t fz v hg]
    obtain ⟨cs, r1, r2⟩ := put_cells P g t fz rest k (i + 1) (cur.setIfInBounds (k + i) v) (w.setRow g (cur.setIfInBounds (k + i) v)) (setRow_heap w g cur _ t _ hg) (by rw [Array.size_setIfInBounds]; exact hfz) (by rw [Array.size_setIfInBounds]; omega) fun x hx => h1 x (List.mem_cons_of_mem _ hx)
    refine ⟨cs, ?_, ?_⟩
    · simp only [storeCells, Sem.run_bind, e4, Result.andThen_ok, r1, setRow_setRow]
    · rw [r2, Array.toList_setIfInBounds]
      have := list_seg_step cur.toList (k + i) v rest (by rw [Array.length_toList]; omega)
      rw [List.length_cons, ← Nat.add_assoc k i 1, this]

/-- A slice of bytes of the call's own, its bytes; what bears a mark lies behind its row. -/
structure RowM (B : Nat) (w : World) (v : Value) (l : List UInt8) : Prop where
  ex : ∃ g cap cur fz, v = .slice (some ⟨g, 0, none⟩) l.length cap ∧ B ≤ g ∧ w.heap[g]? = some (.cells cur 5 fz) ∧ (fz.2 = 0 ∨ cur.size ≤ fz.1) ∧ cur.size = cap ∧ l.length ≤ cap ∧ cur.toList.take l.length = Lib.byteCells l
/-- What a slice of bytes anywhere reads as. -/
def At (w : World) (v : Value) (l : List UInt8) : Prop := (v = .slice none 0 0 ∧ l = []) ∨ ∃ ad cap, v = .slice (some ad) l.length cap ∧ ∀ j (h : j < l.length), w.cell? (ad.add j) = some (.int .u8 (l[j].toNat : Int))
theorem byteCells_get (l : List UInt8) (j : Nat) : (Lib.byteCells l)[j]? = l[j]?.map fun c => (.int .u8 (c.toNat : Int) : Value) := by
  unfold Lib.byteCells
  rw [List.getElem?_map]
namespace RowM
variable {B : Nat} {w : World} {v : Value} {l : List UInt8}
theorem cells (h : RowM B w v l) : At w v l := by
  obtain ⟨g, cap, cur, fz, rfl, hb, hg, hfz, hc, hl, ht⟩ := h.ex
  refine Or.inr ⟨_, cap, rfl, fun j hj => ?_⟩
  have e1 : (⟨g, 0, none⟩ : Addr).add j = ⟨g, j, none⟩ := by simp [Addr.add]; omega
  rw [e1, Lib.cell_of_heap hg, ← Array.getElem?_toList]
  have this : (cur.toList.take l.length)[j]? = (Lib.byteCells l)[j]? := by rw [ht]
  rw [List.getElem?_take, if_pos hj, byteCells_get, List.getElem?_eq_getElem hj] at this
  exact this
theorem lt (h : RowM B w v l) : ∀ k, v.ownBlock = some k → B ≤ k ∧ k < w.heap.size := by
  obtain ⟨g, cap, cur, fz, rfl, hb, hg, _⟩ := h.ex
  intro k hk
  simp [Value.ownBlock] at hk
  subst hk
  exact ⟨hb, (Array.getElem?_eq_some_iff.1 hg).1⟩
theorem below {w' : World} (h : RowM B w v l) (hb : Below w.heap.size w w') : RowM B w' v l := by
  obtain ⟨g, cap, cur, fz, rfl, hb1, hg, rest⟩ := h.ex
  exact ⟨_, _, _, _, rfl, hb1, by rw [hb.block g (Array.getElem?_eq_some_iff.1 hg).1]; exact hg, rest⟩
/-- The arm with room. -/
theorem room (h : RowM B w v l) (u ty : TypeId) (x : Value) (ns : List UInt8)
    (hap : ∀ (g cap : Nat), l.length + ns.length ≤ cap → ∀ W : World, (storeCells ⟨g, l.length, none⟩ (Lib.byteCells ns)).run Tryz.prog w = .ok () W → (Builtin.append_ #[32, u] ty #[.slice (some ⟨g, 0, none⟩) l.length cap, x]).run Tryz.prog w = .ok (.slice (some ⟨g, 0, none⟩) (l.length + ns.length) cap) W)
    (hcap : ∀ a n cap, v = .slice a n cap → l.length + ns.length ≤ cap) :
    ∃ v' w', (Builtin.append_ #[32, u] ty #[v, x]).run Tryz.prog w = .ok v' w' ∧ RowM B w' v' (l ++ ns) ∧ w.grownBy w' v.ownBlock := by
  obtain ⟨g, cap, cur, fz, rfl, hb, hg, hfz, hc, hl, ht⟩ := h.ex
  have hroom := hcap _ _ _ rfl
  have hbl : (Lib.byteCells ns).length = ns.length := Lib.byteCells_length ns
  obtain ⟨cs, r1, r2⟩ := put_cells Tryz.prog g 5 fz (Lib.byteCells ns) l.length 0 cur w hg hfz (by rw [hbl]; omega) (fun u hu => by
    unfold Lib.byteCells at hu
    obtain ⟨c, _, rfl⟩ := List.mem_map.1 hu
    rfl)
  have hsz : cs.size = cap := by
    have q : cs.toList.length = cap := by
      rw [r2, List.length_append, List.length_append, List.length_take, List.length_drop, hbl]
      have q0 : cur.toList.length = cur.size := Array.length_toList
      omega
    rw [Array.length_toList] at q
    exact q
  refine ⟨_, _, hap g cap hroom _ r1, ⟨g, cap, cs, fz, by rw [List.length_append], hb, setRow_heap w g cur cs _ _ hg, by rw [hsz, ← hc]; exact hfz, hsz, by rw [List.length_append]; exact hroom, ?_⟩, ⟨rfl, rfl, rfl, by simp, fun k _ hk => setRow_other w g k _ (fun e => hk (by simp [Value.ownBlock, e]))⟩⟩
  rw [r2, Nat.add_zero, ht, ← Lib.byteCells_append, ← Lib.byteCells_length, List.take_left]
/-- The arm without. -/
theorem grown (hB : B ≤ w.heap.size) (ns : List UInt8) (v' : Value) (w' : World) (zs : List Value) (cap : Nat) (hv : v' = .slice (some ⟨w.heap.size, 0, none⟩) (l.length + ns.length) cap) (hcap : l.length + ns.length ≤ cap)
    (hw : w' = w.drew.alloc (.cells ((Lib.byteCells l).toArray ++ (Lib.byteCells ns).toArray ++ zs.toArray) 5)) (hzs : zs.length = cap - (l.length + ns.length)) : RowM B w' v' (l ++ ns) ∧ w.grownBy w' v.ownBlock := by
  subst hv hw
  refine ⟨⟨w.heap.size, cap, _, (0, 0), by rw [List.length_append], hB, heap_alloc_new w.drew _, Or.inl rfl, ?_, by rw [List.length_append]; exact hcap, ?_⟩, ⟨rfl, rfl, rfl, by simp, fun k hk _ => heap_alloc_old w.drew _ hk⟩⟩
  · simp only [Array.size_append, List.size_toArray, Lib.byteCells_length, hzs]
    omega
  · simp only [Array.toList_append]
    rw [← Lib.byteCells_append, ← Lib.byteCells_length, List.take_left]
theorem app_some (h : RowM B w v l) (hB : B ≤ w.heap.size) (ty : TypeId) (ad : Addr) (c : Nat) (ns : List UInt8) (hns : ∀ j (hj : j < ns.length), w.cell? (ad.add j) = some (.int .u8 (ns[j].toNat : Int))) (hlen : l.length + ns.length ≤ 140737488355328) :
    ∃ v' w', (Builtin.append_ #[32, 32] ty #[v, .slice (some ad) ns.length c]).run Tryz.prog w = .ok v' w' ∧ RowM B w' v' (l ++ ns) ∧ w.grownBy w' v.ownBlock := by
  obtain ⟨i0, hi, hz0, hz1, hz2⟩ := info_parts Kit.info5
  have hnew : ∀ j u, (Lib.byteCells ns)[j]? = some u → w.cell? (ad.add j) = some u := fun j u hj => by
    rw [byteCells_get] at hj
    rcases Nat.lt_or_ge j ns.length with hlt | hge
    · rw [List.getElem?_eq_getElem hlt] at hj
      rw [hns j hlt]
      exact hj
    · rw [List.getElem?_eq_none hge] at hj
      cases hj
  have hnl : (Lib.byteCells ns).length = ns.length * i0.size := by rw [hz1, Lib.byteCells_length, Nat.mul_one]
  by_cases hroom : ∀ a n cap, v = .slice a n cap → l.length + ns.length ≤ cap
  · refine h.room 32 ty _ ns (fun g cap hr W hst => ?_) hroom
    have hf := run_firstCells_some (P := Tryz.prog) w i0.size ns.length ad ns.length c (Lib.byteCells ns) hnl hnew
    rw [hz1] at hf
    simp [Builtin.append_, run_underlying Tryz.underlying32, sizeOf, typeInfo, hi, hz1, Builtin.lenOf, hr, hf, Addr.add_lit, hst]
  · obtain ⟨g, cap, cur, fz, rfl, hb, hg, hfz, hc, hl, ht⟩ := h.ex
    have hroom : cap < l.length + ns.length := by
      rcases Nat.lt_or_ge cap (l.length + ns.length) with h | h
      · exact h
      · exact absurd (fun a n cap' e => by injection e with _ _ e; omega) hroom
    have hr := run_append_grow (P := Tryz.prog) w 32 ty 5 i0 (.int .u8 0) Tryz.underlying32 hi hz0 ⟨g, 0, none⟩ l.length cap (Lib.byteCells l) (by rw [hz1, Lib.byteCells_length, Nat.mul_one]) (fun j u hj => by
      have e1 : (⟨g, 0, none⟩ : Addr).add j = ⟨g, j, none⟩ := by simp [Addr.add]; omega
      rw [e1, Lib.cell_of_heap hg, ← Array.getElem?_toList]
      rw [← ht, List.getElem?_take] at hj
      split at hj
      · exact hj
      · cases hj) ad ns.length c (Lib.byteCells ns) hnl hnew hroom (by omega) (growslice_fits hroom (by rw [hz2]; omega))
    obtain ⟨q1, q2⟩ := grown (v := .slice (some ⟨g, 0, none⟩) l.length cap) (l := l) hB ns _ _ (Builtin.zeroCells (Value.int IntKind.u8 0).cells (grownCap w (l.length + ns.length) cap 5 - (l.length + ns.length))).toList _ rfl (grownCap_ge w (l.length + ns.length) cap 5) (by rw [Array.toArray_toList]) (by rw [Array.length_toList, size_zeroCells]; exact Nat.mul_one _)
    exact ⟨_, _, hr, q1, q2⟩
theorem app_nil (h : RowM B w v l) (ty : TypeId) : (Builtin.append_ #[32, 32] ty #[v, .slice none 0 0]).run Tryz.prog w = .ok v w := by
  obtain ⟨i0, hi, hz0, hz1, hz2⟩ := info_parts Kit.info5
  obtain ⟨g, cap, cur, fz, rfl, hb, hg, hfz, hc, hl, ht⟩ := h.ex
  simp [Builtin.append_, run_underlying Tryz.underlying32, sizeOf, typeInfo, hi, Builtin.lenOf, hl, Builtin.firstCells, storeCells]
theorem app_text (h : RowM B w v l) (hB : B ≤ w.heap.size) (ty : TypeId) (s : ByteArray) (hlen : l.length + s.size ≤ 140737488355328) :
    ∃ v' w', (Builtin.append_ #[32, 9] ty #[v, .string s]).run Tryz.prog w = .ok v' w' ∧ RowM B w' v' (l ++ s.data.toList) ∧ w.grownBy w' v.ownBlock := by
  obtain ⟨i0, hi, hz0, hz1, hz2⟩ := info_parts Kit.info5
  have hs : s.size = s.data.toList.length := Lib.size_eq s
  have hcs : Lib.strCells s = Lib.byteCells s.data.toList := rfl
  by_cases hroom : ∀ a n cap, v = .slice a n cap → l.length + s.data.toList.length ≤ cap
  · refine h.room 9 ty _ s.data.toList (fun g cap hr W hst => ?_) hroom
    have hf := Lib.run_firstCells_string (P := Tryz.prog) w 1 s
    rw [hcs] at hf
    rw [← hs] at hr
    rw [← hs]
    simp [Builtin.append_, run_underlying Tryz.underlying32, run_underlying Tryz.underlying9, sizeOf, typeInfo, hi, hz1, Builtin.lenOf, hr, hf, Addr.add_lit, hst]
  · obtain ⟨g, cap, cur, fz, rfl, hb, hg, hfz, hc, hl, ht⟩ := h.ex
    have hroom : cap < l.length + s.size := by
      rw [hs]
      rcases Nat.lt_or_ge cap (l.length + s.data.toList.length) with h | h
      · exact h
      · exact absurd (fun a n cap' e => by injection e with _ _ e; omega) hroom
    have hr := Lib.run_append_grow_string (P := Tryz.prog) w 32 9 ty 5 i0 (.int .u8 0) Tryz.underlying32 Tryz.underlying9 hi hz0 ⟨g, 0, none⟩ l.length cap (Lib.byteCells l) (by rw [hz1, Lib.byteCells_length, Nat.mul_one]) (fun j u hj => by
      have e1 : (⟨g, 0, none⟩ : Addr).add j = ⟨g, j, none⟩ := by simp [Addr.add]; omega
      rw [e1, Lib.cell_of_heap hg, ← Array.getElem?_toList]
      rw [← ht, List.getElem?_take] at hj
      split at hj
      · exact hj
      · cases hj) s hroom (by omega) (growslice_fits hroom (by rw [hz2]; omega))
    rw [hs, hcs] at hr
    obtain ⟨q1, q2⟩ := grown (v := .slice (some ⟨g, 0, none⟩) l.length cap) (l := l) hB s.data.toList _ _ (Builtin.zeroCells (Value.int IntKind.u8 0).cells (grownCap w (l.length + s.data.toList.length) cap 5 - (l.length + s.data.toList.length))).toList _ rfl (grownCap_ge w (l.length + s.data.toList.length) cap 5) (by rw [Array.toArray_toList]) (by rw [Array.length_toList, size_zeroCells]; exact Nat.mul_one _)
    exact ⟨_, _, hr, q1, q2⟩
/-- A slice of bytes that stands anywhere. -/
theorem app_at (h : RowM B w v l) (hB : B ≤ w.heap.size) (ty : TypeId) (x : Value) (ns : List UInt8) (hx : At w x ns) (hlen : l.length + ns.length ≤ 140737488355328) :
    ∃ v' w', (Builtin.append_ #[32, 32] ty #[v, x]).run Tryz.prog w = .ok v' w' ∧ RowM B w' v' (l ++ ns) ∧ w.grownBy w' v.ownBlock := by
  rcases hx with ⟨rfl, rfl⟩ | ⟨ad, c, rfl, hc⟩
  · exact ⟨v, w, h.app_nil ty, by rw [List.append_nil]; exact h, ⟨rfl, rfl, rfl, Nat.le_refl _, fun _ _ _ => rfl⟩⟩
  · exact h.app_some hB ty ad c ns hc hlen
end RowM
/-- '[]byte(s)'. -/
theorem rowM_conv (s : ByteArray) (w : World) : ∃ v w', (convert 9 32 (.string s)).run Tryz.prog w = .ok v w' ∧ RowM w.heap.size w' v s.data.toList ∧ Below w.heap.size w w' := by
  refine ⟨_, _, Lib.run_convert_string_bytes (P := Tryz.prog) w 9 32 5 s Tryz.underlying9 Tryz.underlying32 Tryz.underlying5, ?_, ⟨rfl, rfl, rfl, by rw [Lib.bytesWorld_size]; omega, fun k hk => Lib.bytesWorld_at_old w 5 s k hk⟩⟩
  have hge := grownCap_ge w s.size 0 5
  have hsz : (Lib.bytesCells w 5 s).size = grownCap w s.size 0 5 := by
    unfold Lib.bytesCells
    rw [Array.size_append, Array.size_map, Array.size_replicate]
    show s.size + _ = _
    omega
  refine ⟨w.heap.size, _, _, _, by rw [Lib.size_eq], Nat.le_refl _, Lib.bytesWorld_at_new w 5 s, Or.inr (Nat.le_refl _), hsz, by rw [← Lib.size_eq]; exact hge, ?_⟩
  unfold Lib.bytesCells Lib.byteCells
  rw [Array.toList_append, Array.toList_map]
  rw [show s.data.toList.length = (s.data.toList.map fun b => Value.int .u8 b.toNat).length by rw [List.length_map], List.take_left]
/-- A literal without bytes. -/
theorem rowM_empty (w : World) : RowM w.heap.size (w.alloc (.cells #[] 5)) (.slice (some ⟨w.heap.size, 0, none⟩) 0 0) [] :=
  ⟨w.heap.size, 0, #[], (0, 0), rfl, Nat.le_refl _, by show (w.heap.push _)[w.heap.size]? = _; simp, Or.inl rfl, rfl, Nat.le_refl _, rfl⟩
/-- A slice of the call's own, its bytes; what was there when W0 stood is as it was. -/
structure BufM (W0 : World) (v : Value) (l : List UInt8) (w : World) : Prop where
  own : RowM W0.heap.size w v l
  below : Below W0.heap.size W0 w
namespace BufM
variable {W0 w : World} {v : Value} {l : List UInt8}
theorem next {w' : World} (h : BufM W0 v l w) (hb : Below w.heap.size w w') : BufM W0 v l w' := ⟨h.own.below hb, h.below.trans (hb.mono h.below.size)⟩
theorem step {ops : Array Oper} {rest : List Oper} {o : Oper} {a : Act} {Q : Exit → Act → World → Prop} (hgd : o.guard = none) (s x : Operand)
    (ho : o.op = .call { callee := .builtin .append, args := #[s, x], argTypes := #[32, 32] })
    (h : BufM W0 v l w) (xv : Value) (ns : List UInt8) (hx : At w xv ns) (hs : a.eval s = v) (hxe : a.eval x = xv) (hlen : l.length + ns.length ≤ 140737488355328)
    (hk : ∀ v' w', BufM W0 v' (l ++ ns) w' → wpList Tryz.prog ops Q rest (a.put o.dst v') w') : wpList Tryz.prog ops Q (o :: rest) a w := by
  refine wpList_plain hgd fun K hK => ?_
  obtain ⟨v', w', hr, h2, h3⟩ := h.own.app_at h.below.size o.type xv ns hx hlen
  unfold Oper.wp execOp
  simp only [ho, resolve, invoke, builtin, Sem.run_bind, Sem.run_pure, Result.andThen_ok, List.map_toArray, List.map_cons, List.map_nil, hs, hxe, hr]
  exact hK _ _ (hk v' w' ⟨h2, h.below.grown h3 h.below.size fun j hj => (h.own.lt j hj).1⟩)
theorem step_text {ops : Array Oper} {rest : List Oper} {o : Oper} {a : Act} {Q : Exit → Act → World → Prop} (hgd : o.guard = none) (s x : Operand)
    (ho : o.op = .call { callee := .builtin .append, args := #[s, x], argTypes := #[32, 9] })
    (h : BufM W0 v l w) (t : ByteArray) (hs : a.eval s = v) (hxe : a.eval x = .string t) (hlen : l.length + t.size ≤ 140737488355328)
    (hk : ∀ v' w', BufM W0 v' (l ++ t.data.toList) w' → wpList Tryz.prog ops Q rest (a.put o.dst v') w') : wpList Tryz.prog ops Q (o :: rest) a w := by
  refine wpList_plain hgd fun K hK => ?_
  obtain ⟨v', w', hr, h2, h3⟩ := h.own.app_text h.below.size o.type t hlen
  unfold Oper.wp execOp
  simp only [ho, resolve, invoke, builtin, Sem.run_bind, Sem.run_pure, Result.andThen_ok, List.map_toArray, List.map_cons, List.map_nil, hs, hxe, hr]
  exact hK _ _ (hk v' w' ⟨h2, h.below.grown h3 h.below.size fun j hj => (h.own.lt j hj).1⟩)
end BufM
end Go.Proofs.YtnnbbjdidbggmaaGreatDoor.Apm
namespace Go.Proofs.YtnnbbjdidbggmaaGreatDoor.Pt
open Go Go.RowKit Go.Joins Kit F0 Apm

def cleanC (c : UInt8) : UInt8 := if c = 45 ∨ c = 10 ∨ c = 13 then 46 else c
def cleanL (l : List UInt8) : List UInt8 := l.map cleanC
theorem clean_pure (l : List UInt8) : Pure (cleanL l) := fun x hx => by
  obtain ⟨c, _, rfl⟩ := List.mem_map.1 hx
  unfold cleanC
  split
  · decide
  · rename_i h
    exact ⟨fun e => h (Or.inl e), fun e => h (Or.inr (Or.inl e)), fun e => h (Or.inr (Or.inr e))⟩
theorem clean_length (l : List UInt8) : (cleanL l).length = l.length := List.length_map _
/-- A row of bytes that may be written. -/
def RowC (w : World) (g : Nat) (l : List UInt8) : Prop := ∀ j (h : j < l.length), w.cell? ⟨g, j, none⟩ = some (.int .u8 (l[j].toNat : Int)) ∧ w.frozen? ⟨g, j, none⟩ = false
theorem RowC.set {w : World} {g : Nat} {l : List UInt8} (h : RowC w g l) (i : Nat) (_hi : i < l.length) (c : UInt8) : RowC (w.setCell ⟨g, i, none⟩ (.int .u8 (c.toNat : Int))) g (l.set i c) := fun j hj => by
  rw [List.length_set] at hj
  obtain ⟨h1, h2⟩ := h j hj
  refine ⟨?_, ?_⟩
  · by_cases e : i = j
    · subst e
      rw [World.cell?_setCell_same _ _ _ h1]
      simp
    · rw [World.cell?_setCell_other _ _ _ _ (by intro e'; injection e' with _ e'; exact e e'), h1, List.getElem_set_ne e]
  · rw [World.frozen?_setCell]
    exact h2
theorem RowC.of {B : Nat} {w : World} {v : Value} {l : List UInt8} (h : RowM B w v l) : ∃ g cap, v = .slice (some ⟨g, 0, none⟩) l.length cap ∧ B ≤ g ∧ RowC w g l := by
  have hc := h.cells
  obtain ⟨g, cap, cur, fz, rfl, hb, hg, hfz, hcap, hl, ht⟩ := h.ex
  refine ⟨g, cap, rfl, hb, fun j hj => ⟨?_, ?_⟩⟩
  · rcases hc with ⟨hv, _⟩ | ⟨ad, cap', hv, hc⟩
    · cases hv
    · injection hv with e1 e2 e3
      injection e1 with e1
      subst e1
      have := hc j hj
      rw [show (⟨g, 0, none⟩ : Addr).add j = ⟨g, j, none⟩ by simp [Addr.add]; omega] at this
      exact this
  · obtain ⟨a, b⟩ := fz
    simp only at hfz
    simp only [World.frozen?, hg, Bool.and_eq_false_iff, decide_eq_false_iff_not]
    omega
theorem RowC.string {w : World} {g cap : Nat} {l : List UInt8} (h : RowC w g l) : (convert 32 9 (.slice (some ⟨g, 0, none⟩) l.length cap)).run Tryz.prog w = .ok (.string ⟨l.toArray⟩) w :=
  run_convert_bytes_back (P := Tryz.prog) w 32 9 5 ⟨g, 0, none⟩ cap l Tryz.underlying32 Tryz.underlying5 Tryz.underlying9 (fun j hj => by
    rw [show (⟨g, 0, none⟩ : Addr).add j = ⟨g, j, none⟩ by simp [Addr.add]; omega]
    exact (h j hj).1)
theorem mix_at {l : List UInt8} {k : Nat} (hk : k < l.length) : ∃ h, (cleanL (l.take k) ++ l.drop k)[k]'h = l[k] := by
  have hl : (cleanL (l.take k)).length = k := by rw [clean_length, List.length_take]; omega
  refine ⟨by rw [List.length_append, hl, List.length_drop]; omega, ?_⟩
  rw [List.getElem_append_right (by omega)]
  simp [hl]
theorem mix_same {l : List UInt8} {k : Nat} (hk : k < l.length) (h : cleanC l[k] = l[k]) : cleanL (l.take k) ++ l.drop k = cleanL (l.take (k + 1)) ++ l.drop (k + 1) := by
  rw [List.take_succ_eq_append_getElem hk, List.drop_eq_getElem_cons hk]
  unfold cleanL
  rw [List.map_append, List.append_assoc, List.map_cons, List.map_nil, h]
  rfl
theorem mix_set {l : List UInt8} {k : Nat} (hk : k < l.length) (h : cleanC l[k] = 46) : (cleanL (l.take k) ++ l.drop k).set k 46 = cleanL (l.take (k + 1)) ++ l.drop (k + 1) := by
  have hl : (cleanL (l.take k)).length = k := by rw [clean_length, List.length_take]; omega
  rw [List.take_succ_eq_append_getElem hk, List.drop_eq_getElem_cons hk, List.set_append_right _ _ (by omega), hl, Nat.sub_self, List.set_cons_zero]
  unfold cleanL
  rw [List.map_append, List.append_assoc, List.map_cons, List.map_nil, h]
  rfl

set_option maxHeartbeats 2000000 in
set_option maxRecDepth 100000 in
theorem clean_any (s : ByteArray) (w : World) (hs : s.size ≤ 1000000000) :
    Calls Tryz.prog 21 #[.string s] w fun e w' => e = .returned (.string ⟨(cleanL s.data.toList).toArray⟩) ∧ Below w.heap.size w w' := by
  obtain ⟨l, hl⟩ : ∃ l, s.data.toList = l := ⟨_, rfl⟩
  have hll : l.length = s.size := by rw [← hl, Lib.size_eq]
  obtain ⟨v, W1, hconv, hrow, hb1⟩ := rowM_conv s w
  rw [hl] at hrow ⊢
  obtain ⟨g, cap, rfl, hg, hC⟩ := RowC.of hrow
  obtain ⟨N, hN⟩ : ∃ N, l.length = N := ⟨_, rfl⟩
  have HNL := Lib.hid hN
  have hNs : N ≤ 1000000000 := by omega
  rw [hN] at hconv
  have HC := Lib.hid hC
  have HB1 := Lib.hid hb1
  clear hl hll hrow hC hb1 hN
  go_enter Tryz.func21, Tryz.ntmps21
  go_wp2_with fail
  go_loopg [4] N (fun m i wr => ∃ k : Nat, m = N - k ∧ k ≤ N ∧ i = .int .i64 (k : Int) ∧ Below w.heap.size w wr ∧ Hid (RowC wr g (cleanL (l.take k) ++ l.drop k)))
  case atStart => exact ⟨0, rfl, Nat.zero_le _, rfl, HB1.out, HC⟩
  case round =>
    obtain ⟨k, rfl, hk, rfl, hb, HR⟩ := hrel
    by_cases hlt : k < N
    · have g1 : (k : Int) < (N : Int) := by omega
      have hkl : k < l.length := by rw [HNL.out]; exact hlt
      obtain ⟨hx, hat⟩ := mix_at hkl
      obtain ⟨c1, f1⟩ := HR.out k hx
      rw [hat] at c1
      obtain ⟨c, hc⟩ : ∃ c, l[k] = c := ⟨_, rfl⟩
      have HSAME := Lib.hid (fun h => mix_same hkl h)
      have HSET := Lib.hid (fun h => mix_set hkl h)
      rw [hc] at c1 HSAME HSET
      have h4 : c = 45 ∨ c = 10 ∨ c = 13 ∨ (c ≠ 45 ∧ c ≠ 10 ∧ c ≠ 13) := by
        by_cases q1 : c = 45
        · exact Or.inl q1
        · by_cases q2 : c = 10
          · exact Or.inr (Or.inl q2)
          · by_cases q3 : c = 13
            · exact Or.inr (Or.inr (Or.inl q3))
            · exact Or.inr (Or.inr (Or.inr ⟨q1, q2, q3⟩))
      rcases h4 with h | h | h | ⟨n1, n2, n3⟩
      · subst h
        have c2 : wr.cell? ⟨g, k, none⟩ = some (.int .u8 45) := c1
        have HS := Lib.hid (HSET.out (by decide))
        have HR2 := Lib.hid (HR.out.set k hx 46)
        clear c1 hc
        go_wp2_with fail
        go_roundg (N - (k + 1))
        case measure => omega
        case rel => exact ⟨k + 1, rfl, by omega, by go_num, hb.setCell (p := ⟨g, k, none⟩) hg _, Lib.hid (by rw [← HS.out]; exact HR2.out)⟩
      · subst h
        have c2 : wr.cell? ⟨g, k, none⟩ = some (.int .u8 10) := c1
        have HS := Lib.hid (HSET.out (by decide))
        have HR2 := Lib.hid (HR.out.set k hx 46)
        clear c1 hc
        go_wp2_with fail
        go_roundg (N - (k + 1))
        case measure => omega
        case rel => exact ⟨k + 1, rfl, by omega, by go_num, hb.setCell (p := ⟨g, k, none⟩) hg _, Lib.hid (by rw [← HS.out]; exact HR2.out)⟩
      · subst h
        have c2 : wr.cell? ⟨g, k, none⟩ = some (.int .u8 13) := c1
        have HS := Lib.hid (HSET.out (by decide))
        have HR2 := Lib.hid (HR.out.set k hx 46)
        clear c1 hc
        go_wp2_with fail
        go_roundg (N - (k + 1))
        case measure => omega
        case rel => exact ⟨k + 1, rfl, by omega, by go_num, hb.setCell (p := ⟨g, k, none⟩) hg _, Lib.hid (by rw [← HS.out]; exact HR2.out)⟩
      · have HS := Lib.hid (HSAME.out (by unfold cleanC; rw [if_neg (by rintro (h | h | h) <;> contradiction)]))
        have b1 : ((c.toNat : Int) == 45) = false := by rw [beq_eq_false_iff_ne]; intro h; exact n1 (UInt8.toNat_inj.1 (by show c.toNat = 45; omega))
        have b2 : ((c.toNat : Int) == 10) = false := by rw [beq_eq_false_iff_ne]; intro h; exact n2 (UInt8.toNat_inj.1 (by show c.toNat = 10; omega))
        have b3 : ((c.toNat : Int) == 13) = false := by rw [beq_eq_false_iff_ne]; intro h; exact n3 (UInt8.toNat_inj.1 (by show c.toNat = 13; omega))
        clear n1 n2 n3 hc
        go_wp2_with fail
        go_roundg (N - (k + 1))
        case measure => omega
        case rel => exact ⟨k + 1, rfl, by omega, by go_num, hb, Lib.hid (by rw [← HS.out]; exact HR.out)⟩
    · have g1 : ¬ (k : Int) < (N : Int) := by omega
      have hkN : k = N := by omega
      subst hkN
      have h9 := RowC.string (cap := cap) HR.out
      rw [List.take_of_length_le (by rw [HNL.out]; exact Nat.le_refl _), List.drop_eq_nil_of_le (by rw [HNL.out]; exact Nat.le_refl _), List.append_nil, clean_length, HNL.out] at h9
      go_wp2_with fail
      go_ret
      exact ⟨rfl, hb⟩
end Go.Proofs.YtnnbbjdidbggmaaGreatDoor.Pt
namespace Go.Proofs.YtnnbbjdidbggmaaGreatDoor.Dg
open Go Go.RowKit Go.Joins Kit

def digs (n : Int) : ByteArray := ⟨(Lib.decDigits n.toNat).toArray⟩
theorem digs_low {n : Int} (h : n ≤ 0) : digs n = ⟨#[48]⟩ := by
  unfold digs
  rw [show n.toNat = 0 by omega, Lib.decDigits_one (by decide)]
  rfl
theorem digs_one {n : Int} (h0 : 0 ≤ n) (h : n < 10) : digs n = oneB (48 + n % 10) := by
  unfold digs oneB
  rw [Lib.decDigits_one (by omega), show (48 + n % 10).toNat = 48 + n.toNat by omega]
theorem digs_more {n : Int} (h : 10 ≤ n) : digs n = digs (n / 10) ++ oneB (48 + n % 10) := by
  refine bytes_ext ?_
  rw [data_append]
  unfold digs oneB
  rw [Lib.decDigits, dif_neg (by omega), show n.toNat / 10 = (n / 10).toNat by omega, show 48 + n.toNat % 10 = (48 + n % 10).toNat by omega]
theorem digs_short {n : Int} (h : n ≤ 9223372036854775807) : (digs n).size ≤ 19 := by
  rw [Lib.size_eq]
  unfold digs
  rw [Lib.decDigits_length]
  exact Tx.nDigits_le (k := 18) (by omega)
end Go.Proofs.YtnnbbjdidbggmaaGreatDoor.Dg
namespace Go.Proofs.YtnnbbjdidbggmaaGreatDoor.Rf
open Go Go.RowKit Go.Joins Kit Dg

set_option maxHeartbeats 1000000 in
theorem digits_small (n : Int) (h0 : -9223372036854775808 ≤ n) (h1 : n < 10) (w : World) :
    Calls Tryz.prog 20 #[.int .i64 n] w fun e w' => e = .returned (.string (digs n)) ∧ Below w.heap.size w w' := by
  obtain ⟨m, hm⟩ : ∃ m : Int, max n 0 = m := ⟨_, rfl⟩
  have hm0 : 0 ≤ m := by omega
  have hm1 : m < 10 := by omega
  have hone := run_oneB (48 + m) (by omega) (by omega) w
  have hd : Hid (oneB (48 + m) = digs n) := by
    show _ = _
    by_cases h : n ≤ 0
    · rw [digs_low h, show m = 0 by omega]; rfl
    · rw [digs_one (by omega) h1, show n % 10 = m by omega]
  go_enter Tryz.func20, Tryz.ntmps20
  go_wp2_with fail
  go_ret
  exact ⟨ret_string hd.out, (Below.refl _ w).alloc (Nat.le_refl _) _⟩

set_option maxHeartbeats 200000 in
theorem digits_any : ∀ (f : Nat) (n : Int) (_ : n.toNat < f) (_ : -9223372036854775808 ≤ n) (_ : n ≤ 9223372036854775807) (w : World),
    Calls Tryz.prog 20 #[.int .i64 n] w fun e w' => e = .returned (.string (digs n)) ∧ Below w.heap.size w w' := by
  intro f
  induction f with
  | zero => intro n hf; omega
  | succ f ih =>
    intro n hf h0 h1 w
    by_cases hn : n < 10
    · exact digits_small n h0 hn w
    · have IH := Lib.hid (ih (n / 10) (by omega) (by omega) (by omega))
      clear ih
      have hmod : 0 ≤ n % 10 ∧ n % 10 < 10 := by omega
      obtain ⟨m0, m1⟩ := hmod
      have hconv := run_byte (48 + n % 10) (by omega) (by omega)
      have hm := Lib.hid (digs_more (n := n) (by omega))
      have hs1 := digs_short (n := n / 10) (by omega)
      have hs2 : (oneB (48 + n % 10)).size ≤ 1 := by rw [oneB_size]; omega
      go_enter Tryz.func20, Tryz.ntmps20
      go_wp2_with fail
      have eq : IntKind.i64.wrap (n.tdiv 10) = n / 10 := IntWalk.i64_quo _ _ (by omega)
      have er : n.tmod 10 = n % 10 := IntWalk.rem_in _ _ (by omega)
      have er' : IntKind.i64.wrap (n % 10) = n % 10 := IntWalk.i64_in _ (by omega)
      have ea : IntKind.i64.wrap (48 + n % 10) = 48 + n % 10 := IntWalk.i64_in _ (by omega)
      have eu : IntKind.u8.wrap (48 + n % 10) = 48 + n % 10 := IntWalk.u8_in _ (by omega)
      go_region_with ((go_at_call 20; refine (IH.out _).mono ?_; rintro e w' ⟨rfl, hb⟩; try (have hcell := hb.cell (p := ⟨w.heap.size, 0, none⟩) (lt_alloc w _))))
      all_goals
        go_wp2
        go_ret
        refine ⟨ret_string hm.out.symm, ?_⟩
        first
          | exact (below_first hb).alloc (below_first hb).size _
          | exact below_later hb

theorem digits_call (n : Int) (h0 : -9223372036854775808 ≤ n) (h1 : n ≤ 9223372036854775807) (w : World) :
    Calls Tryz.prog 20 #[.int .i64 n] w fun e w' => e = .returned (.string (digs n)) ∧ Below w.heap.size w w' :=
  digits_any (n.toNat + 1) n (by omega) h0 h1 w
end Go.Proofs.YtnnbbjdidbggmaaGreatDoor.Rf
namespace Go.Proofs.YtnnbbjdidbggmaaGreatDoor.F0
open Go Go.RowKit Go.WideShapes Go.ChangeShapes Kit

theorem addr_plain {w : World} {a : Addr} {v : Value} (h : w.cell? (a.add 0) = some v) : a = ⟨a.block, a.off, none⟩ := by
  obtain ⟨b, off, spot⟩ := a
  have hs : spot = none := by simpa [Addr.add] using World.cell?_spot h
  rw [hs]
theorem cell_plain {w : World} {a : Addr} {i : Nat} {v : Value} (ha : a = ⟨a.block, a.off, none⟩) (h : w.cell? (a.add i) = some v) : w.cell? ⟨a.block, a.off + i, none⟩ = some v := by
  rw [ha] at h
  rw [← Go.WideShapes.add_plain]
  exact h
/-- n cells behind a slice's value. -/
def ListAt (w : World) (A : Option Addr) (cs : List Value) : Prop := ∀ k (h : k < cs.length), ∃ g o, A = some ⟨g, o, none⟩ ∧ g < w.heap.size ∧ w.cell? ⟨g, o + k, none⟩ = some cs[k]
section
variable {H : Type} {enc : TypeId × Value → H} {W : World}
theorem strs_opens {A : Option Addr} {n c : Nat} {d : DataW H} {p : List MemPlace} (h : DataW.Trod enc Tryz.prog W 0 (fun _ => true) true 29 (.slice A n c) d p) :
    ∃ ss : List ByteArray, ss.length = n ∧ n ≤ 9223372036854775807 ∧ ListAt W A (ss.map .string) := by
  obtain ⟨fuel, hf⟩ := h
  rcases Go.Deep.open_strs Tryz.underlying29 Tryz.underlying9 (by kernel_rfl) hf with ⟨hcs, _⟩ | ⟨a, len, cap, m, S, hcs, _, hl, hmax, hm, _, hx⟩
  · simp [Value.cells] at hcs
    obtain ⟨rfl, rfl, rfl⟩ := hcs
    exact ⟨[], rfl, by omega, fun k hk => by simp at hk⟩
  · simp [Value.cells] at hcs
    obtain ⟨rfl, rfl, rfl⟩ := hcs
    simp only [if_true] at hm
    refine ⟨(List.range n).map S, by rw [List.length_map, List.length_range], by unfold maxLen at hmax; omega, fun k hk => ?_⟩
    rw [List.length_map, List.length_map, List.length_range] at hk
    have h1 := addr_plain (hx 0 (by omega)).1
    have h2 := cell_plain h1 (hx k (by omega)).1
    refine ⟨a.block, a.off, congrArg some h1, cell_lt h2, ?_⟩
    rw [h2, List.getElem_map, List.getElem_map, List.getElem_range]
theorem strs_sized {A : Option Addr} {n c : Nat} {d : DataW H} {p : List MemPlace} (h : DataW.Trod enc Tryz.prog W 0 (fun _ => true) true 29 (.slice A n c) d p) :
    ∃ ss : List ByteArray, ss.length = n ∧ n ≤ 9223372036854775807 ∧ ListAt W A (ss.map .string) ∧ ∀ s ∈ ss, s.size ≤ 9223372036854775807 := by
  obtain ⟨fuel, hf⟩ := h
  rcases Go.Deep.open_strs Tryz.underlying29 Tryz.underlying9 (by kernel_rfl) hf with ⟨hcs, _⟩ | ⟨a, len, cap, m, S, hcs, _, hl, hmax, hm, _, hx⟩
  · simp [Value.cells] at hcs
    obtain ⟨rfl, rfl, rfl⟩ := hcs
    exact ⟨[], rfl, by omega, fun k hk => by simp at hk, by simp⟩
  · simp [Value.cells] at hcs
    obtain ⟨rfl, rfl, rfl⟩ := hcs
    simp only [if_true] at hm
    refine ⟨(List.range n).map S, by rw [List.length_map, List.length_range], by unfold maxLen at hmax; omega, fun k hk => ?_, fun s hs => ?_⟩
    rotate_left 1
    · obtain ⟨i, hi, rfl⟩ := List.mem_map.1 hs
      exact (hx i (by have := List.mem_range.1 hi; omega)).2
    rw [List.length_map, List.length_map, List.length_range] at hk
    have h1 := addr_plain (hx 0 (by omega)).1
    have h2 := cell_plain h1 (hx k (by omega)).1
    refine ⟨a.block, a.off, congrArg some h1, cell_lt h2, ?_⟩
    rw [h2, List.getElem_map, List.getElem_map, List.getElem_range]
end
end Go.Proofs.YtnnbbjdidbggmaaGreatDoor.F0
namespace Go.Proofs.YtnnbbjdidbggmaaGreatDoor.Lk
open Go Go.RowKit Go.Joins Kit F0 Pt

theorem srch_of {w : World} (h : Tx.Env w) : Srch.Env w := ⟨h.max⟩
theorem nstr_len (fs : List F0.Fl) (n : List UInt8) (h : (fvL fs n).length ≤ 32768) : (nstrL fs n).length ≤ 65556 := by
  unfold nstrL
  unfold fvL at h
  cases e : fstL fs n with
  | none => decide
  | some f =>
    rw [e] at h
    simp only at h ⊢
    have := str_len f.2 (by omega)
    omega

set_option maxHeartbeats 1000000 in
set_option maxRecDepth 100000 in
theorem nstring_any (v : Value) (fs : List F0.Fl) (name : ByteArray) (w : World) (hv : FAt w v fs) (hsz : ∀ f ∈ fs, f.1.length ≤ 1073741824 ∧ f.2.length ≤ 1073741824) (hn : name.size ≤ 1073741824) (hc : fs.length ≤ 1073741824) (hE : Tx.Env w) :
    Calls Tryz.prog 42 #[v, .string name] w fun e w' => e = .returned (.string ⟨(nstrL fs name.data.toList).toArray⟩) ∧ Below w.heap.size w w' := by
  have HE := Lib.hid hE
  have HF := Lib.hid (first_call v fs name w hv hsz hn hc)
  have hz := fv_len hsz name.data.toList
  obtain ⟨va, vc, rfl, _⟩ := hv.form
  clear hv hE hsz
  cases e : fstL fs name.data.toList with
  | none =>
    have HN : Hid (nstrL fs name.data.toList = nilT) := Lib.hid (by unfold nstrL; rw [e])
    have H1 : Hid (fvL fs name.data.toList = []) := Lib.hid (by unfold fvL; rw [e])
    rw [e, H1.out] at HF
    clear e hz
    go_enter Tryz.func42, Tryz.ntmps42
    go_wp2_with fail
    refine HF.out.mono ?_
    rintro e w1 ⟨rfl, hb1⟩
    unfold sV Option.isSome
    go_wp2_with fail
    go_ret
    rw [HN.out]
    exact ⟨rfl, hb1⟩
  | some f =>
    have HN : Hid (nstrL fs name.data.toList = Tx.strL f.2) := Lib.hid (by unfold nstrL; rw [e])
    have h1 : fvL fs name.data.toList = f.2 := by unfold fvL; rw [e]
    rw [e, h1] at HF
    rw [h1] at hz
    obtain ⟨V, hV⟩ : ∃ V, f.2 = V := ⟨_, rfl⟩
    rw [hV] at HN HF hz
    clear e h1 hV
    go_enter Tryz.func42, Tryz.ntmps42
    go_wp2_with fail
    refine HF.out.mono ?_
    rintro e w1 ⟨rfl, hb1⟩
    have HE1 := Lib.hid (HE.out.next hb1)
    unfold sV Option.isSome
    go_wp2_with fail
    refine (Tx.string_any ⟨V.toArray⟩ w1 (by rw [Lib.size_mk]; omega) HE1.out).mono ?_
    rintro e w2 ⟨rfl, hb2⟩
    go_wp2_with fail
    go_ret
    rw [HN.out]
    exact ⟨rfl, hb1.trans (hb2.mono hb1.size)⟩

set_option maxHeartbeats 1000000 in
set_option maxRecDepth 100000 in
theorem addresses_any (v : Value) (fs : List F0.Fl) (name : ByteArray) (w : World) (hv : FAt w v fs) (hsz : ∀ f ∈ fs, f.1.length ≤ 1073741824 ∧ f.2.length ≤ 1073741824) (hz : (fvL fs name.data.toList).length ≤ 32768) (hn : name.size ≤ 1073741824) (hc : fs.length ≤ 1073741824) (hE : Srch.Env w) :
    Calls Tryz.prog 41 #[v, .string name] w fun e w' => ∃ u, e = .returned u ∧ Ad.RowA w.heap.size u (addrsL fs name.data.toList) w' ∧ Below w.heap.size w w' := by
  have HE := Lib.hid hE
  have HF := Lib.hid (first_call v fs name w hv hsz hn hc)
  obtain ⟨va, vc, rfl, _⟩ := hv.form
  have HA : Hid (addrsL fs name.data.toList = Ad.docA (fvL fs name.data.toList)) := Lib.hid rfl
  obtain ⟨V, hV⟩ : ∃ V, fvL fs name.data.toList = V := ⟨_, rfl⟩
  rw [hV] at HA HF hz
  clear hv hE hsz hV
  go_enter Tryz.func41, Tryz.ntmps41
  go_wp2_with fail
  refine HF.out.mono ?_
  rintro e w1 ⟨rfl, hb1⟩
  have HE1 := Lib.hid (HE.out.next hb1)
  unfold sV
  go_wp2_with fail
  refine (Ad.list_any ⟨V.toArray⟩ w1 (by rw [Lib.size_mk]; omega) HE1.out).mono ?_
  rintro e w2 ⟨u, rfl, hr, hb2⟩
  obtain ⟨ua, uc, rfl⟩ := Ad.row_form hr
  have HR := Lib.hid hr
  clear hr
  go_wp2_with fail
  go_ret
  rw [HA.out]
  refine ⟨_, rfl, ?_, hb1.trans (hb2.mono hb1.size)⟩
  have h := HR.out
  exact ⟨h.1, h.2.imp id (fun ⟨g, cap, cur, a, b, c⟩ => ⟨g, cap, cur, a, Nat.le_trans hb1.size b, c⟩)⟩
end Go.Proofs.YtnnbbjdidbggmaaGreatDoor.Lk
namespace Go.Proofs.YtnnbbjdidbggmaaGreatDoor.Lk
open Go Go.RowKit Go.Joins Kit F0 Pt

/-- A row of addresses of the call's own stays while texts are added. -/
theorem row_gone {W0 w w' : World} {A : Nat} {l m : List UInt8} {B : Nat} {v : Value} {T : List Ad.Ad3} (h : Ad.RowA B v T w) (hg : Gat W0 A l w) (hk : Gone W0 A m w w') : Ad.RowA B v T w' := by
  refine Ad.row_keep h (fun g hv _ => ?_)
  obtain ⟨_, cur, hh⟩ := Ad.row_block h hv
  obtain ⟨u, hu, _⟩ := hg.box
  rw [hh]
  refine gone_cell hk hh (by decide) (fun e => ?_)
  subst e
  rw [show w.heap[g]? = _ from hu] at hh
  injection hh with hh
  injection hh with _ hh
  exact absurd hh (by decide)
theorem flat_take (T : List Ad.Ad3) (k : Nat) (h : k < T.length) : (T.take (k + 1)).flatMap oneAdL = (T.take k).flatMap oneAdL ++ oneAdL T[k] := by
  rw [List.take_succ_eq_append_getElem h, List.flatMap_append]
  simp
theorem flat_take_len (T : List Ad.Ad3) (k : Nat) : ((T.take k).flatMap oneAdL).length ≤ (T.flatMap oneAdL).length := by
  have : T.flatMap oneAdL = (T.take k).flatMap oneAdL ++ (T.drop k).flatMap oneAdL := by rw [← List.flatMap_append, List.take_append_drop]
  rw [this, List.length_append]
  omega
def oneT (N B H : List UInt8) : List ByteArray := [⟨#[40]⟩, ⟨N.toArray⟩, ⟨#[32]⟩, ⟨#[78, 73, 76]⟩, ⟨#[32]⟩, ⟨B.toArray⟩, ⟨#[32]⟩, ⟨H.toArray⟩, ⟨#[41]⟩]
theorem oneT_flat (N B H : List UInt8) : flatT (oneT N B H) = [40] ++ N ++ [32] ++ nilT ++ [32] ++ B ++ [32] ++ H ++ [41] := by
  simp [oneT, flatT, nilT]

/-- What the round that tells an address goes by: what is gathered, the variable at block q. -/
structure Rd (W0 : World) (A : Nat) (M : List UInt8) (w : World) (q : Nat) (Bx Hx : List UInt8) (X : World) : Prop where
  gone : Gone W0 A M w X
  c1 : X.cell? ⟨q, 1, none⟩ = some (.string ⟨Bx.toArray⟩)
  c2 : X.cell? ⟨q, 2, none⟩ = some (.string ⟨Hx.toArray⟩)
  env : Tx.Env X
theorem Rd.next {W0 : World} {A : Nat} {M : List UInt8} {w : World} {q : Nat} {Bx Hx : List UInt8} {X Y : World} (h : Rd W0 A M w q Bx Hx X) (hb : Below X.heap.size X Y) : Rd W0 A M w q Bx Hx Y :=
  ⟨gone_next h.gone hb, (hb.cell (p := ⟨q, 1, none⟩) (cell_lt h.c1)).trans h.c1, (hb.cell (p := ⟨q, 2, none⟩) (cell_lt h.c2)).trans h.c2, h.env.next hb⟩

set_option maxHeartbeats 4000000 in
set_option maxRecDepth 100000 in
theorem adds_any (W0 : World) (A : Nat) (m : List UInt8) (B : Nat) (u : Value) (T : List Ad.Ad3) (w : World) (h : Gat W0 A m w) (hr : Ad.RowA B u T w) (hT : TS 65539 T) (hT2 : T.length ≤ 65539) (hm : m.length ≤ 500000000000) (hE0 : ∀ w', Below W0.heap.size w w' → Tx.Env w') :
    Calls Tryz.prog 43 #[.func (.func 53) #[] #[.pointer (some ⟨A, 0, none⟩)], u] w fun e w' => e = .returned (.tuple #[]) ∧ Gone W0 A (m ++ adL T) w w' := by
  obtain ⟨ua, uc, rfl⟩ := Ad.row_form hr
  by_cases h0 : T = []
  · subst h0
    have HG := Lib.hid h
    have HA : Hid (flatT [⟨#[78, 73, 76]⟩] = adL []) := Lib.hid rfl
    clear h hr
    go_enter Tryz.func43, Tryz.ntmps43
    go_wp2_with fail
    refine (add_new W0 A m [⟨#[78, 73, 76]⟩] #[.string ⟨#[78, 73, 76]⟩] 1 w HG.out rfl rfl (by decide) (by show m.length + 3 ≤ _; omega)).mono ?_
    rintro e w1 ⟨rfl, hg1⟩
    rw [HA.out] at hg1
    have HG1 := Lib.hid hg1
    clear hg1
    go_wp2_with fail
    refine bodyPost_ret (results_none rfl _ _ _) rfl ?_
    exact ⟨rfl, HG1.out⟩
  · have hlen : 0 < T.length := List.length_pos_iff.2 h0
    have HAD : Hid (adL T = [40] ++ T.flatMap oneAdL ++ [41]) := Lib.hid (by unfold adL; rw [if_neg h0])
    have HFL : Hid ((T.flatMap oneAdL).length ≤ 40000000000) := Lib.hid (by
      have h3 := flat_len (by decide) hT
      have h4 : T.length * (8 * 65539 + 100) ≤ 65539 * (8 * 65539 + 100) := Nat.mul_le_mul_right _ hT2
      omega)
    have HT := Lib.hid hT
    have HG := Lib.hid h
    have HR := Lib.hid hr
    have HE0 := Lib.hid hE0
    clear h hr hE0 hT h0
    go_enter Tryz.func43, Tryz.ntmps43
    go_wp2_with fail
    refine (add_new W0 A m [⟨#[40]⟩] #[.string ⟨#[40]⟩] 1 w HG.out rfl rfl (by decide) (by show m.length + 1 ≤ _; omega)).mono ?_
    rintro e w1 ⟨rfl, hg1⟩
    have H1 : Hid (Gone W0 A (m ++ [40] ++ (T.take 0).flatMap oneAdL) w w1) := Lib.hid (by
      rw [List.take_zero, List.flatMap_nil, List.append_nil]
      exact hg1)
    clear hg1
    go_wp2_with fail
    go_loopw [18] (fun i wr => ∃ k : Nat, k ≤ T.length ∧ i = .int .i64 (k : Int) ∧ Hid (Gone W0 A (m ++ [40] ++ (T.take k).flatMap oneAdL) w wr)) (fun i _ => T.length - (intOf i).toNat)
    case atStart => exact ⟨0, Nat.zero_le _, rfl, H1⟩
    case round =>
      clear H1
      obtain ⟨k, hk, rfl, hG⟩ := hrel
      by_cases hlt : k < T.length
      · have gk : (k : Int) < (T.length : Int) := by omega
        have HRk := Ad.RowA.at (row_gone HR.out HG.out hG.out)
        obtain ⟨a2, cap2, he2, hcell⟩ := HRk.form
        injection he2 with e1 _ e3
        subst e1 e3
        obtain ⟨g, o, rfl, hgl, c0, c1, c2⟩ := hcell k hlt
        have hts := HT.out T[k] (List.getElem_mem hlt)
        have hfk := flat_take_len T k
        have HST : Hid ((T.take (k + 1)).flatMap oneAdL = (T.take k).flatMap oneAdL ++ oneAdL T[k]) := Lib.hid (flat_take T k hlt)
        obtain ⟨a, ha⟩ : ∃ a, T[k] = a := ⟨_, rfl⟩
        rw [ha] at c0 c1 c2 hts HST
        obtain ⟨N, Bx, Hx⟩ := a
        obtain ⟨M, hM⟩ : ∃ M, m ++ [40] ++ (T.take k).flatMap oneAdL = M := ⟨_, rfl⟩
        have hMl : M.length ≤ 600000000000 := by
          have := HFL.out
          rw [← hM, List.length_append, List.length_append, List.length_singleton]
          omega
        have HNX : Hid (m ++ [40] ++ (T.take (k + 1)).flatMap oneAdL = M ++ oneAdL (N, Bx, Hx)) := Lib.hid (by rw [HST.out, ← hM, List.append_assoc, List.append_assoc, List.append_assoc])
        rw [hM] at hG
        simp only at c0 c1 c2 hts
        obtain ⟨t1, t2, t3⟩ := hts
        unfold Ad.sV at c0 c1 c2
        clear hcell HRk ha hM hfk HST
        have HSTR : Hid (∀ (l : List UInt8) (W : World), Hid (l.length ≤ 131078) → Tx.Env W → Calls Tryz.prog 75 #[.string ⟨l.toArray⟩] W fun e w' => e = .returned (.string ⟨(Tx.strL l).toArray⟩) ∧ Below W.heap.size W w') := Lib.hid (fun l W h1 h2 => Tx.string_any ⟨l.toArray⟩ W (by rw [Lib.size_mk]; have := h1.out; omega) h2)
        have HB : Hid (Bx.length ≤ 131078) := Lib.hid (by omega)
        have HH : Hid (Hx.length ≤ 131078) := Lib.hid (by omega)
        have HN : Hid (N.length ≤ 131078) := Lib.hid (by omega)
        have hX0 : Rd W0 A M w wr.heap.size Bx Hx (wr.alloc (.cells #[.string ⟨N.toArray⟩, .string ⟨Bx.toArray⟩, .string ⟨Hx.toArray⟩] 103)) :=
          ⟨gone_next hG.out ((Below.refl _ wr).alloc (Nat.le_refl _) _), Lib.cell_of_heap (Kit.fresh_block wr _ _) 1, Lib.cell_of_heap (Kit.fresh_block wr _ _) 2, HE0.out _ (hG.out.below.trans (((Below.refl _ wr).alloc (Nat.le_refl _) _).mono hG.out.gat.room))⟩
        have HX0 := Lib.hid hX0
        clear hX0
        have HONE : Hid (oneAdL (N, Bx, Hx) = flatT (oneT (if N = [] then nilT else Tx.strL N) (Tx.strL Bx) (Tx.strL Hx))) := Lib.hid (by rw [oneT_flat]; rfl)
        have HBND : Hid (M.length + (flatT (oneT (if N = [] then nilT else Tx.strL N) (Tx.strL Bx) (Tx.strL Hx))).length ≤ 1099511627776) := Lib.hid (by
          rw [← HONE.out]
          have := one_len (n := 65539) (a := (N, Bx, Hx)) (by decide) ⟨t1, t2, t3⟩
          omega)
        by_cases hN : N = []
        · subst hN
          rw [if_pos rfl] at HONE HBND
          go_wp2_with fail
          have hRd := HX0.out
          have q1 := hRd.c1
          have q2 := hRd.c2
          generalize (wr.alloc (.cells #[.string ⟨([] : List UInt8).toArray⟩, .string ⟨Bx.toArray⟩, .string ⟨Hx.toArray⟩] 103)) = X at *
          have hRd2 := hRd.next ((Below.refl _ X).drew)
          clear hRd
          go_region_with (first
            | (refine (HSTR.out _ _ (by assumption) (Rd.env (by assumption))).mono ?_; rintro e7 w7 ⟨rfl, hb7⟩; have hRd7 := Rd.next (by assumption) hb7; have p1 := hRd7.c1; have p2 := hRd7.c2)
            | (refine (add_new W0 A M (oneT nilT (Tx.strL Bx) (Tx.strL Hx)) _ 9 _ (Rd.gone (by assumption)).gat rfl rfl (by decide) HBND.out).mono ?_; rintro e8 w8 ⟨rfl, hg8⟩; have HG8 := Lib.hid (gone_trans (Rd.gone (by assumption)) hg8)))
          all_goals
            go_wp2_with fail
            go_roundw
            case rel =>
              refine ⟨k + 1, by omega, by go_num, ?_⟩
              rw [HNX.out, HONE.out]
              exact HG8
            case measure => simp [intOf]; omega
        · have gN : (N == []) = false := by simpa using hN
          rw [if_neg hN] at HONE HBND
          clear hN
          go_wp2_with fail
          have hRd0 := HX0.out
          generalize (wr.alloc (.cells #[.string ⟨N.toArray⟩, .string ⟨Bx.toArray⟩, .string ⟨Hx.toArray⟩] 103)) = X0 at *
          refine (HSTR.out N X0 HN hRd0.env).mono ?_
          rintro e6 X ⟨rfl, hb6⟩
          have hRd := hRd0.next hb6
          have q1 := hRd.c1
          have q2 := hRd.c2
          clear hRd0
          go_wp2_with fail
          have hRd2 := hRd.next ((Below.refl _ X).drew)
          clear hRd
          go_region_with (first
            | (refine (HSTR.out _ _ (by assumption) (Rd.env (by assumption))).mono ?_; rintro e7 w7 ⟨rfl, hb7⟩; have hRd7 := Rd.next (by assumption) hb7; have p1 := hRd7.c1; have p2 := hRd7.c2)
            | (refine (add_new W0 A M (oneT (Tx.strL N) (Tx.strL Bx) (Tx.strL Hx)) _ 9 _ (Rd.gone (by assumption)).gat rfl rfl (by decide) HBND.out).mono ?_; rintro e8 w8 ⟨rfl, hg8⟩; have HG8 := Lib.hid (gone_trans (Rd.gone (by assumption)) hg8)))
          all_goals
            go_wp2_with fail
            go_roundw
            case rel =>
              refine ⟨k + 1, by omega, by go_num, ?_⟩
              rw [HNX.out, HONE.out]
              exact HG8
            case measure => simp [intOf]; omega
      · have he : k = T.length := by omega
        subst he
        have HF : Hid (Gone W0 A (m ++ [40] ++ T.flatMap oneAdL) w wr) := Lib.hid (by have := hG.out; rw [List.take_of_length_le (Nat.le_refl _)] at this; exact this)
        have hML : (m ++ [40] ++ T.flatMap oneAdL).length ≤ 600000000000 := by
          have := HFL.out
          rw [List.length_append, List.length_append, List.length_singleton]
          omega
        clear hG
        go_wp2_with fail
        refine (add_new W0 A (m ++ [40] ++ T.flatMap oneAdL) [⟨#[41]⟩] #[.string ⟨#[41]⟩] 1 wr HF.out.gat rfl rfl (by decide) (by show _ + 1 ≤ _; omega)).mono ?_
        rintro e w2 ⟨rfl, hg2⟩
        have HG2 : Hid (Gone W0 A (m ++ adL T) w w2) := Lib.hid (by
          have := gone_trans HF.out hg2
          rw [HAD.out, ← List.append_assoc, ← List.append_assoc]
          exact this)
        clear hg2
        go_wp2_with fail
        go_end0
        exact ⟨rfl, HG2.out⟩
end Go.Proofs.YtnnbbjdidbggmaaGreatDoor.Lk
namespace Go.Proofs.YtnnbbjdidbggmaaGreatDoor.Lk
open Go Go.RowKit Go.Joins Kit F0 Pt

def nmK : Nat → List UInt8
  | 0 => fromN
  | 1 => sendN
  | 2 => replN
  | 3 => toN
  | 4 => ccN
  | _ => bccN
def tK (fs : List F0.Fl) (k : Nat) : List Ad.Ad3 := if k = 1 ∨ k = 2 then orFrom fs (nmK k) else addrsL fs (nmK k)
def sixL (fs : List F0.Fl) : Nat → List UInt8
  | 0 => []
  | k + 1 => sixL fs k ++ [32] ++ adL (tK fs k)
theorem env_six (fs : List F0.Fl) : envF fs = ([40] ++ nstrL fs dateN ++ [32] ++ nstrL fs subjN) ++ sixL fs 6 ++ ([32] ++ nstrL fs inreN ++ [32] ++ nstrL fs msgN ++ [41]) := by
  have h0 : tK fs 0 = addrsL fs fromN := by unfold tK; rw [if_neg (by decide)]; rfl
  have h1 : tK fs 1 = orFrom fs sendN := by unfold tK; rw [if_pos (Or.inl rfl)]; rfl
  have h2 : tK fs 2 = orFrom fs replN := by unfold tK; rw [if_pos (Or.inr rfl)]; rfl
  have h3 : tK fs 3 = addrsL fs toN := by unfold tK; rw [if_neg (by decide)]; rfl
  have h4 : tK fs 4 = addrsL fs ccN := by unfold tK; rw [if_neg (by decide)]; rfl
  have h5 : tK fs 5 = addrsL fs bccN := by unfold tK; rw [if_neg (by decide)]; rfl
  unfold envF
  rw [sixL, sixL, sixL, sixL, sixL, sixL, sixL, h0, h1, h2, h3, h4, h5]
  simp only [List.append_assoc, List.nil_append]
theorem addrs_small {fs : List F0.Fl} (h : ∀ n, (fvL fs n).length ≤ 32768) (n : List UInt8) : (adL (addrsL fs n)).length ≤ 50000000000 ∧ TS 65539 (addrsL fs n) ∧ (addrsL fs n).length ≤ 65539 := by
  have := adL_len (h n)
  unfold addrsL
  exact this
theorem tK_small {fs : List F0.Fl} (h : ∀ n, (fvL fs n).length ≤ 32768) (k : Nat) : (adL (tK fs k)).length ≤ 50000000000 ∧ TS 65539 (tK fs k) ∧ (tK fs k).length ≤ 65539 := by
  unfold tK
  split
  · unfold orFrom
    split
    · exact addrs_small h _
    · exact addrs_small h _
  · exact addrs_small h _
theorem six_len {fs : List F0.Fl} (h : ∀ n, (fvL fs n).length ≤ 32768) : ∀ k, (sixL fs k).length ≤ k * 50000000001
  | 0 => Nat.le_refl _
  | k + 1 => by
    have h1 := six_len h k
    have h2 := (tK_small h k).1
    rw [sixL, List.length_append, List.length_append, List.length_singleton]
    omega
theorem nmK_lit : ∀ k : Nat, k < 6 → (#[.string ⟨#[70, 114, 111, 109]⟩, .string ⟨#[83, 101, 110, 100, 101, 114]⟩, .string ⟨#[82, 101, 112, 108, 121, 45, 84, 111]⟩, .string ⟨#[84, 111]⟩, .string ⟨#[67, 99]⟩, .string ⟨#[66, 99, 99]⟩] : Array Value)[k]? = some (.string ⟨(nmK k).toArray⟩)
  | 0, _ => rfl
  | 1, _ => rfl
  | 2, _ => rfl
  | 3, _ => rfl
  | 4, _ => rfl
  | 5, _ => rfl
  | k + 6, h => by omega
theorem nmK_kind : ∀ k : Nat, k < 6 → (k = 1 ∧ (nmK k == [83, 101, 110, 100, 101, 114]) = true) ∨ (k = 2 ∧ (nmK k == [83, 101, 110, 100, 101, 114]) = false ∧ (nmK k == [82, 101, 112, 108, 121, 45, 84, 111]) = true) ∨ ((k ≠ 1 ∧ k ≠ 2) ∧ (nmK k == [83, 101, 110, 100, 101, 114]) = false ∧ (nmK k == [82, 101, 112, 108, 121, 45, 84, 111]) = false)
  | 0, _ => Or.inr (Or.inr ⟨by decide, rfl, rfl⟩)
  | 1, _ => Or.inl ⟨rfl, rfl⟩
  | 2, _ => Or.inr (Or.inl ⟨rfl, rfl, rfl⟩)
  | 3, _ => Or.inr (Or.inr ⟨by decide, rfl, rfl⟩)
  | 4, _ => Or.inr (Or.inr ⟨by decide, rfl, rfl⟩)
  | 5, _ => Or.inr (Or.inr ⟨by decide, rfl, rfl⟩)
  | k + 6, h => by omega
theorem nmK_size (k : Nat) : (nmK k).length ≤ 8 := by
  unfold nmK
  split <;> decide
theorem tK_own {fs : List F0.Fl} {k : Nat} (h : addrsL fs (nmK k) ≠ []) : tK fs k = addrsL fs (nmK k) := by
  unfold tK orFrom
  rw [if_neg h]
  split <;> rfl
theorem tK_other {fs : List F0.Fl} {k : Nat} (h1 : k ≠ 1) (h2 : k ≠ 2) : tK fs k = addrsL fs (nmK k) := by
  unfold tK
  rw [if_neg (by omega)]
theorem tK_from {fs : List F0.Fl} {k : Nat} (hk : k = 1 ∨ k = 2) (h : addrsL fs (nmK k) = []) : tK fs k = addrsL fs fromN := by
  unfold tK orFrom
  rw [if_pos hk, if_pos h]

set_option maxHeartbeats 4000000 in
set_option maxRecDepth 100000 in
theorem envelope_any (s : ByteArray) (w0 : World) (hs : s.size ≤ 32768) (hE : Tx.Env w0) :
    Calls Tryz.prog 18 #[.string s] w0 fun e w' => e = .returned (.string ⟨(envL s.data.toList).toArray⟩) ∧ Below w0.heap.size w0 w' := by
  have HE := Lib.hid hE
  have HEN : Hid (envL s.data.toList = envF (headL s.data.toList 0 s.size).1) := Lib.hid (by unfold envL; rw [Lib.size_eq])
  have HSM := Lib.hid (head_small s hs)
  have HH := Lib.hid (head_any s w0 hs (srch_of hE))
  obtain ⟨fs, hfs⟩ : ∃ fs, (headL s.data.toList 0 s.size).1 = fs := ⟨_, rfl⟩
  obtain ⟨bd, hbd⟩ : ∃ bd, (headL s.data.toList 0 s.size).2 = bd := ⟨_, rfl⟩
  rw [hfs] at HEN HSM
  rw [hfs, hbd] at HH
  clear hfs hbd hE
  go_enter Tryz.func18, Tryz.ntmps18
  go_wp2_with fail
  refine HH.out.mono ?_
  rintro e w1 ⟨v, rfl, hF, hb1⟩
  obtain ⟨va, vc, rfl, _⟩ := hF.form
  have HF := Lib.hid hF
  have HE1 := Lib.hid (HE.out.next hb1)
  have HB1 := Lib.hid hb1
  clear hF hb1
  go_wp2_with fail
  refine (addresses_any _ fs ⟨#[70, 114, 111, 109]⟩ w1 HF.out HSM.out.1 (HSM.out.2.2 fromN) (by decide) HSM.out.2.1 (srch_of HE1.out)).mono ?_
  rintro e w ⟨uf, rfl, hr, hb⟩
  obtain ⟨fa, fc, rfl⟩ := Ad.row_form hr
  have HFW : Hid ((∀ W', Below w.heap.size w W' → FAt W' (.slice va fs.length vc) fs) ∧ (∀ W', Below w.heap.size w W' → Tx.Env W') ∧ (∀ W', Below w.heap.size w W' → Ad.RowA 0 (.slice fa (addrsL fs fromN).length fc) (addrsL fs fromN) W')) := Lib.hid
    ⟨fun W' h => (HF.out.below hb).below h, fun W' h => (HE1.out.next hb).next h, fun W' h => Ad.row_below (show Ad.RowA 0 _ _ w from ⟨hr.1, hr.2.imp id (fun ⟨g, cap, cur, a, b, c⟩ => ⟨g, cap, cur, a, Nat.zero_le _, c⟩)⟩) h⟩
  have HBW := Lib.hid (HB1.out.trans (hb.mono HB1.out.size))
  rw [show (ByteArray.mk #[70, 114, 111, 109]).data.toList = fromN from rfl]
  clear hr hb
  go_wp2_with fail
  refine (gather_any w).mono ?_
  rintro e w2 ⟨rfl, hw2⟩
  have G2 : Hid (Gat w w.heap.size [] w2) := Lib.hid (by rw [hw2]; exact gat_new w)
  clear hw2

  go_wp2_with fail

  refine (nstring_any _ fs ⟨#[68, 97, 116, 101]⟩ w2 (HFW.out.1 w2 G2.out.below) HSM.out.1 (by decide) HSM.out.2.1 (HFW.out.2.1 w2 G2.out.below)).mono ?_
  rintro e w3 ⟨rfl, hb3⟩
  rw [show (ByteArray.mk #[68, 97, 116, 101]).data.toList = dateN from rfl]
  have G3 := Lib.hid (G2.out.next hb3)
  clear hb3
  go_wp2_with fail
  refine (nstring_any _ fs ⟨#[83, 117, 98, 106, 101, 99, 116]⟩ w3 (HFW.out.1 w3 G3.out.below) HSM.out.1 (by decide) HSM.out.2.1 (HFW.out.2.1 w3 G3.out.below)).mono ?_
  rintro e w4 ⟨rfl, hb4⟩
  rw [show (ByteArray.mk #[83, 117, 98, 106, 101, 99, 116]).data.toList = subjN from rfl]
  have G4 := Lib.hid (G3.out.next hb4)
  clear hb4
  have hz1 := nstr_len fs dateN (HSM.out.2.2 dateN)
  have hz2 := nstr_len fs subjN (HSM.out.2.2 subjN)
  have HTX : Hid (flatT [⟨#[40]⟩, ⟨(nstrL fs dateN).toArray⟩, ⟨#[32]⟩, ⟨(nstrL fs subjN).toArray⟩] = [40] ++ nstrL fs dateN ++ [32] ++ nstrL fs subjN) := Lib.hid (by simp [flatT])
  have HTL : Hid ((flatT [⟨#[40]⟩, ⟨(nstrL fs dateN).toArray⟩, ⟨#[32]⟩, ⟨(nstrL fs subjN).toArray⟩]).length ≤ 200000) := Lib.hid (by rw [HTX.out]; simp only [List.length_append, List.length_singleton]; omega)
  clear hz1 hz2
  go_wp2_with fail
  refine (add_new w w.heap.size [] [⟨#[40]⟩, ⟨(nstrL fs dateN).toArray⟩, ⟨#[32]⟩, ⟨(nstrL fs subjN).toArray⟩] _ 4 w4 G4.out rfl rfl (by decide) (by have := HTL.out; rw [List.length_nil]; omega)).mono ?_
  rintro e w5 ⟨rfl, hg5⟩
  rw [List.nil_append, HTX.out] at hg5
  rw [HTX.out] at HTL
  obtain ⟨E0, hE0⟩ : ∃ E0, [40] ++ nstrL fs dateN ++ [32] ++ nstrL fs subjN = E0 := ⟨_, rfl⟩
  have HES : Hid (envF fs = E0 ++ sixL fs 6 ++ ([32] ++ nstrL fs inreN ++ [32] ++ nstrL fs msgN ++ [41])) := Lib.hid (by rw [env_six, hE0])
  rw [hE0] at hg5 HTL
  have G5 := Lib.hid hg5.gat
  clear hg5 hE0 HTX
  go_wp2_with fail
  obtain ⟨W5, hW5⟩ : ∃ W5, w5.alloc (.cells #[.string ⟨#[70, 114, 111, 109]⟩, .string ⟨#[83, 101, 110, 100, 101, 114]⟩, .string ⟨#[82, 101, 112, 108, 121, 45, 84, 111]⟩, .string ⟨#[84, 111]⟩, .string ⟨#[67, 99]⟩, .string ⟨#[66, 99, 99]⟩] 9) = W5 := ⟨_, rfl⟩
  have GW : Hid (Gone w w.heap.size (E0 ++ sixL fs 0) W5 W5) := Lib.hid (by
    rw [← hW5, show sixL fs 0 = [] from rfl, List.append_nil]
    exact gone_refl (G5.out.next ((Below.refl _ w5).alloc (Nat.le_refl _) _)))
  have HLIT : Hid (∃ cs : Array Value, W5.heap[w5.heap.size]? = some (.cells cs 9 (0, 0)) ∧ ∀ k, k < 6 → cs[k]? = some (.string ⟨(nmK k).toArray⟩)) := Lib.hid ⟨_, by rw [← hW5]; exact Kit.fresh_block w5 _ _, nmK_lit⟩
  have HNE : Hid (w5.heap.size ≠ w.heap.size) := Lib.hid (fun e => by have := G5.out.lt; omega)
  rw [hW5]
  clear hW5
  go_loopw [33] (fun i wr => ∃ k : Nat, k ≤ 6 ∧ i = .int .i64 (k : Int) ∧ Hid (Gone w w.heap.size (E0 ++ sixL fs k) W5 wr)) (fun i _ => 6 - (intOf i).toNat)
  case atStart => exact ⟨0, by omega, rfl, GW⟩
  case round =>
    clear GW
    obtain ⟨k, hk, rfl, hG⟩ := hrel
    by_cases hlt : k < 6
    · have gk : (k : Int) < 6 := by omega
      have hcell : wr.cell? ⟨w5.heap.size, k, none⟩ = some (.string ⟨(nmK k).toArray⟩) := by
        obtain ⟨cs, h1, h2⟩ := HLIT.out
        rw [Lib.cell_of_heap (gone_cell hG.out h1 (by decide) HNE.out)]
        exact h2 k hlt
      have hkind := nmK_kind k hlt
      have hns := nmK_size k
      have HST : Hid (E0 ++ sixL fs (k + 1) = E0 ++ sixL fs k ++ [32] ++ adL (tK fs k)) := Lib.hid (by rw [sixL]; simp)
      have hsl := six_len HSM.out.2.2 k
      have htl := HTL.out
      obtain ⟨M, hM⟩ : ∃ M, E0 ++ sixL fs k = M := ⟨_, rfl⟩
      have hMl : M.length ≤ 400000000000 := by rw [← hM, List.length_append]; omega
      rw [hM] at hG HST
      clear hM hsl htl
      have HTK := Lib.hid (And.intro (fun h1 h2 => @tK_other fs k h1 h2) (And.intro (fun h => @tK_own fs k h) (fun h1 h2 => @tK_from fs k h1 h2)))
      have HZ := Lib.hid (addrs_small HSM.out.2.2 (nmK k))
      have HZF := Lib.hid (addrs_small HSM.out.2.2 fromN)
      have HVZ := Lib.hid (HSM.out.2.2 (nmK k))
      obtain ⟨NM, hNM⟩ : ∃ NM, nmK k = NM := ⟨_, rfl⟩
      rw [hNM] at hcell hkind hns HTK HZ HVZ
      clear hNM
      have hAC : Hid (∀ W, Below w.heap.size w W → Calls Tryz.prog 41 #[.slice va fs.length vc, .string ⟨NM.toArray⟩] W fun e w' => ∃ u, e = .returned u ∧ Ad.RowA W.heap.size u (addrsL fs NM) w' ∧ Below W.heap.size W w') := Lib.hid (fun W h =>
        addresses_any _ fs ⟨NM.toArray⟩ W (HFW.out.1 W h) HSM.out.1 HVZ.out (by rw [Lib.size_mk]; omega) HSM.out.2.1 (srch_of (HFW.out.2.1 W h)))
      obtain ⟨T, hT⟩ : ∃ T, addrsL fs NM = T := ⟨_, rfl⟩
      rw [hT] at hAC HTK HZ
      clear hT
      by_cases hTe : T = []
      · subst hTe
        rcases hkind with ⟨hk1, g1⟩ | ⟨hk1, g1, g2⟩ | ⟨hk1, g1, g2⟩
        · have HTE : Hid (tK fs k = addrsL fs fromN) := Lib.hid (HTK.out.2.2 (by omega) rfl)
          clear HTK hk1
          go_wp2_with fail
          refine (hAC.out wr hG.out.gat.below).mono ?_
          rintro e w6 ⟨u, rfl, hr6, hb6⟩
          obtain ⟨ua, uc, rfl⟩ := Ad.row_form hr6
          have G6 := Lib.hid (gone_next hG.out hb6)
          have R6 := Lib.hid hr6
          clear hr6 hb6

          go_wp2_with fail
          refine (add_new w w.heap.size M [⟨#[32]⟩] #[.string ⟨#[32]⟩] 1 w6 G6.out.gat rfl rfl (by decide) (by show M.length + 1 ≤ _; omega)).mono ?_
          rintro e w7 ⟨rfl, hg7⟩
          have G7 := Lib.hid (gone_trans G6.out hg7)
          have R7 : Hid (Ad.RowA 0 (.slice fa (addrsL fs fromN).length fc) (addrsL fs fromN) w7) := Lib.hid (HFW.out.2.2 w7 G7.out.gat.below)
          clear hg7
          go_wp2_with fail
          refine (adds_any w w.heap.size (M ++ flatT [⟨#[32]⟩]) 0 (.slice fa (addrsL fs fromN).length fc) (addrsL fs fromN) w7 G7.out.gat R7.out HZF.out.2.1 HZF.out.2.2 (by rw [List.length_append]; show M.length + 1 ≤ _; omega) (fun w' hb => HFW.out.2.1 w' (G7.out.gat.below.trans hb))).mono ?_
          rintro e w8 ⟨rfl, hg8⟩
          have G8 : Hid (Gone w w.heap.size (E0 ++ sixL fs (k + 1)) W5 w8) := Lib.hid (by
            have h := gone_trans G7.out hg8
            rw [HST.out, HTE.out]
            exact h)
          clear hg8
          go_wp2_with fail
          go_roundw
          case rel => exact ⟨k + 1, by omega, by go_num, G8⟩
          case measure => simp [intOf]; omega

        · have HTE : Hid (tK fs k = addrsL fs fromN) := Lib.hid (HTK.out.2.2 (by omega) rfl)
          clear HTK hk1
          go_wp2_with fail
          refine (hAC.out wr hG.out.gat.below).mono ?_
          rintro e w6 ⟨u, rfl, hr6, hb6⟩
          obtain ⟨ua, uc, rfl⟩ := Ad.row_form hr6
          have G6 := Lib.hid (gone_next hG.out hb6)
          have R6 := Lib.hid hr6
          clear hr6 hb6

          go_wp2_with fail
          refine (add_new w w.heap.size M [⟨#[32]⟩] #[.string ⟨#[32]⟩] 1 w6 G6.out.gat rfl rfl (by decide) (by show M.length + 1 ≤ _; omega)).mono ?_
          rintro e w7 ⟨rfl, hg7⟩
          have G7 := Lib.hid (gone_trans G6.out hg7)
          have R7 : Hid (Ad.RowA 0 (.slice fa (addrsL fs fromN).length fc) (addrsL fs fromN) w7) := Lib.hid (HFW.out.2.2 w7 G7.out.gat.below)
          clear hg7
          go_wp2_with fail
          refine (adds_any w w.heap.size (M ++ flatT [⟨#[32]⟩]) 0 (.slice fa (addrsL fs fromN).length fc) (addrsL fs fromN) w7 G7.out.gat R7.out HZF.out.2.1 HZF.out.2.2 (by rw [List.length_append]; show M.length + 1 ≤ _; omega) (fun w' hb => HFW.out.2.1 w' (G7.out.gat.below.trans hb))).mono ?_
          rintro e w8 ⟨rfl, hg8⟩
          have G8 : Hid (Gone w w.heap.size (E0 ++ sixL fs (k + 1)) W5 w8) := Lib.hid (by
            have h := gone_trans G7.out hg8
            rw [HST.out, HTE.out]
            exact h)
          clear hg8
          go_wp2_with fail
          go_roundw
          case rel => exact ⟨k + 1, by omega, by go_num, G8⟩
          case measure => simp [intOf]; omega

        · have HTE : Hid (tK fs k = []) := Lib.hid (HTK.out.1 hk1.1 hk1.2)
          clear HTK hk1
          go_wp2_with fail
          refine (hAC.out wr hG.out.gat.below).mono ?_
          rintro e w6 ⟨u, rfl, hr6, hb6⟩
          obtain ⟨ua, uc, rfl⟩ := Ad.row_form hr6
          have G6 := Lib.hid (gone_next hG.out hb6)
          have R6 := Lib.hid hr6
          clear hr6 hb6

          go_wp2_with fail
          refine (add_new w w.heap.size M [⟨#[32]⟩] #[.string ⟨#[32]⟩] 1 w6 G6.out.gat rfl rfl (by decide) (by show M.length + 1 ≤ _; omega)).mono ?_
          rintro e w7 ⟨rfl, hg7⟩
          have G7 := Lib.hid (gone_trans G6.out hg7)
          have R7 : Hid (Ad.RowA wr.heap.size (.slice ua 0 uc) [] w7) := Lib.hid (row_gone R6.out G6.out.gat hg7)
          clear hg7
          go_wp2_with fail
          refine (adds_any w w.heap.size (M ++ flatT [⟨#[32]⟩]) wr.heap.size (.slice ua 0 uc) [] w7 G7.out.gat R7.out HZ.out.2.1 HZ.out.2.2 (by rw [List.length_append]; show M.length + 1 ≤ _; omega) (fun w' hb => HFW.out.2.1 w' (G7.out.gat.below.trans hb))).mono ?_
          rintro e w8 ⟨rfl, hg8⟩
          have G8 : Hid (Gone w w.heap.size (E0 ++ sixL fs (k + 1)) W5 w8) := Lib.hid (by
            have h := gone_trans G7.out hg8
            rw [HST.out, HTE.out]
            exact h)
          clear hg8
          go_wp2_with fail
          go_roundw
          case rel => exact ⟨k + 1, by omega, by go_num, G8⟩
          case measure => simp [intOf]; omega

      · have HTE : Hid (tK fs k = T) := Lib.hid (HTK.out.2.1 hTe)
        have hTl : 0 < T.length := List.length_pos_iff.2 hTe
        have g0 : ((T.length : Int) == 0) = false := by rw [beq_eq_false_iff_ne]; omega
        clear HTK hkind hTe hTl
        go_wp2_with fail
        refine (hAC.out wr hG.out.gat.below).mono ?_
        rintro e w6 ⟨u, rfl, hr6, hb6⟩
        obtain ⟨ua, uc, rfl⟩ := Ad.row_form hr6
        have G6 := Lib.hid (gone_next hG.out hb6)
        have R6 := Lib.hid hr6
        clear hr6 hb6

        go_wp2_with fail
        refine (add_new w w.heap.size M [⟨#[32]⟩] #[.string ⟨#[32]⟩] 1 w6 G6.out.gat rfl rfl (by decide) (by show M.length + 1 ≤ _; omega)).mono ?_
        rintro e w7 ⟨rfl, hg7⟩
        have G7 := Lib.hid (gone_trans G6.out hg7)
        have R7 : Hid (Ad.RowA wr.heap.size (.slice ua T.length uc) T w7) := Lib.hid (row_gone R6.out G6.out.gat hg7)
        clear hg7
        go_wp2_with fail
        refine (adds_any w w.heap.size (M ++ flatT [⟨#[32]⟩]) wr.heap.size (.slice ua T.length uc) T w7 G7.out.gat R7.out HZ.out.2.1 HZ.out.2.2 (by rw [List.length_append]; show M.length + 1 ≤ _; omega) (fun w' hb => HFW.out.2.1 w' (G7.out.gat.below.trans hb))).mono ?_
        rintro e w8 ⟨rfl, hg8⟩
        have G8 : Hid (Gone w w.heap.size (E0 ++ sixL fs (k + 1)) W5 w8) := Lib.hid (by
          have h := gone_trans G7.out hg8
          rw [HST.out, HTE.out]
          exact h)
        clear hg8
        go_wp2_with fail
        go_roundw
        case rel => exact ⟨k + 1, by omega, by go_num, G8⟩
        case measure => simp [intOf]; omega

    · obtain rfl : k = 6 := by omega
      have hsl := six_len HSM.out.2.2 6
      have htl := HTL.out
      have hML : (E0 ++ sixL fs 6).length ≤ 400000000000 := by rw [List.length_append]; omega
      have HG := Lib.hid hG.out.gat
      clear hG hsl htl
      go_wp2_with fail
      refine (nstring_any _ fs ⟨#[73, 110, 45, 82, 101, 112, 108, 121, 45, 84, 111]⟩ wr (HFW.out.1 wr HG.out.below) HSM.out.1 (by decide) HSM.out.2.1 (HFW.out.2.1 wr HG.out.below)).mono ?_
      rintro e w6 ⟨rfl, hb6⟩
      rw [show (ByteArray.mk #[73, 110, 45, 82, 101, 112, 108, 121, 45, 84, 111]).data.toList = inreN from rfl]
      have G6 := Lib.hid (HG.out.next hb6)
      clear hb6
      go_wp2_with fail
      refine (nstring_any _ fs ⟨#[77, 101, 115, 115, 97, 103, 101, 45, 73, 100]⟩ w6 (HFW.out.1 w6 G6.out.below) HSM.out.1 (by decide) HSM.out.2.1 (HFW.out.2.1 w6 G6.out.below)).mono ?_
      rintro e w7 ⟨rfl, hb7⟩
      rw [show (ByteArray.mk #[77, 101, 115, 115, 97, 103, 101, 45, 73, 100]).data.toList = msgN from rfl]
      have G7 := Lib.hid (G6.out.next hb7)
      clear hb7
      have hz1 := nstr_len fs inreN (HSM.out.2.2 inreN)
      have hz2 := nstr_len fs msgN (HSM.out.2.2 msgN)
      have HTY : Hid (flatT [⟨#[32]⟩, ⟨(nstrL fs inreN).toArray⟩, ⟨#[32]⟩, ⟨(nstrL fs msgN).toArray⟩, ⟨#[41]⟩] = [32] ++ nstrL fs inreN ++ [32] ++ nstrL fs msgN ++ [41]) := Lib.hid (by simp [flatT])
      have HTZ : Hid ((flatT [⟨#[32]⟩, ⟨(nstrL fs inreN).toArray⟩, ⟨#[32]⟩, ⟨(nstrL fs msgN).toArray⟩, ⟨#[41]⟩]).length ≤ 200000) := Lib.hid (by rw [HTY.out]; simp only [List.length_append, List.length_singleton]; omega)
      clear hz1 hz2
      go_wp2_with fail
      refine (add_new w w.heap.size (E0 ++ sixL fs 6) [⟨#[32]⟩, ⟨(nstrL fs inreN).toArray⟩, ⟨#[32]⟩, ⟨(nstrL fs msgN).toArray⟩, ⟨#[41]⟩] _ 5 w7 G7.out rfl rfl (by decide) (by have := HTZ.out; omega)).mono ?_
      rintro e w8 ⟨rfl, hg8⟩
      rw [HTY.out, ← HES.out] at hg8
      have G8 := Lib.hid hg8.gat
      clear hg8
      go_wp2_with fail
      refine (told_any w w.heap.size _ w8 G8.out).mono ?_
      rintro e w9 ⟨rfl, rfl⟩
      have HB := Lib.hid (HBW.out.trans (G8.out.below.mono HBW.out.size))
      go_wp2_with fail
      go_ret
      rw [HEN.out]
      exact ⟨rfl, HB.out⟩
end Go.Proofs.YtnnbbjdidbggmaaGreatDoor.Lk
namespace Go.Proofs.YtnnbbjdidbggmaaGreatDoor.Lk
open Go Go.RowKit Go.Joins Kit

theorem envelope_to {X : ByteArray} (Y : ByteArray) (w : World) (hs : X.size ≤ 32768) (h : envL X.data.toList = Y.data.toList) (hE : Tx.Env w) :
    Calls Tryz.prog 18 #[.string X] w fun e w' => e = .returned (.string Y) ∧ Below w.heap.size w w' := by
  have := envelope_any X w hs hE
  rw [h] at this
  exact this
theorem subject_to {X : ByteArray} (Y : ByteArray) (w : World) (hs : X.size ≤ 32768) (h : subjL X.data.toList = Y.data.toList) (hE : Tx.Env w) :
    Calls Tryz.prog 16 #[.string X] w fun e w' => e = .returned (.string Y) ∧ Below w.heap.size w w' := by
  have := subject_any X w hs (srch_of hE)
  rw [h] at this
  exact this

theorem beq_list (s : ByteArray) (l : List UInt8) : (s.toList == l) = decide (s.data.toList = l) := by rw [Lib.toList_data]; by_cases h : s.data.toList = l <;> simp [h]
theorem told_to (l : List UInt8) : ∃ Y : ByteArray, Y.data.toList = l ∧ (Y.toList == l) = true := ⟨⟨l.toArray⟩, rfl, by rw [beq_list]; exact decide_eq_true rfl⟩

set_option maxHeartbeats 1000000 in
set_option maxRecDepth 100000 in
theorem awake_any (w : World) (hE : Tx.Env w) :
    Calls Tryz.prog 10 #[] w fun e w' => e = .returned (.bool true) ∧ Below w.heap.size w w' := by
  obtain ⟨Y, hY, gY⟩ := told_to wakeE
  obtain ⟨Z, hZ, gZ⟩ := told_to [97]
  have HC : Hid (∀ W, Tx.Env W → Calls Tryz.prog 18 #[.string ⟨#[]⟩] W fun e w' => e = .returned (.string Y) ∧ Below W.heap.size W w') := Lib.hid (fun W h => envelope_to Y W (by decide) (by rw [hY]; exact wake_env) h)
  have HD : Hid (∀ W, Tx.Env W → Calls Tryz.prog 16 #[.string ⟨#[83, 117, 98, 106, 101, 99, 116, 58, 32, 61, 63, 117, 116, 102, 45, 56, 63, 81, 63, 97, 63, 61, 10, 10]⟩] W fun e w' => e = .returned (.string Z) ∧ Below W.heap.size W w') := Lib.hid (fun W h => subject_to Z W (by decide) (by rw [hZ]; exact wake_subj) h)
  unfold wakeE at gY
  have HE := Lib.hid hE
  clear hE hY hZ
  go_enter Tryz.func10, Tryz.ntmps10
  go_wp2_with fail
  refine (HC.out w HE.out).mono ?_
  rintro e w1 ⟨rfl, hb1⟩
  go_wp2_with fail
  refine (HD.out w1 (HE.out.next hb1)).mono ?_
  rintro e w2 ⟨rfl, hb2⟩
  go_wp2_with fail
  go_ret
  exact ⟨rfl, hb1.trans (hb2.mono hb1.size)⟩
end Go.Proofs.YtnnbbjdidbggmaaGreatDoor.Lk
namespace Go.Proofs.YtnnbbjdidbggmaaGreatDoor.Lk
open Go Go.RowKit Go.Joins Kit F0 Pt

/-- The pieces: each with its number and its text. -/
def itQ (xs : List ByteArray) (k : Nat) : List UInt8 × List UInt8 := (ptP k, cleanL ((xs.getD k ⟨#[]⟩).data.toList))
def itsQ (xs : List ByteArray) (k : Nat) : List (List UInt8 × List UInt8) := (List.range k).map (itQ xs)
theorem its_succ (xs : List ByteArray) (k : Nat) : itsQ xs (k + 1) = itsQ xs k ++ [itQ xs k] := by
  unfold itsQ
  rw [List.range_succ, List.map_append]
  rfl
theorem its_len (xs : List ByteArray) (k : Nat) : (itsQ xs k).length = k := by simp [itsQ]
theorem its_at (xs : List ByteArray) (k m : Nat) (h : m < (itsQ xs k).length) : (itsQ xs k)[m] = itQ xs m := by simp [itsQ]
theorem its_head {xs : List ByteArray} {k : Nat} (hk : k ≤ 20) : ∀ x ∈ itsQ xs k, ∃ i, i < 21 ∧ x.1 = ptP i := fun x hx => by
  obtain ⟨i, hi, rfl⟩ := List.mem_map.1 hx
  have := List.mem_range.1 hi
  exact ⟨i, by omega, rfl⟩
theorem its_pure {xs : List ByteArray} {k : Nat} : ∀ x ∈ itsQ xs k, Pure x.2 := fun x hx => by
  obtain ⟨i, hi, rfl⟩ := List.mem_map.1 hx
  exact clean_pure _
theorem digs_list (k : Nat) : (Dg.digs (k : Int)).data.toList = Lib.decDigits k := by
  show (Lib.decDigits (k : Int).toNat) = _
  rw [Int.toNat_natCast]
theorem sec_told {s spec : ByteArray} {t : List UInt8} (T : ByteArray) (h : secL s.data.toList spec.data.toList = some t) (hT : T.data.toList = t) (w : World) (hs : s.size ≤ 32768) (hsp : spec.size ≤ 1000000) (hE : Srch.Env w) :
    Calls Tryz.prog 11 #[.string s, .string spec] w fun e w' => e = .returned (.tuple #[.string T, .bool true]) ∧ Below w.heap.size w w' :=
  (section_any s spec w hs hsp hE).mono (fun e w' k => by
    have := k.2
    unfold SecOut at this
    rw [h] at this
    refine ⟨?_, k.1⟩
    rw [this, ← hT])
theorem sec_not {s spec : ByteArray} (h : secL s.data.toList spec.data.toList = none) (w : World) (hs : s.size ≤ 32768) (hsp : spec.size ≤ 1000000) (hE : Srch.Env w) :
    Calls Tryz.prog 11 #[.string s, .string spec] w fun e w' => e = .returned (.tuple #[.string ⟨#[]⟩, .bool false]) ∧ Below w.heap.size w w' :=
  (section_any s spec w hs hsp hE).mono (fun e w' k => by
    have := k.2
    unfold SecOut at this
    rw [h] at this
    exact ⟨this, k.1⟩)

set_option maxHeartbeats 8000000 in
set_option maxRecDepth 100000 in
theorem lookParts_walk (A0 : Option Addr) (n0 c0 : Nat) (xs : List ByteArray) (w : World) (l0 : xs.length = n0) (_b0 : n0 ≤ 9223372036854775807) (L0 : ListAt w A0 (xs.map .string)) (hE : Tx.Env w) :
    Calls Tryz.prog 7 #[.slice A0 n0 c0] w fun e w' => e = .returned (.bool true) ∧ Below w.heap.size w w' := by
  have HE := Lib.hid hE
  have HL := Lib.hid l0
  have HM := Lib.hid L0
  clear hE l0 L0
  by_cases g : n0 = 0 ∨ 20 < n0
  · have g' : (((n0 : Int) == 0) = true ∧ (n0 : Int) = 0) ∨ (((n0 : Int) == 0) = false ∧ (20 : Int) < (n0 : Int)) := by
      by_cases h : n0 = 0
      · left; subst h; exact ⟨rfl, rfl⟩
      · right; exact ⟨by rw [beq_eq_false_iff_ne]; omega, by omega⟩
    clear g
    rcases g' with ⟨g1, g2⟩ | ⟨g1, g2⟩
    all_goals
      go_enter Tryz.func7, Tryz.ntmps7
      go_wp2_with fail
      refine (awake_any w HE.out).mono ?_
      rintro e w1 ⟨rfl, hb1⟩
      go_wp2_with fail
      go_ret
      exact ⟨rfl, hb1⟩
  have q1 : ((n0 : Int) == 0) = false := by rw [beq_eq_false_iff_ne]; omega
  have q2 : ¬ (20 : Int) < (n0 : Int) := by omega
  have hn0 : n0 ≤ 20 := by omega
  have hn1 : 0 < n0 := by omega
  clear g
  go_enter Tryz.func7, Tryz.ntmps7
  go_wp2_with fail
  go_loopg [3, 4] n0 (fun m sv iv wr => ∃ (k : Nat) (S : ByteArray), m = n0 - k ∧ k ≤ n0 ∧ iv = .int .i64 (k : Int) ∧ sv = .string S ∧ Below w.heap.size w wr ∧ S.size ≤ 1000 + 400 * k ∧
    Hid (S.data.toList = (ptH ++ (ptE ++ ptE)) ++ catQ ptM ptE (itsQ xs k)) ∧ Hid (∀ x ∈ xs.take k, x.size ≤ 200))
  case atStart => exact ⟨0, _, rfl, Nat.zero_le _, rfl, rfl, Below.refl _ _, by decide, Lib.hid (by rfl), Lib.hid (by simp)⟩
  case round =>
    obtain ⟨k, S, rfl, hk, rfl, rfl, hb, hS, HS, HQ⟩ := hrel
    by_cases hlt : k < n0
    · have gi : (k : Int) < (n0 : Int) := by omega
      have hkx : k < xs.length := by rw [HL.out]; exact hlt
      obtain ⟨g, o, rfl, hg, hcell⟩ := HM.out k (by rw [List.length_map]; exact hkx)
      rw [List.getElem_map] at hcell
      obtain ⟨X, hX⟩ : ∃ X, xs[k] = X := ⟨_, rfl⟩
      rw [hX] at hcell
      have cX : wr.cell? ⟨g, o + k, none⟩ = some (.string X) := (hb.cell (p := ⟨g, o + k, none⟩) hg).trans hcell
      have HIT := Lib.hid (show itQ xs k = (ptP k, cleanL X.data.toList) by unfold itQ; rw [List.getD_eq_getElem?_getD, List.getElem?_eq_getElem hkx, hX]; rfl)
      have HTQ := Lib.hid (fun (h : X.size ≤ 200) => (show ∀ x ∈ xs.take (k + 1), x.size ≤ 200 from fun x hx => by
        rw [List.take_succ_eq_append_getElem hkx, hX] at hx
        rcases List.mem_append.1 hx with hx | hx
        · exact HQ.out x hx
        · rw [List.mem_singleton] at hx; rw [hx]; exact h))
      have HCE := Lib.hid hcell
      have HGW := Lib.hid (Nat.lt_of_lt_of_le hg hb.size)
      clear hcell hX hkx
      by_cases hbig : 200 < X.size
      · have gb : (200 : Int) < (X.size : Int) := by omega
        go_wp2_with fail
        refine (awake_any wr (HE.out.next hb)).mono ?_
        rintro e w2 ⟨rfl, hb2⟩
        go_wp2_with fail
        go_ret
        exact ⟨rfl, hb.trans (hb2.mono hb.size)⟩
      · have gb : ¬ (200 : Int) < (X.size : Int) := by omega
        obtain ⟨CX, hCX⟩ : ∃ CX : ByteArray, CX = ⟨(cleanL X.data.toList).toArray⟩ := ⟨_, rfl⟩
        have HCX := Lib.hid (show CX.data.toList = cleanL X.data.toList by rw [hCX])
        have hcx : CX.size ≤ 200 := by rw [Lib.size_eq, HCX.out, clean_length, ← Lib.size_eq]; omega
        obtain ⟨D, hD⟩ : ∃ D, Dg.digs (k : Int) = D := ⟨_, rfl⟩
        have HDL := Lib.hid (show D.data.toList = Lib.decDigits k by rw [← hD]; exact digs_list k)
        have hds : D.size ≤ 19 := by rw [← hD]; exact Dg.digs_short (by omega)
        have HDG : Hid (∀ W, Calls Tryz.prog 20 #[.int .i64 (k : Int)] W fun e w' => e = .returned (.string D) ∧ Below W.heap.size W w') := Lib.hid (fun W => by
          have h := Rf.digits_call (k : Int) (by omega) (by omega) W
          rw [hD] at h
          exact h)
        have HCL : Hid (∀ W, Calls Tryz.prog 21 #[.string X] W fun e w' => e = .returned (.string CX) ∧ Below W.heap.size W w') := Lib.hid (fun W => by
          have h := clean_any X W (by omega)
          rw [← hCX] at h
          exact h)
        clear hCX hD
        have HSOF : Hid (∀ w' : World, Below wr.heap.size wr w' → (Below wr.heap.size wr w' ∧ w'.cell? ⟨g, o + k, none⟩ = some (.string X))) := Lib.hid (fun w' h => ⟨h, (h.cell (p := ⟨g, o + k, none⟩) HGW.out).trans cX⟩)
        have HSD : Hid (Below wr.heap.size wr wr.drew ∧ wr.drew.cell? ⟨g, o + k, none⟩ = some (.string X)) := Lib.hid (HSOF.out _ ((Below.refl _ wr).drew))
        have HS2 : Hid (∀ w7 : World, Below wr.drew.heap.size wr.drew w7 → (Below wr.heap.size wr w7 ∧ w7.cell? ⟨g, o + k, none⟩ = some (.string X))) := Lib.hid (fun w7 h => HSOF.out _ (((Below.refl _ wr).drew).trans h))
        have HS3 : Hid (∀ w7 w8 : World, Below wr.drew.heap.size wr.drew w7 → Below w7.heap.size w7 w8 → (Below wr.heap.size wr w8 ∧ w8.cell? ⟨g, o + k, none⟩ = some (.string X))) := Lib.hid (fun w7 w8 h h' => HSOF.out _ ((((Below.refl _ wr).drew).trans h).trans (h'.mono (((Below.refl _ wr).drew).trans h).size)))
        have hc1 : ¬ 9223372036854775807 < S.size + 10 := by omega
        have hc2 : ¬ 9223372036854775807 < S.size + 10 + D.size := by omega
        have hc3 : ¬ 9223372036854775807 < S.size + 10 + D.size + 4 := by omega
        have hc4 : ¬ 9223372036854775807 < S.size + 10 + D.size + 4 + CX.size := by omega
        have hc5 : ¬ 9223372036854775807 < S.size + 10 + D.size + 4 + CX.size + 2 := by omega
        go_upto_region 9 with fail
        go_region_held3 (fun w' => (Below wr.heap.size wr w' ∧ w'.cell? ⟨g, o + k, none⟩ = some (.string X)))
          (first | with_reducible exact HSD.out | with_reducible exact HS2.out _ (by assumption) | with_reducible exact HS3.out _ _ (by assumption) (by assumption))
          (first | (with_reducible refine (HDG.out _).mono ?_; rintro e7 w7 ⟨rfl, hb7⟩) | (with_reducible refine (HCL.out _).mono ?_; rintro e8 w8 ⟨rfl, hb8⟩))
        all_goals
          go_wp2_with fail
          go_roundg (n0 - (k + 1))
          case measure => omega
          case rel =>
            refine ⟨k + 1, _, rfl, by omega, by go_num, rfl, hb.trans ((HS3.out _ _ hb7 hb8).1.mono hb.size), ?_, Lib.hid ?_, Lib.hid (HTQ.out (by omega))⟩
            · simp only [ByteArray.size_append]
              show S.size + 10 + D.size + 4 + CX.size + 2 ≤ _
              omega
            · rw [its_succ, catQ_snoc, HIT.out, ← List.append_assoc, ← HS.out]
              simp [ptM, ptE, ptP, ptN, HCX.out, HDL.out]
    · have gi : ¬ (k : Int) < (n0 : Int) := by omega
      have hkn : k = n0 := by omega
      subst hkn
      rw [List.take_of_length_le (by rw [HL.out]; exact Nat.le_refl _)] at HQ
      obtain ⟨S2, hS2⟩ : ∃ S2 : ByteArray, S2 = S ++ ⟨#[45, 45, 98, 45, 45, 13, 10]⟩ := ⟨_, rfl⟩
      have HS2 := Lib.hid (show S2.data.toList = ptS (itsQ xs k) by rw [hS2]; unfold ptS; simp [HS.out, ptZ, ptE])
      have hs2 : S2.size ≤ 32768 := by
        rw [hS2]
        simp only [ByteArray.size_append]
        show S.size + 7 ≤ _
        omega
      have HSEC := Lib.hid (pts_sec (cs := itsQ xs k) (its_head hn0) its_pure (fun e => by have := its_len xs k; rw [e] at this; simp at this; omega) (by rw [its_len]; exact hn0))
      have HS2E := Lib.hid hS2
      clear hS2
      go_wp2_with fail
      rw [← HS2E.out]
      clear HS2E HS
      go_loopg [5] k (fun m iv wx => ∃ i : Nat, m = k - i ∧ i ≤ k ∧ iv = .int .i64 (i : Int) ∧ Below w.heap.size w wx)
      case atStart => exact ⟨0, rfl, Nat.zero_le _, rfl, hb⟩
      case round =>
        obtain ⟨i, rfl, hik, rfl, hb5⟩ := hrel
        by_cases hlt2 : i < k
        · have gi2 : (i : Int) < (k : Int) := by omega
          have hix : i < xs.length := by rw [HL.out]; exact hlt2
          obtain ⟨g, o, rfl, hg, hcell⟩ := HM.out i (by rw [List.length_map]; exact hix)
          rw [List.getElem_map] at hcell
          obtain ⟨X, hX⟩ : ∃ X, xs[i] = X := ⟨_, rfl⟩
          have hXs : X.size ≤ 200 := by rw [← hX]; exact HQ.out _ (List.getElem_mem _)
          rw [hX] at hcell
          have HCE := Lib.hid hcell
          have HGL := Lib.hid hg
          have hit : itQ xs i = (ptP i, cleanL X.data.toList) := by unfold itQ; rw [List.getD_eq_getElem?_getD, List.getElem?_eq_getElem hix, hX]; rfl
          obtain ⟨t1, t2, t3⟩ := HSEC.out.1 i (by rw [its_len]; exact hlt2)
          rw [its_at, hit, ← HS2.out] at t1 t2 t3
          obtain ⟨CX, hCX⟩ : ∃ CX : ByteArray, CX = ⟨(cleanL X.data.toList).toArray⟩ := ⟨_, rfl⟩
          have hCXl : CX.data.toList = cleanL X.data.toList := by rw [hCX]
          have hcx : CX.size ≤ 200 := by rw [Lib.size_eq, hCXl, clean_length, ← Lib.size_eq]; omega
          obtain ⟨D, hD⟩ : ∃ D, Dg.digs ((i + 1 : Nat) : Int) = D := ⟨_, rfl⟩
          have hDl : D.data.toList = Lib.decDigits (i + 1) := by rw [← hD]; exact digs_list (i + 1)
          have hds : D.size ≤ 19 := by rw [← hD]; exact Dg.digs_short (by omega)
          obtain ⟨E, hE⟩ : ∃ E, Dg.digs (i : Int) = E := ⟨_, rfl⟩
          have hEl : E.data.toList = Lib.decDigits i := by rw [← hE]; exact digs_list i
          have hes : E.size ≤ 19 := by rw [← hE]; exact Dg.digs_short (by omega)
          have HD1 : Hid (∀ W, Calls Tryz.prog 20 #[.int .i64 ((i : Int) + 1)] W fun e w' => e = .returned (.string D) ∧ Below W.heap.size W w') := Lib.hid (fun W => by
            have h := Rf.digits_call ((i + 1 : Nat) : Int) (by omega) (by omega) W
            rw [hD] at h
            exact h)
          have HD0 : Hid (∀ W, Calls Tryz.prog 20 #[.int .i64 (i : Int)] W fun e w' => e = .returned (.string E) ∧ Below W.heap.size W w') := Lib.hid (fun W => by
            have h := Rf.digits_call (i : Int) (by omega) (by omega) W
            rw [hE] at h
            exact h)
          have HCL : Hid (∀ W, Calls Tryz.prog 21 #[.string X] W fun e w' => e = .returned (.string CX) ∧ Below W.heap.size W w') := Lib.hid (fun W => by
            have h := clean_any X W (by omega)
            rw [← hCX] at h
            exact h)
          have HT1 : Hid (∀ W, Srch.Env W → Calls Tryz.prog 11 #[.string S2, .string D] W fun e w' => e = .returned (.tuple #[.string CX, .bool true]) ∧ Below W.heap.size W w') := Lib.hid (fun W h =>
            sec_told CX (by rw [hDl]; exact t1) hCXl W hs2 (by omega) h)
          have HT2 : Hid (∀ W, Srch.Env W → Calls Tryz.prog 11 #[.string S2, .string (D ++ ⟨#[46, 77, 73, 77, 69]⟩)] W fun e w' => e = .returned (.tuple #[.string (⟨#[88, 45, 78, 58, 32]⟩ ++ E ++ ⟨#[13, 10, 13, 10]⟩), .bool true]) ∧ Below W.heap.size W w') := Lib.hid (fun W h =>
            sec_told (⟨#[88, 45, 78, 58, 32]⟩ ++ E ++ ⟨#[13, 10, 13, 10]⟩) (t := ptP i) (by rw [show (D ++ (⟨#[46, 77, 73, 77, 69]⟩ : ByteArray)).data.toList = Lib.decDigits (i + 1) ++ mimeL by simp [hDl, mimeL]]; exact t2) (by simp [ptP, ptN, ptE, hEl]) W hs2 (by rw [ByteArray.size_append]; show D.size + 5 ≤ _; omega) h)
          have HT3 : Hid (∀ W, Srch.Env W → Calls Tryz.prog 11 #[.string S2, .string (D ++ ⟨#[46, 49]⟩)] W fun e w' => e = .returned (.tuple #[.string CX, .bool true]) ∧ Below W.heap.size W w') := Lib.hid (fun W h =>
            sec_told CX (by rw [show (D ++ (⟨#[46, 49]⟩ : ByteArray)).data.toList = Lib.decDigits (i + 1) ++ [46, 49] by simp [hDl]]; exact t3) hCXl W hs2 (by rw [ByteArray.size_append]; show D.size + 2 ≤ _; omega) h)
          have hc1 : ¬ 9223372036854775807 < D.size + 5 := by omega
          have hc2 : ¬ 9223372036854775807 < D.size + 2 := by omega
          have hc3 : ¬ 9223372036854775807 < 5 + E.size := by omega
          have hc4 : ¬ 9223372036854775807 < 5 + E.size + 4 := by omega
          have z1 : (CX.toList == CX.toList) = true := beq_self_eq_true _
          have hwi : IntKind.i64.wrap ((i : Int) + 1) = (i : Int) + 1 := IntWalk.i64_in _ (by omega)
          clear t1 t2 t3 hit hCX hCXl hD hDl hE hEl hcell hX
          go_wp2_with fail
          refine (HD1.out _).mono ?_
          rintro e w1 ⟨rfl, hb1⟩
          have HB1 := Lib.hid (hb5.trans (hb1.mono hb5.size))
          clear hb1
          go_wp2_with fail
          refine (HT1.out w1 (srch_of (HE.out.next HB1.out))).mono ?_
          rintro e w2 ⟨rfl, hb2⟩
          have HB2 := Lib.hid (HB1.out.trans (hb2.mono HB1.out.size))
          clear hb2
          go_wp2_with fail
          refine (HT2.out w2 (srch_of (HE.out.next HB2.out))).mono ?_
          rintro e w3 ⟨rfl, hb3⟩
          have HB3 := Lib.hid (HB2.out.trans (hb3.mono HB2.out.size))
          clear hb3
          go_wp2_with fail
          refine (HT3.out w3 (srch_of (HE.out.next HB3.out))).mono ?_
          rintro e w4 ⟨rfl, hb4⟩
          have HB4 := Lib.hid (HB3.out.trans (hb4.mono HB3.out.size))
          clear hb4
          have cX : w4.cell? ⟨g, o + i, none⟩ = some (.string X) := (HB4.out.cell (p := ⟨g, o + i, none⟩) HGL.out).trans HCE.out
          go_wp2_with fail
          refine (HCL.out _).mono ?_
          rintro e w5 ⟨rfl, hb6⟩
          have HB5 := Lib.hid (HB4.out.trans (hb6.mono HB4.out.size))
          clear hb6 cX
          go_wp2_with fail
          refine (HD0.out _).mono ?_
          rintro e w6 ⟨rfl, hb7⟩
          have HB6 := Lib.hid (HB5.out.trans (hb7.mono HB5.out.size))
          clear hb7
          go_wp2_with fail
          go_roundg (k - (i + 1))
          case measure => omega
          case rel => exact ⟨i + 1, rfl, by omega, by go_num, HB6.out⟩
        · have gi2 : ¬ (i : Int) < (k : Int) := by omega
          obtain ⟨D, hD⟩ : ∃ D, Dg.digs ((k + 1 : Nat) : Int) = D := ⟨_, rfl⟩
          have hDl : D.data.toList = Lib.decDigits (k + 1) := by rw [← hD]; exact digs_list (k + 1)
          have hds : D.size ≤ 19 := by rw [← hD]; exact Dg.digs_short (by omega)
          obtain ⟨-, t1, t2⟩ := HSEC.out
          rw [its_len] at t1
          rw [← HS2.out] at t1 t2
          have HD1 : Hid (∀ W, Calls Tryz.prog 20 #[.int .i64 ((k : Int) + 1)] W fun e w' => e = .returned (.string D) ∧ Below W.heap.size W w') := Lib.hid (fun W => by
            have h := Rf.digits_call ((k + 1 : Nat) : Int) (by omega) (by omega) W
            rw [hD] at h
            exact h)
          have HN1 : Hid (∀ W, Srch.Env W → Calls Tryz.prog 11 #[.string S2, .string D] W fun e w' => e = .returned (.tuple #[.string ⟨#[]⟩, .bool false]) ∧ Below W.heap.size W w') := Lib.hid (fun W h =>
            sec_not (by rw [hDl]; exact t1) W hs2 (by omega) h)
          have HN2 : Hid (∀ W, Srch.Env W → Calls Tryz.prog 11 #[.string S2, .string ⟨#[48]⟩] W fun e w' => e = .returned (.tuple #[.string ⟨#[]⟩, .bool false]) ∧ Below W.heap.size W w') := Lib.hid (fun W h =>
            sec_not t2 W hs2 (by decide) h)
          have hwi : IntKind.i64.wrap ((k : Int) + 1) = (k : Int) + 1 := IntWalk.i64_in _ (by omega)
          clear t1 t2 hD hDl
          go_wp2_with fail
          refine (HD1.out _).mono ?_
          rintro e w1 ⟨rfl, hb1⟩
          have HB1 := Lib.hid (hb5.trans (hb1.mono hb5.size))
          clear hb1
          go_wp2_with fail
          refine (HN1.out w1 (srch_of (HE.out.next HB1.out))).mono ?_
          rintro e w2 ⟨rfl, hb2⟩
          have HB2 := Lib.hid (HB1.out.trans (hb2.mono HB1.out.size))
          clear hb2
          go_wp2_with fail
          refine (HN2.out w2 (srch_of (HE.out.next HB2.out))).mono ?_
          rintro e w3 ⟨rfl, hb3⟩
          have HB3 := Lib.hid (HB2.out.trans (hb3.mono HB2.out.size))
          clear hb3
          go_wp2_with fail
          refine (awake_any w3 (HE.out.next HB3.out)).mono ?_
          rintro e w4 ⟨rfl, hb4⟩
          have HB4 := Lib.hid (HB3.out.trans (hb4.mono HB3.out.size))
          clear hb4
          go_wp2_with fail
          go_ret
          exact ⟨rfl, HB4.out⟩
end Go.Proofs.YtnnbbjdidbggmaaGreatDoor.Lk
namespace Go.Proofs.YtnnbbjdidbggmaaGreatDoor.fnLookParts
open Go Go.ChangeShapes Go.WideShapes Go.ChangeAt Go.RowKit
open Go.ChangeMaps (open_string shut_string)

theorem laidOut : laidOutB Tryz.prog = true := by kernel_rfl
theorem env {W : World} (h : laidMetH Tryz.prog Rows.lookPartsRow.laid W) (hsh : W.ShapedOpen Tryz.prog) : Tx.Env W := by
  rw [MakeChecks.laidMetH_plain _ _ _ (by kernel_rfl)] at h
  exact Tx.env_of h hsh (by kernel_rfl)

set_option maxRecDepth 100000 in
theorem contract (H : Type) (enc : TypeId × Value → H) (W : World) (base : Nat) (args : Array Value) (ds gs : List (DataW H)) (before : List MemPlace)
    (hval : ∀ (j : Nat) t v, Tryz.f7.params[j]? = some t → args[j]? = some v → Value.okWide Tryz.prog W .any base t v)
    (hW : DataW.Whole enc Tryz.prog Tryz.f7.params.toList Rows.lookPartsSpec.vars false W args.toList ds gs before) (hE : Tx.Env W) :
    Calls Tryz.prog 7 args W fun e W' => ∃ v, e = .returned v ∧ Rows.lookPartsSpec.post enc Tryz.prog Tryz.f7 false true false false W args v W' := by
  have hW' := hW
  obtain ⟨p, q, hA0, hV, rfl, hfz, hnd⟩ := hW
  have hA : DataW.TrodAll enc Tryz.prog W 0 (fun _ => true) true Tryz.f7.params.toList args.toList ds p := hA0
  rw [Tryz.params7] at hA hval
  obtain ⟨v0, vs0, d0, ds0, p0, q0, hargs, rfl, rfl, h0, r0⟩ := trodAll_cons hA
  obtain ⟨rfl, rfl, rfl⟩ := trodAll_nil r0
  obtain rfl : args = #[v0] := by cases args; simp_all
  obtain ⟨rfl, rfl⟩ := trodVars_none hV
  have k0 := h0
  obtain ⟨a0, n0, c0, rfl⟩ := Go.WideShapes.okWide_slice Tryz.underlying29 (hval 0 29 _ rfl rfl)
  obtain ⟨xs0, l0, b0, L0⟩ := F0.strs_opens h0
  clear hA0
  simp only [List.append_nil] at hW'
  refine (Lk.lookParts_walk a0 n0 c0 xs0 W l0 b0 L0 hE).mono fun e W' ⟨he, hb⟩ => ?_
  subst he
  exact ⟨_, rfl, _, _, _, [], _, [], hW', trodAll_cons_mk (shut_bool Tryz.underlying4 _) trodAll_mk0, (trodAll_cons_mk (Below.trod laidOut (by kernel_rfl) (of_decide_eq_true (by kernel_rfl)) k0 hb (fun x hx => hW'.lt x (by simp [hx]))) trodAll_mk0), rfl, hb.frame _, fun h => by cases h⟩

theorem laid_met (os : Os) : laidMet Tryz.prog Rows.lookPartsRow.laid ((World.laidAll Tryz.prog os Rows.lookPartsRow.laid).forCall (fun _ _ => 0) ⟨#[], #[.slice none 0 0], []⟩).memory :=
  laidMet_laidAll #[.slice none 0 0] (by kernel_rfl) (by kernel_rfl)
theorem reads (os : Os) {H : Type} (enc : TypeId × Value → H) : ∃ places, DataW.whole enc Tryz.prog ((World.laidAll Tryz.prog os Rows.lookPartsRow.laid).forCall (fun _ _ => 0) ⟨#[], #[.slice none 0 0], []⟩).memory Tryz.f7.params.toList Rows.lookPartsSpec.vars false (#[.slice none 0 0] : Array Value).toList 8 = some ([.nil], [], places) :=
  ⟨[], by kernel_rfl⟩

set_option maxRecDepth 100000 in
theorem lifted (os : Os) (started : os.Started) (H : Type) (enc : TypeId × Value → H) (F : Stop.Interp) :
    ReturnsInHanded {} Tryz.checked os 7 .any ((OpenSpec.ofChange Rows.lookPartsSpec).preRow enc Tryz.prog Tryz.f7 Rows.lookPartsRow.domain false Rows.lookPartsRow.laid) (((OpenSpec.ofChange Rows.lookPartsSpec).at F).post enc Tryz.prog Tryz.f7 false true false false) := by
  obtain ⟨places, hx⟩ := reads os enc
  refine returnsInHanded_of_row (C := Tryz.checked) (s := OpenSpec.ofChange Rows.lookPartsSpec) Kit.own started (by kernel_rfl) Tryz.func7
    (witness_row_at (enc := enc) (C := Tryz.checked) false (World.laidAll Tryz.prog os Rows.lookPartsRow.laid) #[.slice none 0 0] (World.laidAll_os _ _ _) (by kernel_rfl) (by kernel_rfl) (by kernel_rfl)
      (OpenSpec.preRow_of_cond 8 hx (by kernel_rfl) (fun k hk => by cases hk) (by kernel_rfl) (laid_met os))) ?_
  intro W base args ds gs before hval hW _ _ _ hL hsh _
  exact contract H enc W base args ds gs before hval hW (env hL hsh)

theorem said : Rows.LookPartsSaid :=
  OpenClaim.holds_of_cond 7 Tryz.f7 rfl rfl rfl rfl rfl rfl rfl ⟨rfl, rfl, rfl, rfl, rfl⟩ rfl rfl rfl rfl rfl (by kernel_rfl) Tryz.func7 (by kernel_rfl)
    (of_decide_eq_true (by kernel_rfl)) (by unfold Func.isWrapper; rw [if_neg (by decide +kernel)]; exact ⟨rfl, rfl⟩)
    (fun os started H enc _ F => by rw [OpenClaim.pre_eq_preRow]; exact lifted os started H enc F)

theorem plain (f : FuncId) (fn : Func) (hf : Tryz.pinned.checked.prog.funcNamed "pillarbox/pillarboxlaw14.LookParts" = some f) (hfn : Tryz.pinned.checked.prog.funcs[f]? = some fn) :
    false = Tryz.pinned.checked.prog.looks [] ∧ ∀ (j : Nat) t, fn.params[j]? = some t → Tryz.pinned.checked.prog.wantsStandIn t = false := by
  obtain rfl : f = 7 := Option.some.inj ((show Tryz.prog.funcNamed "pillarbox/pillarboxlaw14.LookParts" = some 7 by kernel_rfl).symm.trans hf) |>.symm
  obtain rfl : fn = Tryz.f7 := (Option.some.inj (Tryz.func7.symm.trans hfn)).symm
  refine ⟨by kernel_rfl, fun j t ht => ?_⟩
  rw [Tryz.params7] at ht
  have hm : t = 29 := by simpa using Array.mem_of_getElem? ht
  rcases hm with rfl
  · exact (show Tryz.prog.wantsStandIn 29 = false by kernel_rfl)

theorem card : Rows.LookPartsCardSaid :=
  Claim7.holds_tied_plain_at .later [] _ _ _ _ said (fun _ h => by cases h) (by kernel_rfl) (fun _ h => by cases h) lookParts_row_tie rfl ⟨rfl, rfl⟩ (by kernel_rfl) rfl plain (by kernel_rfl)
end Go.Proofs.YtnnbbjdidbggmaaGreatDoor.fnLookParts
