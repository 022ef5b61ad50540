/-
  The program's reader of JSON: a key that its object has not yet, by a set of those seen. Conditions: the text has at most 65536 bytes.
-/
import Derived.Test.YtpnffmimpkimeaaJ7Kids
import Derived.Maps.OwnSet
import Derived.StringKeys
namespace Go.Proofs.Ytpnffmimpkimeaa.J7
open Go Go.RowKit Go.Joins Kit Go.Maps Go.WideMaps

/-- All blocks that were there, but R and M, are as they were. -/
structure StepM (R M : Nat) (w w' : World) : Prop where
  os : w'.os = w.os
  tape : w'.tape = w.tape
  output : w'.output = w.output
  size : w.heap.size ≤ w'.heap.size
  block : ∀ k, k < w.heap.size → k ≠ R → k ≠ M → w'.heap[k]? = w.heap[k]?
theorem StepM.of {R M : Nat} {w w' : World} (h : Step R w w') : StepM R M w w' := ⟨h.os, h.tape, h.output, h.size, fun k hk hn _ => h.block k hk hn⟩
theorem StepM.trans {R M : Nat} {a b c : World} (h : StepM R M a b) (k : StepM R M b c) : StepM R M a c :=
  ⟨k.os.trans h.os, k.tape.trans h.tape, k.output.trans h.output, Nat.le_trans h.size k.size, fun i hi h1 h2 => (k.block i (Nat.lt_of_lt_of_le hi h.size) h1 h2).trans (h.block i hi h1 h2)⟩
theorem StepM.grown {R M : Nat} {a b c : World} (h : StepM R M a b) (k : b.grownBy c (some M)) : StepM R M a c :=
  ⟨k.os.trans h.os, k.tape.trans h.tape, k.output.trans h.output, Nat.le_trans h.size k.size, fun i hi h1 h2 => (k.block i (Nat.lt_of_lt_of_le hi h.size) (fun e => h2 (Option.some.inj e))).trans (h.block i hi h1 h2)⟩
theorem keyed : Keyed Try.prog 9 := string_keyed Try.underlying9
theorem zeroU (w : World) : (zeroValue 83).run Try.prog w = .ok (.agg #[]) w := by kernel_rfl
def litK (k : ByteArray) : Lit := .string k.data.toList
/-- The set of the keys. -/
def setK (keys : List ByteArray) : DataW Unit := setOf (.agg []) (keys.map litK)
/-- The set of the keys lies in block M. -/
def Seen (M : Nat) (keys : List ByteArray) (w : World) : Prop := w.ownsMap Try.prog 9 unitElem M keys.length (setK keys)
theorem Seen.same {M : Nat} {keys : List ByteArray} {w w' : World} (h : Seen M keys w) (hb : w'.heap[M]? = w.heap[M]?) : Seen M keys w' := by
  obtain ⟨es, clock, h1, h2, h3, h4⟩ := h
  exact ⟨es, clock, hb.trans h1, h2, h3, h4⟩
theorem has_setK (keys : List ByteArray) (k : List UInt8) : Maps.has (setK keys) (.string k) = hasB keys k := by
  unfold setK
  rw [has_setOf]
  · rw [List.any_map]
    unfold hasB
    congr 1
  · intro x hx
    obtain ⟨y, _, rfl⟩ := List.mem_map.1 hx
    exact trivial
theorem setK_snoc (keys : List ByteArray) (k : ByteArray) : setK (keys ++ [k]) = (setK keys).put (litK k) (.agg []) := by
  unfold setK
  rw [List.map_append, List.map_singleton, setOf_snoc]
/-- A key, behind the keys that are there. -/
def keyC (keys : List ByteArray) (l : List UInt8) : Out (List ByteArray) := match quoL (skipL l) with
  | .error e => .error e
  | .ok (k, r) => if hasB keys k then .error 5 else .ok (keys ++ [⟨k.toArray⟩], r)
theorem keyL_C (keys : List ByteArray) (l : List UInt8) : keyL keys l = match keyC keys l with
    | .error e => .error e
    | .ok (ks, r) => match wantL 58 r with
      | .error e => .error e
      | .ok (_, r1) => .ok (ks, r1) := by
  unfold keyL keyC quoL
  cases eatL 34 (skipL l) with
  | none => rfl
  | some r =>
    simp only
    cases textL r with
    | error e => rfl
    | ok x =>
      obtain ⟨k, r1⟩ := x
      simp only
      by_cases h : hasB keys k = true
      · rw [if_pos h, if_pos h]
      · rw [if_neg h, if_neg h]
        simp only
        unfold colonL wantL
        cases eatL 58 (skipL r1) <;> rfl
theorem textF_len : ∀ {f : Nat} {out l r t : List UInt8}, textF f out l = .ok (t, r) → t.length + 4 * r.length ≤ out.length + 4 * l.length
  | 0, out, l, r, t, h => by rw [textF] at h; cases h
  | f + 1, out, [], r, t, h => by rw [textF] at h; cases h
  | f + 1, out, c :: u, r, t, h => by
    by_cases h1 : c = 34
    · subst h1
      rw [textF, if_pos rfl] at h
      have e1 := congrArg Prod.fst (Except.ok.inj h)
      have e2 := congrArg Prod.snd (Except.ok.inj h)
      simp only at e1 e2
      subst e1 e2
      simp
      omega
    · by_cases h2 : c = 92
      · subst h2
        rw [textF_esc] at h
        split at h
        · cases h
        · rename_i x r1 e
          have := textF_len h
          have h3 := escape_le e
          have h4 := (escape_suffix e).2
          rw [List.length_append] at this
          simp only [List.length_cons] at *
          omega
      · by_cases h3 : c.toNat < 32
        · rw [textF, if_neg h1, if_neg h2, if_pos h3] at h
          cases h
        · rw [textF_plain h1 h2 h3] at h
          split at h
          · cases h
          · rename_i x r1 e
            have := textF_len h
            have h4 := plainT_ok e
            rw [List.length_append] at this
            omega
theorem quoL_len {l r t : List UInt8} (h : quoL l = .ok (t, r)) : t.length + 4 * r.length ≤ 4 * l.length := by
  unfold quoL at h
  split at h
  · cases h
  · rename_i r0 e
    have h1 := eat_lt e
    have := textF_len h
    rw [List.length_nil] at this
    omega
/-- What key leaves. -/
def KeyLeft (R M : Nat) (s : ByteArray) (keys : List ByteArray) (w : World) (o : Out (List ByteArray)) (e' : Ending) (w' : World) : Prop :=
  StepM R M w w' ∧ match o with
    | .ok (ks, r) => ∃ kb, ks = keys ++ [kb] ∧ e' = .returned (.string kb) ∧ Seen M ks w' ∧ ∃ k : Nat, k ≤ s.size ∧ r = tail s k ∧ Rc R s k w'
    | .error c => e' = Errs c

set_option maxHeartbeats 4000000 in
set_option maxRecDepth 100000 in
theorem key_any (R M : Nat) (s : ByteArray) (i : Nat) (keys : List ByteArray) (w : World) (h : Rc R s i w) (hs : s.size ≤ 65536) (hi : i ≤ s.size) (hm : Seen M keys w) (hMR : M ≠ R) (hkl : keys.length ≤ 65536) :
    Calls Try.prog 49 #[.pointer (some ⟨R, 0, none⟩), .map (some M)] w fun e' w' => KeyLeft R M s keys w (keyC keys (tail s i)) e' w' := by
  obtain ⟨O, hO⟩ : ∃ O, keyC keys (tail s i) = O := ⟨_, rfl⟩
  rw [hO]
  unfold keyC at hO
  have HO := Lib.hid hO
  clear hO
  go_enter Try.func49, Try.ntmps49
  go_wp2_with fail
  refine (skip_any R s i w h hs hi).mono ?_
  rintro e' w1 ⟨rfl, k, hk1, hk2, hk, hr1, hs1⟩
  have htext := text_any R s k w1 hr1 hs hk2
  obtain ⟨o, ho⟩ : ∃ o, quoL (tail s k) = o := ⟨_, rfl⟩
  have HO2 := HO.out
  rw [hk, ho] at HO2
  rw [ho] at htext
  have HO3 := Lib.hid HO2
  have hm1 := hm.same (hs1.block M (World.ownsMap.lt hm) hMR)
  clear HO HO2 hk
  go_wp2_with fail
  refine htext.mono ?_
  rintro e' w2 ⟨hs2, hL⟩
  have hst2 := hs1.trans hs2
  have hm2 := hm1.same (hs2.block M (World.ownsMap.lt hm1) hMR)
  have HO4 := HO3.out
  clear htext HO3
  match o, hL, HO4, ho with
  | .error c, hL, HO4, _ =>
    obtain rfl : e' = Errs c := hL
    have HE := Lib.hid (show O = .error c from HO4.symm)
    clear HO4
    go_wp2_with fail
    rw [HE.out]
    exact ⟨rfl, .of hst2, rfl⟩
  | .ok (t, r), hL, HO4, ho =>
    obtain ⟨rfl, k3, hk3, rfl, hr2⟩ := hL
    have hlen := quoL_len ho
    rw [tail_length, tail_length] at hlen
    have hts : (ByteArray.mk t.toArray).size ≤ maxLen := by rw [Lib.size_eq]; unfold maxLen; show t.length ≤ _; omega
    have hkey : keyOf Try.prog 9 (.string ⟨t.toArray⟩) = some (.string t) := keyOf_string_mk Try.underlying9 hts
    have hhas := has_setK keys t
    obtain ⟨bb, hbb⟩ : ∃ bb, hasB keys t = bb := ⟨_, rfl⟩
    rw [hbb] at hhas
    have HO5 : Hid ((if bb then (.error 5 : Out (List ByteArray)) else .ok (keys ++ [⟨t.toArray⟩], tail s k3)) = O) := by
      show _ = O
      rw [← hbb]
      exact HO4
    clear HO4 ho hbb hlen hts
    cases bb with
    | true =>
      have HE := Lib.hid (show O = .error 5 from HO5.out.symm)
      clear HO5
      go_wp2_with (at_lookup; refine wpList_lookup_own_unit _ rfl _ _ 77 rfl 9 83 keyed Try.underlying77 (zeroU _) M _ _ rfl hm2 _ _ rfl hkey ?_; rw [hhas])
      rw [HE.out]
      exact ⟨rfl, (StepM.of (hst2.alloc _)), rfl⟩
    | false =>
      have HE := Lib.hid (show O = .ok (keys ++ [⟨t.toArray⟩], tail s k3) from HO5.out.symm)
      clear HO5
      go_wp2_with (first
        | (at_lookup; refine wpList_lookup_own_unit _ rfl _ _ 77 rfl 9 83 keyed Try.underlying77 (zeroU _) M _ _ rfl hm2 _ _ rfl hkey ?_; rw [hhas])
        | (at_mapUpdate; refine wpList_mapUpdate_own _ rfl _ _ _ 77 rfl 9 83 keyed Try.underlying77 (unitElem (H := Unit)) M _ _ rfl (hm2.alloc _) (by unfold maxLen; omega) _ _ _ rfl rfl hkey _ [] unitElem_mk ?_; intro w3 hm3 hg3))
      go_ret
      rw [HE.out]
      refine ⟨(StepM.of (hst2.alloc _)).grown hg3, _, rfl, rfl, ?_, k3, hk3, rfl, ?_⟩
      · unfold Seen
        rw [setK_snoc, List.length_append]
        exact hm3
      · exact ⟨(hg3.block R (by have := hr2.lt; simp; omega) (fun e => hMR (Option.some.inj e).symm)).trans (hr2.alloc _).blk⟩
end Go.Proofs.Ytpnffmimpkimeaa.J7
