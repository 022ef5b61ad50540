/-
  Find, the program's and the document's: the kid at the first key that is just so; slices.Index. Conditions: Tame; no more keys than kids.
-/
import Derived.Test.YtoofcclcimkipaaDoorJ8CSame
namespace Go.Proofs.YtoofcclcimkipaaDoor.J8
open Go Go.RowKit Go.Joins Kit J7 Nds

set_option maxHeartbeats 4000000 in
set_option maxRecDepth 100000 in
theorem index_yes (xs : List ByteArray) (key : ByteArray) (a : Option Addr) (m i : Nat) (w : World) (hx : KeysIn w a xs) (hl : xs.length ≤ 1000000) (hi : i < xs.length) (he : xs[i] = key) (hm : ∀ j (h : j < i), xs[j] ≠ key) :
    Calls Tryd.prog 43 #[.slice a xs.length m, .string key] w fun e w' => e = .returned (.int .i64 (i : Int)) ∧ w = w' := by
  obtain ⟨nk, hnk⟩ : ∃ nk, xs.length = nk := ⟨_, rfl⟩
  rw [hnk]
  have HX := Lib.hid hx
  have HM := Lib.hid hm
  have HNK := Lib.hid hnk
  have HE := Lib.hid he
  have hki : (nk : Int) ≤ 1000000 := by omega
  have hin : i < nk := by omega
  clear hx hm he
  go_enter Tryd.func43, Tryd.ntmps43
  go_wp2_with fail
  go_loopg [8] (nk + 1) (fun q v wr => ∃ j : Nat, q = nk + 1 - j ∧ v = .int .i64 j ∧ j ≤ i ∧ w = wr)
  case atStart => exact ⟨0, rfl, rfl, Nat.zero_le _, rfl⟩
  case round =>
    obtain ⟨j, rfl, rfl, hj, rfl⟩ := hrel
    have h1 : j < xs.length := by omega
    obtain ⟨g, o, e1, t1⟩ := HX.out j h1
    subst e1
    have gi : (j : Int) < nk := by omega
    obtain ⟨kx, hkx⟩ : ∃ kx, xs[j] = kx := ⟨_, rfl⟩
    rw [hkx] at t1
    by_cases hlt : j < i
    · have hne : kx ≠ key := by rw [← hkx]; exact HM.out j hlt
      have gt := text_no (fun e => hne e.symm)
      clear hkx hne
      go_wp2_with fail
      go_roundg (nk + 1 - (j + 1))
      case measure => omega
      case rel => exact ⟨j + 1, rfl, by go_num, by omega, rfl⟩
    · obtain rfl : j = i := by omega
      obtain rfl : kx = key := by rw [← hkx]; exact HE.out
      clear hkx
      go_wp2_with fail
      go_ret
      exact ⟨rfl, rfl⟩

set_option maxHeartbeats 4000000 in
set_option maxRecDepth 100000 in
theorem index_no (xs : List ByteArray) (key : ByteArray) (a : Option Addr) (m : Nat) (w : World) (hx : KeysIn w a xs) (hl : xs.length ≤ 1000000) (hm : ∀ j (h : j < xs.length), xs[j] ≠ key) :
    Calls Tryd.prog 43 #[.slice a xs.length m, .string key] w fun e w' => e = .returned (.int .i64 (-1)) ∧ w = w' := by
  obtain ⟨nk, hnk⟩ : ∃ nk, xs.length = nk := ⟨_, rfl⟩
  rw [hnk]
  have HX := Lib.hid hx
  have HM := Lib.hid hm
  have HNK := Lib.hid hnk
  have hki : (nk : Int) ≤ 1000000 := by omega
  clear hx hm
  go_enter Tryd.func43, Tryd.ntmps43
  go_wp2_with fail
  go_loopg [8] nk (fun q v wr => ∃ j : Nat, q = nk - j ∧ v = .int .i64 j ∧ j ≤ nk ∧ w = wr)
  case atStart => exact ⟨0, rfl, rfl, Nat.zero_le _, rfl⟩
  case round =>
    obtain ⟨j, rfl, rfl, hj, rfl⟩ := hrel
    by_cases hlt : j < nk
    · have h1 : j < xs.length := by omega
      obtain ⟨g, o, e1, t1⟩ := HX.out j h1
      subst e1
      have gi : (j : Int) < nk := by omega
      obtain ⟨kx, hkx⟩ : ∃ kx, xs[j] = kx := ⟨_, rfl⟩
      rw [hkx] at t1
      have hne : kx ≠ key := by rw [← hkx]; exact HM.out j h1
      have gt := text_no (fun e => hne e.symm)
      clear hkx hne
      go_wp2_with fail
      go_roundg (nk - (j + 1))
      case measure => omega
      case rel => exact ⟨j + 1, rfl, by go_num, by omega, rfl⟩
    · have gi : decide ((j : Int) < (nk : Int)) = false := by rw [decide_eq_false_iff_not]; omega
      go_wp2_with fail
      go_ret
      exact ⟨rfl, rfl⟩
/-- The first key that is just so, of an object, and a kid for it. -/
structure Found (a : J) (key : ByteArray) (i : Nat) : Prop where
  kind : a.kind = 7
  hk : i < a.keys.length
  hv : i < a.kids.length
  eq : a.keys[i] = key
  min : ∀ j (h : j < i), a.keys[j] ≠ key
theorem Found.one {a : J} {key : ByteArray} {i j : Nat} (h : Found a key i) (k : Found a key j) : i = j := by
  rcases Nat.lt_trichotomy i j with hl | hl | hl
  · exact absurd h.eq (k.min i hl)
  · exact hl
  · exact absurd k.eq (h.min j hl)
theorem found_none {a : J} {key : ByteArray} (h : ∀ i, ¬ Found a key i) (hk : a.kind = 7) (hl : a.keys.length ≤ a.kids.length) : ∀ j (hj : j < a.keys.length), a.keys[j] ≠ key := by
  intro j
  induction j using Nat.strongRecOn with
  | _ j ih => exact fun hj e => h j ⟨hk, hj, by omega, e, fun q hq => ih q hq (by omega)⟩
/-- What a struct's result and a bool's are read off. -/
theorem find_result {fn : Func} {p q : Tmp} (h : fn.results = #[.cell p 25, .tmp q]) (tmps : Array Value) {w : World} {G : Nat} {c0 c1 c2 c3 c4 : Value} {b : Bool}
    (hp : tmps.getD p undef = .pointer (some ⟨G, 0, none⟩)) (hq : tmps.getD q undef = .bool b) (hb : Bx G c0 c1 c2 c3 c4 w) : (results fn tmps).run Tryd.prog w = .ok (.tuple #[.agg #[c0, c1, c2, c3, c4], .bool b]) w := by
  have hp' : tmps[p]?.getD undef = .pointer (some ⟨G, 0, none⟩) := by simpa using hp
  have hq' : tmps[q]?.getD undef = .bool b := by simpa using hq
  have hl := run_loadVar_row (P := Tryd.prog) w G 25 25 _ _ _ hb.blk Tryd.underlying25 rfl (by kernel_rfl)
  simp [results, h, hp', hq', asAddr, hl]
theorem putN_below {w w' : World} {N : Nat} (h : Below w.heap.size w w') (hN : w.heap.size ≤ N) (d0 d1 d2 d3 d4 : Value) : Below w.heap.size w (putN w' N d0 d1 d2 d3 d4) :=
  ((((h.setCell (p := ⟨N, 0, none⟩) hN d0).setCell (p := ⟨N, 1, none⟩) hN d1).setCell (p := ⟨N, 2, none⟩) hN d2).setCell (p := ⟨N, 3, none⟩) hN d3).setCell (p := ⟨N, 4, none⟩) hN d4
def zeroAgg : Value := .agg #[.int .i64 0, .int .i64 0, .string ⟨#[]⟩, .slice none 0 0, .slice none 0 0]
mutual
theorem in_of_at {P : Nat → Prop} {w : World} : ∀ {j : J} {v : Value}, NodeAt P w j v → NodeIn w j v
  | .mk k n t keys kids, v, h => by
    rw [NodeAt] at h
    obtain ⟨kv, vv, rfl, h2, cs, h3, h4⟩ := h
    have hin := kids_of_at h4
    have hlen := kids_length h4
    have hvv : ∃ a cap, vv = .slice a kids.length cap ∧ ∀ q (h : q < cs.length), ∃ g o, a = some ⟨g, o, none⟩ ∧ w.cell? ⟨g, o + q, none⟩ = some cs[q] := by
      rcases h3 with ⟨⟨a, m, rfl⟩, h0, rfl⟩ | ⟨g, o, cap, rfl, hc⟩
      · exact ⟨a, m, by rw [h0], fun q h => absurd h (Nat.not_lt_zero q)⟩
      · exact ⟨_, cap, rfl, fun q h => ⟨g, o, rfl, (hc q h).2⟩⟩
    obtain ⟨a, cap, rfl, hc⟩ := hvv
    refine NodeIn.mk k n t keys kids kv a cap (fun i m => cs.getD (5 * i + m) (.int .i64 0)) ?_ (fun i hi => ?_) (fun i hi => hin i hi)
    · rcases h2 with ⟨⟨a, m, rfl⟩, h0, h1⟩ | ⟨g, o, cap, rfl, hc⟩
      · refine ⟨a, m, by rw [h0], fun q h => ?_⟩
        rw [h1] at h
        exact absurd h (Nat.not_lt_zero q)
      · exact ⟨_, cap, rfl, fun q h => ⟨g, o, rfl, (hc q h).2⟩⟩
    · obtain ⟨g, o, ha, _⟩ := hc (5 * i) (by omega)
      refine ⟨g, o, ha, fun m hm => ?_⟩
      obtain ⟨g', o', ha', h1⟩ := hc (5 * i + m) (by omega)
      rw [ha] at ha'
      injection ha' with ha'
      injection ha' with e1 e2 _
      subst e1 e2
      rw [h1, List.getD_eq_getElem?_getD, List.getElem?_eq_getElem (show 5 * i + m < cs.length by omega), Option.getD_some]
theorem kids_of_at {P : Nat → Prop} {w : World} : ∀ {l : List J} {cs : List Value}, KidsAt P w l cs → ∀ i (h : i < l.length), NodeIn w l[i] (.agg #[cs.getD (5 * i + 0) (.int .i64 0), cs.getD (5 * i + 1) (.int .i64 0), cs.getD (5 * i + 2) (.int .i64 0), cs.getD (5 * i + 3) (.int .i64 0), cs.getD (5 * i + 4) (.int .i64 0)])
  | [], cs, _, i, h => absurd h (Nat.not_lt_zero i)
  | j :: r, cs, h, 0, _ => by
    rw [KidsAt] at h
    obtain ⟨c0, c1, c2, c3, c4, t, rfl, h1, _⟩ := h
    exact in_of_at h1
  | j :: r, cs, h, i + 1, hi => by
    rw [KidsAt] at h
    obtain ⟨c0, c1, c2, c3, c4, t, rfl, _, h2⟩ := h
    exact kids_of_at h2 i (by simpa using hi)
end
end Go.Proofs.YtoofcclcimkipaaDoor.J8
