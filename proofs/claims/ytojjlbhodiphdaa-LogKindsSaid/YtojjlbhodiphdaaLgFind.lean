/-
  The place of the first entry above a clock (behind), by the library's search over a closure that reads the log. Conditions: clocks do not fall; at most 1000000 entries are kept.
-/
import Derived.Test.YtojjlbhodiphdaaLgLog
import Derived.Shelf.Abstract
namespace Go.Proofs.Ytojjlbhodiphdaa.Lg
open Go Go.RowKit Go.Joins Go.Shelf

/-- A place that parts those where p is false from those where it is true, sought by halves. -/
def Parts (p : Nat → Bool) (n c : Nat) : Prop := c ≤ n ∧ (∀ t, t < c → p t = false) ∧ ∀ t, c ≤ t → t < n → p t = true

set_option maxHeartbeats 2000000 in
set_option maxRecDepth 100000 in
theorem search_any (g n : Nat) (cb : Array Value) (p : Nat → Bool) (w : World) (hn : n ≤ 1000000) (eg : ∀ args w, (callFunc g args).run Try.prog w = .ok (.enter g args) w)
    (hf : ∀ m i, i < n → Calls Try.prog g (#[.int .i64 (i : Int)] ++ cb) (w.drewN m) fun e w' => e = .returned (.bool (p i)) ∧ ∃ q, w' = w.drewN q) (hmono : ∀ a b, a ≤ b → b < n → p a = true → p b = true) :
    Calls Try.prog 34 #[.int .i64 (n : Int), .func (.func g) #[] cb] w fun e w' => (∃ c : Nat, e = .returned (.int .i64 (c : Int)) ∧ Parts p n c) ∧ ∃ q, w' = w.drewN q := by
  have HF := Lib.hid hf
  have HM := Lib.hid hmono
  clear hf hmono
  go_enter Try.func34, Try.ntmps34
  go_wp2
  go_loopg [5, 6] n (fun left va vb wr => ∃ (a b q : Nat), va = .int .i64 (a : Int) ∧ vb = .int .i64 (b : Int) ∧ a ≤ b ∧ b ≤ n ∧ b - a ≤ left ∧ wr = w.drewN q ∧ Hid ((∀ t, t < a → p t = false) ∧ ∀ t, b ≤ t → t < n → p t = true))
  case atStart => exact ⟨0, n, 0, rfl, rfl, Nat.zero_le _, Nat.le_refl _, by omega, rfl, Lib.hid ⟨fun t ht => absurd ht (Nat.not_lt_zero _), fun t h1 h2 => by omega⟩⟩
  case round =>
    obtain ⟨a, b, q, rfl, rfl, hab, hbn, hleft, rfl, I⟩ := hrel
    by_cases hlt : a < b
    · have gab : (a : Int) < (b : Int) := by omega
      have gsm : (a : Int) + (b : Int) < 4000000 := by omega
      have hc := HF.out q ((a + b) / 2) (by omega)
      rw [show (((a + b) / 2 : Nat) : Int) = ((a : Int) + (b : Int)) / 2 by omega] at hc
      cases hp : p ((a + b) / 2) <;> rw [hp] at hc
      · have HP := Lib.hid hp
        clear hp
        go_wp2_with fail
        refine hc.mono ?_
        rintro e w' ⟨rfl, nq, rfl⟩
        go_wp2_with fail
        go_roundg (b - ((a + b) / 2 + 1))
        case measure => omega
        case rel =>
          refine ⟨(a + b) / 2 + 1, b, nq, by rw [show ((a : Int) + (b : Int)) / 2 + 1 = (((a + b) / 2 + 1 : Nat) : Int) by omega], rfl, by omega, hbn, Nat.le_refl _, rfl, Lib.hid ⟨fun t ht => ?_, I.out.2⟩⟩
          cases h : p t with
          | false => rfl
          | true =>
            have h5 := HM.out t ((a + b) / 2) (by omega) (by omega) h
            rw [HP.out] at h5
            cases h5
      · have HP := Lib.hid hp
        clear hp
        go_wp2_with fail
        refine hc.mono ?_
        rintro e w' ⟨rfl, nq, rfl⟩
        go_wp2_with fail
        go_roundg ((a + b) / 2 - a)
        case measure => omega
        case rel => exact ⟨a, (a + b) / 2, nq, rfl, by rw [show ((a : Int) + (b : Int)) / 2 = (((a + b) / 2 : Nat) : Int) by omega], by omega, by omega, Nat.le_refl _, rfl, Lib.hid ⟨I.out.1, fun t ht htn => HM.out ((a + b) / 2) t ht htn HP.out⟩⟩
    · obtain rfl : b = a := by omega
      have gab : ¬ (b : Int) < (b : Int) := by omega
      go_wp2
      go_ret
      exact ⟨⟨b, rfl, hbn, I.out.1, I.out.2⟩, q, rfl⟩

/-! ### The closure -/
theorem parts_behind {k : List En} {m : Int} {c : Nat} (h : Parts (fun i => decide (m < (k[i]?.map (·.mod)).getD 0)) k.length c) : c = behindL k m := by
  obtain ⟨h1, h2, h3⟩ := h
  unfold behindL
  rw [← List.take_append_drop c k, List.countP_append]
  have e1 : (k.take c).countP (fun e => !decide (m < e.mod)) = c := by
    rw [List.countP_eq_length.2 (fun e he => ?_), List.length_take, Nat.min_eq_left h1]
    obtain ⟨i, hi, rfl⟩ := List.getElem_of_mem he
    rw [List.length_take] at hi
    have := h2 i (by omega)
    dsimp only at this
    rw [List.getElem?_eq_getElem (by omega)] at this
    rw [List.getElem_take]
    simpa using this
  have e2 : (k.drop c).countP (fun e => !decide (m < e.mod)) = 0 := by
    rw [List.countP_eq_zero]
    intro e he
    obtain ⟨i, hi, rfl⟩ := List.getElem_of_mem he
    rw [List.length_drop] at hi
    have := h3 (c + i) (by omega) (by omega)
    dsimp only at this
    rw [List.getElem?_eq_getElem (by omega)] at this
    rw [List.getElem_drop]
    simpa using this
  rw [e1, e2, Nat.add_zero]
theorem rise_get {k : List En} (hr : Rise k) {a b : Nat} (hab : a ≤ b) (hb : b < k.length) : k[a].mod ≤ k[b].mod := by
  rcases Nat.eq_or_lt_of_le hab with rfl | h
  · exact Int.le_refl _
  · exact (List.pairwise_iff_getElem.1 hr) a b (by omega) hb h

set_option maxHeartbeats 1000000 in
set_option maxRecDepth 100000 in
theorem behind1_any (B lb bl bm : Nat) (v : Value) (most fl m : Int) (k : List En) (i : Nat) (W : World) (hL : LogAt B lb v most fl k W) (h1 : W.cell? ⟨bl, 0, none⟩ = some (.pointer (some ⟨lb, 0, none⟩))) (h2 : W.cell? ⟨bm, 0, none⟩ = some (.int .i64 m)) (hi : i < k.length) :
    Calls Try.prog 35 #[.int .i64 (i : Int), .pointer (some ⟨bl, 0, none⟩), .pointer (some ⟨bm, 0, none⟩)] W fun e w' => e = .returned (.bool (decide (m < k[i].mod))) ∧ ∃ q, w' = W.drewN q := by
  have g0 : (0 : Int) ≤ (i : Int) := by omega
  obtain ⟨c0, c1, c2, _⟩ := hL.cells
  obtain ⟨g, o, cap, hv, q0, _⟩ := sat_en hL.2.2.sat i hi
  subst hv
  have g1 : (i : Int) < (k.length : Int) := by omega
  clear hL
  generalize k[i].mod = y at q0 ⊢
  go_enter Try.func35, Try.ntmps35
  go_wp2_with fail
  go_quiet (fail)
  go_wp2_with fail
  go_ret
  exact ⟨rfl, _, rfl⟩

set_option maxHeartbeats 1000000 in
set_option maxRecDepth 100000 in
theorem behind_any (B lb : Nat) (v : Value) (most fl m : Int) (k : List En) (w : World) (hL : LogAt B lb v most fl k w) (hr : Rise k) (hk : k.length ≤ 1000000) :
    Calls Try.prog 33 #[.pointer (some ⟨lb, 0, none⟩), .int .i64 m] w fun e w' => e = .returned (.int .i64 (behindL k m : Int)) ∧ Below w.heap.size w w' := by
  obtain ⟨W, hW⟩ : ∃ W, (w.alloc (.cells #[.pointer (some ⟨lb, 0, none⟩)] 25)).alloc (.cells #[.int .i64 m] 3) = W := ⟨_, rfl⟩
  have hb : Below w.heap.size w W := by rw [← hW]; exact ((Below.refl _ w).alloc (Nat.le_refl _) _).alloc (by simp) _
  have hLW := hL.below hb
  have d1 : W.cell? ⟨w.heap.size, 0, none⟩ = some (.pointer (some ⟨lb, 0, none⟩)) := by
    rw [← hW]
    exact (((Below.refl _ (w.alloc (.cells #[.pointer (some ⟨lb, 0, none⟩)] 25))).alloc (Nat.le_refl _) (.cells #[.int .i64 m] 3)).cell (p := ⟨w.heap.size, 0, none⟩) (by simp)).trans (by rw [cell_of_row _ _ _ _ _ _ (heap_alloc_new w _)]; rfl)
  have d2 : W.cell? ⟨w.heap.size + 1, 0, none⟩ = some (.int .i64 m) := by
    rw [← hW]
    have := heap_alloc_new (w.alloc (.cells #[.pointer (some ⟨lb, 0, none⟩)] 25)) (.cells #[.int .i64 m] 3)
    rw [World.size_alloc] at this
    rw [cell_of_row _ _ _ _ _ _ this]
    rfl
  obtain ⟨_, _, c2, _⟩ := hLW.cells
  obtain ⟨va, vc, rfl⟩ := hL.2.2.form
  have HS := Lib.hid (search_any 35 k.length #[.pointer (some ⟨w.heap.size, 0, none⟩), .pointer (some ⟨w.heap.size + 1, 0, none⟩)] (fun i => decide (m < (k[i]?.map (·.mod)).getD 0)) W hk
    (enters_of Try.func35 (by kernel_rfl) rfl)
    (fun q i hi => by
      refine (behind1_any B lb w.heap.size (w.heap.size + 1) _ most fl m k i (W.drewN q) (hLW.below (below_drewN (Below.refl _ _) _)) d1 d2 hi).mono ?_
      rintro e w' ⟨rfl, q', rfl⟩
      refine ⟨by rw [List.getElem?_eq_getElem hi]; rfl, q + q', by rw [World.drewN_drewN]⟩)
    (fun a b hab hb h => by
      simp only [decide_eq_true_eq] at h ⊢
      rw [List.getElem?_eq_getElem (by omega)] at h ⊢
      have := rise_get hr hab hb
      simp only [Option.map_some, Option.getD_some] at h ⊢
      omega))
  have HB := Lib.hid hb
  clear hb hLW hL hr
  go_enter Try.func33, Try.ntmps33
  go_wp2_with fail
  refine HS.out.mono ?_
  rintro e w' ⟨⟨c, rfl, hc⟩, q, rfl⟩
  obtain rfl := parts_behind hc
  go_wp2_with fail
  go_ret
  exact ⟨rfl, below_drewN HB.out _⟩
end Go.Proofs.Ytojjlbhodiphdaa.Lg
