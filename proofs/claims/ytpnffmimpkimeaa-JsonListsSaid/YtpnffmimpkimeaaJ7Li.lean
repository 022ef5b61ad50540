/-
  The law JsonLists returns true, of any numbers: the walk. Conditions: none.
-/
import Derived.Test.YtpnffmimpkimeaaJ7LiP
import Derived.Test.YtpnffmimpkimeaaJ7EscW
import Derived.Deep.RegionHeld3
namespace Go.Proofs.Ytpnffmimpkimeaa.J7
open Go Go.RowKit Go.Joins Kit Dg

/-! ### Plain -/
theorem rA_len : ∀ (ks : List Int) (f : Bool), Small ks → (rA f ks).length ≤ 1 + 23 * ks.length
  | [], f, _ => by rw [rA_nil]; decide
  | k :: r, f, h => by
    obtain ⟨k1, k2⟩ := h k List.mem_cons_self
    have h1 := rA_len r false fun x hx => h x (List.mem_cons_of_mem _ hx)
    have h2 := numT_short k (by omega) (by omega)
    rw [rA_cons, List.length_append, List.length_append, List.length_cons]
    cases f
    · simp; omega
    · simp; omega
theorem keyT_len (i : Nat) (h : i ≤ 1000000) : (keyT i).length ≤ 20 := by
  have := digs_short (n := (i : Int)) (by omega)
  rw [Lib.size_eq] at this
  unfold digs at this
  unfold keyT
  rw [List.length_cons]
  rw [show (i : Int).toNat = i by omega] at this
  have h2 : (Lib.decDigits i).length ≤ 19 := this
  omega
theorem rT_len : ∀ (ks : List Int) (i : Nat), i + ks.length ≤ 1000000 → Small ks → (rT i ks).length ≤ 1 + 50 * ks.length
  | [], i, _, _ => by rw [rT_nil]; decide
  | k :: r, i, hi, h => by
    obtain ⟨k1, k2⟩ := h k List.mem_cons_self
    rw [List.length_cons] at hi
    have h1 := rT_len r (i + 1) (by omega) fun x hx => h x (List.mem_cons_of_mem _ hx)
    have h2 := numT_short k (by omega) (by omega)
    have h3 := keyT_len i (by omega)
    rw [rT_cons, List.length_append, List.length_cons, List.length_append, List.length_cons, List.length_cons, List.length_cons, List.length_cons, List.length_append, List.length_cons]
    by_cases h0 : i = 0
    · rw [if_pos h0]; simp; omega
    · rw [if_neg h0]; simp; omega
theorem small_of {xs : List Int} (h : ∀ k, -32768 ≤ xs.getD k 0 ∧ xs.getD k 0 ≤ 32767) : Small xs := fun k hk => by
  obtain ⟨i, hi, rfl⟩ := List.getElem_of_mem hk
  have := h i
  rw [List.getD_eq_getElem?_getD, List.getElem?_eq_getElem hi, Option.getD_some] at this
  exact this
theorem drop_get (xs : List Int) (q : Nat) (h : q < xs.length) : xs.drop q = xs.getD q 0 :: xs.drop (q + 1) := by
  rw [List.getD_eq_getElem?_getD, List.getElem?_eq_getElem h, Option.getD_some]
  exact List.drop_eq_getElem_cons h
/-- A number's text, put together. -/
theorem numB_neg {x : Int} (h : x < 0) : (ByteArray.mk #[45] ++ digs (-x)).data.toList = numT x := by
  rw [data_append]
  unfold numT
  rw [if_pos h, show max x (-x) = -x by omega]
theorem numB_pos {x : Int} (h : ¬ x < 0) : (digs x).data.toList = numT x := by
  unfold numT
  rw [if_neg h, show max x (-x) = x by omega]
  rfl
theorem step_A {X D : ByteArray} {AA : List UInt8} {q : Nat} {xs : List Int} {x : Int} (h : X.data.toList ++ rA (decide (q = 0)) (x :: xs) = AA) (hD : D.data.toList = numT x) :
    (q = 0 → (X ++ D).data.toList ++ rA (decide (q + 1 = 0)) xs = AA) ∧ (q ≠ 0 → ((X ++ ByteArray.mk #[32, 44, 32]) ++ D).data.toList ++ rA (decide (q + 1 = 0)) xs = AA) := by
  rw [← h, rA_cons, show decide (q + 1 = 0) = false from decide_eq_false (by omega)]
  constructor
  · intro h0
    rw [data_append, hD, decide_eq_true h0]
    simp
  · intro h0
    rw [data_append, data_append, hD, decide_eq_false h0]
    simp
theorem step_T {Y D : ByteArray} {TT : List UInt8} {q : Nat} {xs : List Int} {x : Int} (h : Y.data.toList ++ rT q (x :: xs) = TT) (hD : D.data.toList = numT x) :
    (q = 0 → ((((Y ++ ByteArray.mk #[34, 107]) ++ digs (q : Int)) ++ ByteArray.mk #[34, 32, 58, 32]) ++ D).data.toList ++ rT (q + 1) xs = TT) ∧
    (q ≠ 0 → (((((Y ++ ByteArray.mk #[44]) ++ ByteArray.mk #[34, 107]) ++ digs (q : Int)) ++ ByteArray.mk #[34, 32, 58, 32]) ++ D).data.toList ++ rT (q + 1) xs = TT) := by
  have hd : (digs (q : Int)).data.toList = Lib.decDigits q := by unfold digs; rw [show (q : Int).toNat = q by omega]
  rw [← h, rT_cons]
  constructor
  · intro h0
    rw [data_append, data_append, data_append, data_append, hD, hd, if_pos h0]
    unfold keyT
    simp
  · intro h0
    rw [data_append, data_append, data_append, data_append, data_append, hD, hd, if_neg h0]
    unfold keyT
    simp
/-- What Parse leaves of an array, an object. -/
theorem parse_list {w0 w : World} {obj : Bool} {K : List ByteArray} {V : List J} {e' : Ending} (h : ParseLeft w0 (.ok (listJ obj K V)) e' w) : Below w0.heap.size w0 w ∧ ∃ a3 m3 a4 m4, e' = .returned (.tuple #[.agg #[.int .i64 (kindO obj), .int .i64 0, .string ⟨#[]⟩, .slice a3 K.length m3, .slice a4 V.length m4], .int .i64 0]) ∧
    NodeAt (fun g => w0.heap.size ≤ g) w (listJ obj K V) (.agg #[.int .i64 (kindO obj), .int .i64 0, .string ⟨#[]⟩, .slice a3 K.length m3, .slice a4 V.length m4]) := by
  obtain ⟨hb, c0, c1, c2, c3, c4, c, he, hc, hn⟩ := h
  obtain ⟨rfl, rfl, rfl, ⟨a3, m3, rfl⟩, ⟨a4, m4, rfl⟩⟩ := node_cells hn
  subst hc
  exact ⟨hb, a3, m3, a4, m4, he, hn⟩
theorem keysB_len (n : Nat) : (keysB n).length = n := by unfold keysB; rw [List.length_map, List.length_range]
theorem parse_arr {w0 w : World} {xs : List Int} {n : Nat} {e' : Ending} (hl : xs.length = n) (h : ParseLeft w0 (.ok (listJ false [] (xs.map numJ))) e' w) : Below w0.heap.size w0 w ∧ ∃ a3 m3 a4 m4, e' = .returned (.tuple #[.agg #[.int .i64 6, .int .i64 0, .string ⟨#[]⟩, .slice a3 0 m3, .slice a4 n m4], .int .i64 0]) ∧
    NodeAt (fun g => w0.heap.size ≤ g) w (listJ false [] (xs.map numJ)) (.agg #[.int .i64 6, .int .i64 0, .string ⟨#[]⟩, .slice a3 0 m3, .slice a4 n m4]) := by
  have := parse_list h
  rw [List.length_map, hl] at this
  exact this
theorem parse_obj {w0 w : World} {xs : List Int} {n : Nat} {e' : Ending} (hl : xs.length = n) (h : ParseLeft w0 (.ok (listJ true (keysB n) (xs.map numJ))) e' w) : Below w0.heap.size w0 w ∧ ∃ a3 m3 a4 m4, e' = .returned (.tuple #[.agg #[.int .i64 7, .int .i64 0, .string ⟨#[]⟩, .slice a3 n m3, .slice a4 n m4], .int .i64 0]) ∧
    NodeAt (fun g => w0.heap.size ≤ g) w (listJ true (keysB n) (xs.map numJ)) (.agg #[.int .i64 7, .int .i64 0, .string ⟨#[]⟩, .slice a3 n m3, .slice a4 n m4]) := by
  have := parse_list h
  rw [List.length_map, hl, keysB_len] at this
  exact this
theorem kid_num {P : Nat → Prop} {w : World} {obj : Bool} {K : List ByteArray} {xs : List Int} {c0 c1 c2 c3 c4 : Value} (h : NodeAt P w (listJ obj K (xs.map numJ)) (.agg #[c0, c1, c2, c3, c4])) (hx : 0 < xs.length) :
    ∃ g o cap, c4 = .slice (some ⟨g, o, none⟩) xs.length cap ∧ ∀ i, i < xs.length → w.cell? ⟨g, o + i * 5 + 1, none⟩ = some (.int .i64 (xs.getD i 0)) := by
  obtain ⟨g, o, cap, e, hc⟩ := kid_cells h (by show xs.map numJ ≠ []; intro e; have := congrArg List.length e; rw [List.length_map] at this; simp at this; subst this; exact absurd hx (Nat.lt_irrefl _))
  have hl : (listJ obj K (xs.map numJ)).kids.length = xs.length := List.length_map _
  refine ⟨g, o, cap, by rw [e, hl], fun i hi => ?_⟩
  obtain ⟨d0, d1, d2, d3, d4, _, h1, _, _, _, hn⟩ := hc i (by rw [hl]; exact hi)
  obtain ⟨_, e1, _⟩ := node_cells hn
  have hk : (listJ obj K (xs.map numJ)).kids[i]'(by rw [hl]; exact hi) = numJ (xs.getD i 0) := by
    show (xs.map numJ)[i]'(by rw [List.length_map]; exact hi) = _
    rw [List.getElem_map, List.getD_eq_getElem?_getD, List.getElem?_eq_getElem hi, Option.getD_some]
  rw [hk] at e1
  rw [show o + i * 5 + 1 = o + (5 * i + 1) by omega, h1, e1]
  try rfl
theorem key_num {P : Nat → Prop} {w : World} {n : Nat} {V : List J} {c0 c1 c2 c3 c4 : Value} (h : NodeAt P w (listJ true (keysB n) V) (.agg #[c0, c1, c2, c3, c4])) (i : Nat) (hi : i < n) :
    ∃ g o cap, c3 = .slice (some ⟨g, o, none⟩) n cap ∧ w.cell? ⟨g, o + i, none⟩ = some (.string (ByteArray.mk #[107] ++ digs (i : Int))) := by
  have hl : (keysB n).length = n := by unfold keysB; rw [List.length_map, List.length_range]
  obtain ⟨g, o, cap, e, hc⟩ := key_cells h i (by show i < (keysB n).length; omega)
  refine ⟨g, o, cap, by rw [e]; show Value.slice _ (keysB n).length _ = _; rw [hl], ?_⟩
  rw [hc]
  show some (Value.string ((keysB n)[i]'(by omega))) = _
  unfold keysB
  rw [List.getElem_map, List.getElem_range]
  rfl

theorem sz1 : (ByteArray.mk #[34, 107]).size = 2 := rfl
theorem sz2 : (ByteArray.mk #[34, 32, 58, 32]).size = 4 := rfl
theorem sz3 : (ByteArray.mk #[45]).size = 1 := rfl
theorem sz4 : (ByteArray.mk #[44]).size = 1 := rfl
theorem sz5 : (ByteArray.mk #[32, 44, 32]).size = 3 := rfl

set_option maxHeartbeats 4000000 in
set_option maxRecDepth 100000 in
theorem jsonLists_walk (A : Option Addr) (n cap : Nat) (xs : List Int) (w : World) (_hn : n ≤ 9223372036854775807) (hlen : xs.length = n)
    (hR : ∀ k, k < n → ∃ b off, A = some ⟨b, off, none⟩ ∧ b < w.heap.size ∧ w.cell? ⟨b, off + k, none⟩ = some (.int .i16 (xs.getD k 0)))
    (hB : ∀ k, -32768 ≤ xs.getD k 0 ∧ xs.getD k 0 ≤ 32767) :
    Calls Try.prog 11 #[.slice A n cap] w fun e w' => e = .returned (.bool true) ∧ Below w.heap.size w w' := by
  have HR := Lib.hid hR
  have HBD := Lib.hid hB
  have HLEN := Lib.hid hlen
  have hsm := small_of hB
  clear hR hB _hn
  by_cases h : 100 < n
  · have g : (100 : Int) < n := by omega
    clear hsm hlen
    go_enter Try.func11, Try.ntmps11
    go_wp2_with fail
    refine (awake_any w).mono ?_
    rintro e w1 ⟨rfl, hb1⟩
    go_wp2_with fail
    go_ret
    exact ⟨rfl, hb1⟩
  have g : (n : Int) ≤ 100 := by omega
  have hPA := parse_A xs hsm (by have := rA_len xs true hsm; rw [List.length_cons]; omega)
  have hPT := parse_T xs hsm (by have := rT_len xs 0 (by omega) hsm; rw [List.length_cons]; omega)
  rw [hlen] at hPT
  have HPA := Lib.hid hPA
  have HPT := Lib.hid hPT
  have hb0 := Below.refl w.heap.size w
  clear hPA hPT hsm hlen h
  go_enter Try.func11, Try.ntmps11
  go_wp2_with fail
  go_loopg [3, 4, 5] n (fun m s t i wr => ∃ (q : Nat) (X Y : ByteArray), m = n - q ∧ s = .string X ∧ t = .string Y ∧ i = .int .i64 q ∧ q ≤ n ∧ (X.size : Int) ≤ 1 + 50 * q ∧ (Y.size : Int) ≤ 1 + 60 * q ∧ Hid (X.data.toList ++ rA (decide (q = 0)) (xs.drop q) = 91 :: rA true xs) ∧ Hid (Y.data.toList ++ rT q (xs.drop q) = 123 :: rT 0 xs) ∧ Below w.heap.size w wr)
  case atStart => exact ⟨0, ⟨#[91]⟩, ⟨#[123]⟩, rfl, rfl, rfl, rfl, Nat.zero_le _, by decide, by decide, Lib.hid rfl, Lib.hid rfl, hb0⟩
  case round =>
    clear hb0
    obtain ⟨q, X, Y, rfl, rfl, rfl, rfl, hq, hX, hY, HX, HY, hb⟩ := hrel
    by_cases hlt : q < n
    · obtain ⟨b, off, rfl, hbl, hcell⟩ := HR.out q hlt
      have hc : wr.cell? ⟨b, off + q, none⟩ = some (.int .i16 (xs.getD q 0)) := (hb.cell (p := ⟨b, off + q, none⟩) hbl).trans hcell
      have hbd := HBD.out q
      have hdr := drop_get xs q (by have := HLEN.out; omega)
      have HX' := HX.out
      have HY' := HY.out
      rw [hdr] at HX' HY'
      obtain ⟨x, hx⟩ : ∃ x, xs.getD q 0 = x := ⟨_, rfl⟩
      rw [hx] at hc hbd HX' HY'
      obtain ⟨x1, x2⟩ := hbd
      have z1 : ((digs (q : Int)).size : Int) ≤ 19 := by have := digs_short (n := (q : Int)) (by omega); omega
      clear hcell hdr hx hbl
      by_cases hneg : x < 0
      · have hD := numB_neg hneg
        have z2 : ((digs (-x)).size : Int) ≤ 19 := by have := digs_short (n := -x) (by omega); omega
        obtain ⟨a1, a2⟩ := step_A HX' hD
        obtain ⟨t1, t2⟩ := step_T HY' hD
        clear hD HX' HY'
        by_cases h0 : q = 0
        · have A1 := Lib.hid (a1 h0)
          have T1 := Lib.hid (t1 h0)
          have gq : decide (0 < q) = false := by rw [decide_eq_false_iff_not]; omega
          clear a1 a2 t1 t2 h0
          go_wp2_with fail
          refine (Rf.digits_call x (by omega) (by omega) wr).mono ?_
          rintro e w1 ⟨rfl, hb1⟩
          go_wp2_with fail
          refine (Rf.digits_call (-x) (by omega) (by omega) w1).mono ?_
          rintro e w2 ⟨rfl, hb2⟩
          go_wp2_with fail
          refine (Rf.digits_call (q : Int) (by omega) (by omega) w2).mono ?_
          rintro e w3 ⟨rfl, hb3⟩
          go_wp2_with fail
          go_roundg (n - (q + 1))
          case measure => omega
          case rel => exact ⟨q + 1, _, _, rfl, rfl, rfl, by go_num, by omega, by simp only [ByteArray.size_append, sz3]; omega, by simp only [ByteArray.size_append, sz1, sz2, sz3]; omega, A1, T1, hb.trans ((hb1.trans ((hb2.trans (hb3.mono hb2.size)).mono hb1.size)).mono hb.size)⟩
        · have A1 := Lib.hid (a2 h0)
          have T1 := Lib.hid (t2 h0)
          have gq : decide (0 < q) = true := by rw [decide_eq_true_iff]; omega
          clear a1 a2 t1 t2 h0
          go_wp2_with fail
          refine (Rf.digits_call x (by omega) (by omega) wr).mono ?_
          rintro e w1 ⟨rfl, hb1⟩
          go_wp2_with fail
          refine (Rf.digits_call (-x) (by omega) (by omega) w1).mono ?_
          rintro e w2 ⟨rfl, hb2⟩
          go_wp2_with fail
          refine (Rf.digits_call (q : Int) (by omega) (by omega) w2).mono ?_
          rintro e w3 ⟨rfl, hb3⟩
          go_wp2_with fail
          go_roundg (n - (q + 1))
          case measure => omega
          case rel => exact ⟨q + 1, _, _, rfl, rfl, rfl, by go_num, by omega, by simp only [ByteArray.size_append, sz5, sz3]; omega, by simp only [ByteArray.size_append, sz4, sz1, sz2, sz3]; omega, A1, T1, hb.trans ((hb1.trans ((hb2.trans (hb3.mono hb2.size)).mono hb1.size)).mono hb.size)⟩
      · have hD := numB_pos hneg
        have z2 : ((digs x).size : Int) ≤ 19 := by have := digs_short (n := x) (by omega); omega
        have hneg : 0 ≤ x := by omega
        obtain ⟨a1, a2⟩ := step_A HX' hD
        obtain ⟨t1, t2⟩ := step_T HY' hD
        clear hD HX' HY'
        by_cases h0 : q = 0
        · have A1 := Lib.hid (a1 h0)
          have T1 := Lib.hid (t1 h0)
          have gq : decide (0 < q) = false := by rw [decide_eq_false_iff_not]; omega
          clear a1 a2 t1 t2 h0
          go_wp2_with fail
          refine (Rf.digits_call x (by omega) (by omega) wr).mono ?_
          rintro e w1 ⟨rfl, hb1⟩
          go_wp2_with fail
          refine (Rf.digits_call (q : Int) (by omega) (by omega) w1).mono ?_
          rintro e w3 ⟨rfl, hb3⟩
          go_wp2_with fail
          go_roundg (n - (q + 1))
          case measure => omega
          case rel => exact ⟨q + 1, _, _, rfl, rfl, rfl, by go_num, by omega, by simp only [ByteArray.size_append]; omega, by simp only [ByteArray.size_append, sz1, sz2]; omega, A1, T1, hb.trans ((hb1.trans (hb3.mono hb1.size)).mono hb.size)⟩
        · have A1 := Lib.hid (a2 h0)
          have T1 := Lib.hid (t2 h0)
          have gq : decide (0 < q) = true := by rw [decide_eq_true_iff]; omega
          clear a1 a2 t1 t2 h0
          go_wp2_with fail
          refine (Rf.digits_call x (by omega) (by omega) wr).mono ?_
          rintro e w1 ⟨rfl, hb1⟩
          go_wp2_with fail
          refine (Rf.digits_call (q : Int) (by omega) (by omega) w1).mono ?_
          rintro e w3 ⟨rfl, hb3⟩
          go_wp2_with fail
          go_roundg (n - (q + 1))
          case measure => omega
          case rel => exact ⟨q + 1, _, _, rfl, rfl, rfl, by go_num, by omega, by simp only [ByteArray.size_append, sz5]; omega, by simp only [ByteArray.size_append, sz4, sz1, sz2]; omega, A1, T1, hb.trans ((hb1.trans (hb3.mono hb1.size)).mono hb.size)⟩
    · have hd : xs.drop q = [] := List.drop_eq_nil_of_le (by have := HLEN.out; omega)
      have hXd : (X ++ ByteArray.mk #[93]).data.toList = 91 :: rA true xs := by
        have := HX.out
        rw [hd, rA_nil] at this
        rw [data_append]
        exact this
      have hYd : (Y ++ ByteArray.mk #[125]).data.toList = 123 :: rT 0 xs := by
        have := HY.out
        rw [hd, rT_nil] at this
        rw [data_append]
        exact this
      have HYD := Lib.hid hYd
      have gi : decide (q < n) = false := by rw [decide_eq_false_iff_not]; exact hlt
      have gX : (X.size : Int) ≤ 5001 := by omega
      have gY : (Y.size : Int) ≤ 6001 := by omega
      obtain ⟨N1, cap1, gg1, w1, hconv, hby, hb1⟩ := conv_text _ _ hXd wr
      have hp1 := parse_any _ _ w1 hby
      rw [HPA.out] at hp1
      clear hd hXd hYd hby hX hY HX HY
      go_wp2_with fail
      refine hp1.mono ?_
      intro e' w2 hL
      obtain ⟨hb2, a3, m3, a4, m4, rfl, hn2⟩ := parse_arr HLEN.out hL
      obtain ⟨w3, hw3⟩ : ∃ w3, w2.alloc (.cells #[.int .i64 6, .int .i64 0, .string ⟨#[]⟩, .slice a3 0 m3, .slice a4 n m4] 27) = w3 := ⟨_, rfl⟩
      have hb23 : Below w2.heap.size w2 w3 := by rw [← hw3]; exact (Below.refl _ w2).alloc (Nat.le_refl _) _
      have hbr3 : Below wr.heap.size wr w3 := hb1.trans ((hb2.trans (hb23.mono hb2.size)).mono hb1.size)
      have hb03 : Below w.heap.size w w3 := hb.trans (hbr3.mono hb.size)
      have hA : Bx w2.heap.size (.int .i64 6) (.int .i64 0) (.string ⟨#[]⟩) (.slice a3 0 m3) (.slice a4 n m4) w3 := by rw [← hw3]; exact Bx.made w2 _ _ _ _ _
      have hn3 := hn2.keep (kept_below hb23)
      have HW3 := Lib.hid hw3
      obtain ⟨Gn, hGn⟩ : ∃ Gn, w2.heap.size = Gn := ⟨_, rfl⟩
      rw [hGn] at hA
      have hGl := hA.lt
      obtain ⟨N2, cap2, gg2, w4, hconv2, hby2, hb4⟩ := conv_text _ _ HYD.out w3
      have hp2 := parse_any _ _ w4 hby2
      rw [HPT.out] at hp2
      clear hL hp1 hw3 hn2 hby2 hconv
      go_upto_region 17 with fail
      rw [HW3.out]
      (try rw [hGn])
      go_wp2_with fail
      refine hp2.mono ?_
      intro e' w5 hL
      obtain ⟨hb5, b3, k3, b4, k4, rfl, hn5⟩ := parse_obj HLEN.out hL
      obtain ⟨w6, hw6⟩ : ∃ w6, w5.alloc (.cells #[.int .i64 7, .int .i64 0, .string ⟨#[]⟩, .slice b3 n k3, .slice b4 n k4] 27) = w6 := ⟨_, rfl⟩
      have hb56 : Below w5.heap.size w5 w6 := by rw [← hw6]; exact (Below.refl _ w5).alloc (Nat.le_refl _) _
      have hb36 : Below w3.heap.size w3 w6 := hb4.trans ((hb5.trans (hb56.mono hb5.size)).mono hb4.size)
      have hb06 : Below w.heap.size w w6 := hb03.trans (hb36.mono hb03.size)
      have hA6 : Bx Gn (.int .i64 6) (.int .i64 0) (.string ⟨#[]⟩) (.slice a3 0 m3) (.slice a4 n m4) w6 := hA.same (hb36.block Gn hGl)
      have hB6 : Bx w5.heap.size (.int .i64 7) (.int .i64 0) (.string ⟨#[]⟩) (.slice b3 n k3) (.slice b4 n k4) w6 := by rw [← hw6]; exact Bx.made w5 _ _ _ _ _
      have hnA := hn3.keep (kept_below hb36)
      have hnB := hn5.keep (kept_below hb56)
      have HW6 := Lib.hid hw6
      obtain ⟨Gm, hGm⟩ : ∃ Gm, w5.heap.size = Gm := ⟨_, rfl⟩
      rw [hGm] at hB6
      have HNA := Lib.hid (fun (w' : World) (hb : Below w6.heap.size w6 w') (h0 : 0 < n) => (⟨kid_num (hnA.keep (kept_below hb)) (by rw [HLEN.out]; exact h0), kid_num (hnB.keep (kept_below hb)) (by rw [HLEN.out]; exact h0)⟩ : _ ∧ _))
      have HNB := Lib.hid (fun (w' : World) (hb : Below w6.heap.size w6 w') (i : Nat) (hi : i < n) => key_num (hnB.keep (kept_below hb)) i hi)
      have p0 := hA6.p0
      have p4 := hA6.p4
      have q0 := hB6.p0
      have q3 := hB6.p3
      have q4 := hB6.p4
      clear hL hp2 hw6 hn3 hn5 hb23 hbr3 hb03 hb56 hb36 hconv2 hnA hnB hA hGl hb hb1 hb2 hb4 hb5 hlt hq
      go_upto_region 18 with fail
      rw [HW6.out]
      (try rw [hGm])
      go_wp2_with fail
      refine (L3.num_any 0 _).mono ?_
      rintro e' w7 ⟨rfl, rfl⟩
      go_wp2_with fail
      refine (L3.num_any 0 _).mono ?_
      rintro e' w7 ⟨rfl, rfl⟩
      go_wp2_with fail
      clear p0 p4 q0 q3 q4
      go_loopg [12] n (fun m v wx => ∃ i : Nat, m = n - i ∧ v = .int .i64 i ∧ i ≤ n ∧ Below w6.heap.size w6 wx)
      case atStart => exact ⟨0, rfl, rfl, Nat.zero_le _, Below.refl _ _⟩
      case round =>
        obtain ⟨i, rfl, rfl, hi, hbx⟩ := hrel
        have hA7 := hA6.same (hbx.block Gn hA6.lt)
        have hB7 := hB6.same (hbx.block Gm hB6.lt)
        have p4 := hA7.p4
        have q3 := hB7.p3
        have q4 := hB7.p4
        by_cases hlt : i < n
        · obtain ⟨⟨g1, o1, k1, e1, t1⟩, ⟨g2, o2, k2, e2, t2⟩⟩ := HNA.out wr hbx (by omega)
          obtain ⟨g3, o3, k3', e3, t3⟩ := HNB.out wr hbx i hlt
          rw [HLEN.out] at e1 e2
          rw [e1] at p4
          rw [e2] at q4
          rw [e3] at q3
          have u1 := t1 i (by rw [HLEN.out]; exact hlt)
          have u2 := t2 i (by rw [HLEN.out]; exact hlt)
          have hb8 := hb06.trans (hbx.mono hb06.size)
          obtain ⟨b, off, rfl, hbl, hcell⟩ := HR.out i hlt
          have hc : wr.cell? ⟨b, off + i, none⟩ = some (.int .i16 (xs.getD i 0)) := (hb8.cell (p := ⟨b, off + i, none⟩) hbl).trans hcell
          have hbd := HBD.out i
          obtain ⟨x, hx⟩ : ∃ x, xs.getD i 0 = x := ⟨_, rfl⟩
          rw [hx] at hc hbd u1 u2
          obtain ⟨x1, x2⟩ := hbd
          have z1 : ((digs (i : Int)).size : Int) ≤ 19 := by have := digs_short (n := (i : Int)) (by omega); omega
          have kc : ∀ (w2 : World) (ad : Addr) (v : Value), Below wr.heap.size wr w2 → wr.cell? ad = some v → w2.cell? ad = some v := fun w2 ad v hb hv => (hb.cell (p := ad) (World.block_lt_of_cell? wr ad hv)).trans hv
          have hkeep : ∀ w1 w2 : World, Below wr.heap.size wr w1 → Below w1.heap.size w1 w2 → (Below wr.heap.size wr w2 ∧ w2.cell? ⟨Gn, 4, none⟩ = some (.slice (some ⟨g1, o1, none⟩) n k1) ∧ w2.cell? ⟨Gm, 4, none⟩ = some (.slice (some ⟨g2, o2, none⟩) n k2) ∧ w2.cell? ⟨Gm, 3, none⟩ = some (.slice (some ⟨g3, o3, none⟩) n k3') ∧ w2.cell? ⟨g1, o1 + i * 5 + 1, none⟩ = some (.int .i64 x) ∧ w2.cell? ⟨g2, o2 + i * 5 + 1, none⟩ = some (.int .i64 x) ∧ w2.cell? ⟨g3, o3 + i, none⟩ = some (.string (ByteArray.mk #[107] ++ digs (i : Int))) ∧ w2.cell? ⟨b, off + i, none⟩ = some (.int .i16 x)) := fun w1 w2 h1 h2 => by
            have h3 := h1.trans (h2.mono h1.size)
            exact ⟨h3, kc w2 _ _ h3 p4, kc w2 _ _ h3 q4, kc w2 _ _ h3 q3, kc w2 _ _ h3 u1, kc w2 _ _ h3 u2, kc w2 _ _ h3 t3, kc w2 _ _ h3 hc⟩
          have HKEEP := Lib.hid hkeep
          have ew : IntKind.i64.wrap x = x := IntWalk.i64_in _ (by omega)
          have en : (x != x) = false := by simp
          have ec : ∀ W : World, (Op.stringOp .add (ByteArray.mk #[107]) (digs (i : Int))).run Try.prog W = .ok (.string (ByteArray.mk #[107] ++ digs (i : Int))) W := fun W => run_string_add_sum (P := Try.prog) W _ _ (by show 1 + (digs (i : Int)).size ≤ _; omega)
          have hdrew : Below wr.heap.size wr wr.drew := (Below.refl _ wr).drew
          clear hcell hx hbl t1 t2 hi hkeep kc e1 e2 e3
          go_wp2_with fail
          go_region_held3 (fun w' : World => Below wr.heap.size wr w' ∧ w'.cell? ⟨Gn, 4, none⟩ = some (.slice (some ⟨g1, o1, none⟩) n k1) ∧ w'.cell? ⟨Gm, 4, none⟩ = some (.slice (some ⟨g2, o2, none⟩) n k2) ∧ w'.cell? ⟨Gm, 3, none⟩ = some (.slice (some ⟨g3, o3, none⟩) n k3') ∧ w'.cell? ⟨g1, o1 + i * 5 + 1, none⟩ = some (.int .i64 x) ∧ w'.cell? ⟨g2, o2 + i * 5 + 1, none⟩ = some (.int .i64 x) ∧ w'.cell? ⟨g3, o3 + i, none⟩ = some (.string (ByteArray.mk #[107] ++ digs (i : Int))) ∧ w'.cell? ⟨b, off + i, none⟩ = some (.int .i16 x)) (first | exact HKEEP.out wr wr.drew (Below.refl _ wr) (by exact (Below.refl _ wr).drew) | exact HKEEP.out wr.drew _ hdrew (by assumption)) ((refine (Rf.digits_call (i : Int) (by omega) (by omega) _).mono ?_; rintro e7 w7 ⟨rfl, hb7⟩))
          all_goals
            go_wp2_with fail
            go_roundg (n - (i + 1))
            case measure => omega
            case rel => exact ⟨i + 1, rfl, by go_num, by omega, hbx.trans ((hdrew.trans (hb7.mono hdrew.size)).mono hbx.size)⟩
        · have gi2 : decide (i < n) = false := by rw [decide_eq_false_iff_not]; exact hlt
          go_wp2_with fail
          refine (awake_any _).mono ?_
          rintro e' w9 ⟨rfl, hb9⟩
          go_wp2_with fail
          go_ret
          have hb8 := hb06.trans (hbx.mono hb06.size)
          exact ⟨rfl, hb8.trans (hb9.mono hb8.size)⟩
end Go.Proofs.Ytpnffmimpkimeaa.J7
