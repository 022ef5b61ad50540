/-
  The program's reader of JSON: a byte or a word that must stand there, hexadecimal digits, numbers. Conditions: the text has at most 65536 bytes.
-/
import Derived.Test.YtpnffmimpkimeaaJ7Cr
import Derived.Test.YtpnffmimpkimeaaU8Kit
import Derived.Lib.Strings
import Derived.Lib.IndexBytes
namespace Go.Proofs.Ytpnffmimpkimeaa.J7
open Go Go.RowKit Go.Joins Kit

/-- What a function of the program's reader leaves: what it hands back, the reader at the rest; or it gives up. -/
def LeftC {α : Type} (R : Nat) (s : ByteArray) (w : World) (ret : α → Value) (o : Out α) (e' : Ending) (w' : World) : Prop :=
  Step R w w' ∧ match o with
    | .ok (a, r) => e' = .returned (ret a) ∧ ∃ k : Nat, k ≤ s.size ∧ r = tail s k ∧ Rc R s k w'
    | .error c => e' = Errs c
theorem pk_eat {l r : List UInt8} {c : UInt8} (h : eatL c l = some r) : pk l = c := by rw [eat_some h]; rfl
theorem pk_not {l : List UInt8} {c : UInt8} (h : eatL c l = none) (hc : c ≠ 0) : pk l ≠ c := by
  cases l with
  | nil => exact fun e => hc e.symm
  | cons a r =>
    rw [eatL] at h
    intro e
    rw [if_pos (show a = c from e)] at h
    cases h

set_option maxHeartbeats 1000000 in
theorem found_yes (R : Nat) (s : ByteArray) (i : Nat) (c : UInt8) (r : List UInt8) (w : World) (h : Rc R s i w) (hs : s.size ≤ 65536) (hi : i ≤ s.size) (hc : eatL c (skipL (tail s i)) = some r) :
    Calls Try.prog 47 #[.pointer (some ⟨R, 0, none⟩), .int .u8 (c.toNat : Int)] w fun e' w' => e' = .returned (.bool true) ∧ Step R w w' ∧ ∃ k : Nat, i < k ∧ k ≤ s.size ∧ r = tail s k ∧ Rc R s k w' := by
  have hsz : (s.size : Int) ≤ 65536 := by omega
  have HC := Lib.hid hc
  clear hc
  go_enter Try.func47, Try.ntmps47
  go_wp2_with fail
  refine (skip_any R s i w h hs hi).mono ?_
  rintro e' w1 ⟨rfl, k, hk1, hk2, hk, hr1, hs1⟩
  have he : eatL c (tail s k) = some r := by rw [← hk]; exact HC.out
  obtain ⟨hl, -, hre⟩ := eat_place he
  have hp := pk_eat he
  clear hk he
  go_wp2_with fail
  refine (peek_any R s k w1 hr1 hs).mono ?_
  rintro e' w2 ⟨rfl, hr2, hs2⟩
  rw [hp]
  have h1 := hr2.c1
  have hz := hr2.free 1
  have hst2 := hs1.trans hs2
  go_wp2_with fail
  go_ret
  exact ⟨rfl, hst2.set 1 _, k + 1, by omega, by omega, hre, by simpa using hr2.set1 (k + 1) ((k : Int) + 1) (by omega)⟩
set_option maxHeartbeats 1000000 in
theorem found_no (R : Nat) (s : ByteArray) (i : Nat) (c : UInt8) (w : World) (h : Rc R s i w) (hs : s.size ≤ 65536) (hi : i ≤ s.size) (h0 : c ≠ 0) (hc : eatL c (skipL (tail s i)) = none) :
    Calls Try.prog 47 #[.pointer (some ⟨R, 0, none⟩), .int .u8 (c.toNat : Int)] w fun e' w' => e' = .returned (.bool false) ∧ Step R w w' ∧ ∃ k : Nat, i ≤ k ∧ k ≤ s.size ∧ skipL (tail s i) = tail s k ∧ Rc R s k w' := by
  have hsz : (s.size : Int) ≤ 65536 := by omega
  have HC := Lib.hid hc
  clear hc
  go_enter Try.func47, Try.ntmps47
  go_wp2_with fail
  refine (skip_any R s i w h hs hi).mono ?_
  rintro e' w1 ⟨rfl, k, hk1, hk2, hk, hr1, hs1⟩
  have hp : pk (tail s k) ≠ c := pk_not (by rw [← hk]; exact HC.out) h0
  have HK := Lib.hid hk
  clear hk
  obtain ⟨x, hx⟩ : ∃ x, pk (tail s k) = x := ⟨_, rfl⟩
  have hpeek := peek_any R s k w1 hr1 hs
  rw [hx] at hp hpeek
  clear hx
  have g : ((x.toNat : Int) != (c.toNat : Int)) = true := by rw [bne_iff_ne]; exact fun e => hp (byte_eq e)
  clear hp
  go_wp2_with fail
  refine hpeek.mono ?_
  rintro e' w2 ⟨rfl, hr2, hs2⟩
  have hst2 := hs1.trans hs2
  go_wp2_with fail
  go_ret
  exact ⟨rfl, hst2, k, hk1, hk2, HK.out, hr2⟩
def wantL (c : UInt8) (l : List UInt8) : Out Unit := match eatL c (skipL l) with
  | some r => .ok ((), r)
  | none => .error 3
set_option maxHeartbeats 1000000 in
theorem want_any (R : Nat) (s : ByteArray) (i : Nat) (c : UInt8) (w : World) (h : Rc R s i w) (hs : s.size ≤ 65536) (hi : i ≤ s.size) (h0 : c ≠ 0) :
    Calls Try.prog 48 #[.pointer (some ⟨R, 0, none⟩), .int .u8 (c.toNat : Int)] w fun e' w' => LeftC R s w (fun _ => .tuple #[]) (wantL c (tail s i)) e' w' := by
  unfold wantL
  cases hc : eatL c (skipL (tail s i)) with
  | some r =>
    have HC := Lib.hid hc
    clear hc
    go_enter Try.func48, Try.ntmps48
    go_wp2_with fail
    refine (found_yes R s i c r w h hs hi HC.out).mono ?_
    rintro e' w1 ⟨rfl, hs1, k, hk1, hk2, hk, hr1⟩
    go_wp2_with fail
    go_end0
    exact ⟨hs1, rfl, k, hk2, hk, hr1⟩
  | none =>
    have HC := Lib.hid hc
    clear hc
    go_enter Try.func48, Try.ntmps48
    go_wp2_with fail
    refine (found_no R s i c w h hs hi h0 HC.out).mono ?_
    rintro e' w1 ⟨rfl, hs1, k, hk1, hk2, hk, hr1⟩
    go_wp2_with fail
    exact ⟨rfl, hs1, rfl⟩
set_option maxHeartbeats 1000000 in
theorem enter_any (R : Nat) (s : ByteArray) (i : Nat) (a : Nat) (w : World) (h : Rc R s i w) (hs : s.size ≤ 65536) (hi : i ≤ s.size) (ha : a < 24) :
    Calls Try.prog 46 #[.pointer (some ⟨R, 0, none⟩), .int .i64 (a : Int)] w fun e' w' => e' = .returned (.tuple #[]) ∧ Step R w w' ∧ Rc R s (i + 1) w' := by
  have hsz : (s.size : Int) ≤ 65536 := by omega
  have h1 := h.c1
  have hz := h.free 1
  have g : ((a : Int) == 24) = false := by rw [beq_eq_false_iff_ne]; omega
  go_enter Try.func46, Try.ntmps46
  go_wp2_with fail
  go_end0
  exact ⟨rfl, (Step.refl R w).set 1 _, by simpa using h.set1 (i + 1) ((i : Int) + 1) (by omega)⟩
set_option maxHeartbeats 1000000 in
theorem enter_deep (R : Nat) (w : World) :
    Calls Try.prog 46 #[.pointer (some ⟨R, 0, none⟩), .int .i64 24] w fun e' w' => e' = Errs 4 ∧ Step R w w' := by
  go_enter Try.func46, Try.ntmps46
  go_wp2_with fail
  exact ⟨rfl, rfl, Step.refl R w⟩

/-! ### Hexadecimal digits -/
theorem hx_cases (c : UInt8) : (48 ≤ c.toNat ∧ c.toNat ≤ 57 ∧ Q4.hx c = some (c.toNat - 48)) ∨ (97 ≤ c.toNat ∧ c.toNat ≤ 102 ∧ Q4.hx c = some (c.toNat - 87)) ∨ (65 ≤ c.toNat ∧ c.toNat ≤ 70 ∧ Q4.hx c = some (c.toNat - 55)) ∨
    (¬ (48 ≤ c.toNat ∧ c.toNat ≤ 57) ∧ ¬ (97 ≤ c.toNat ∧ c.toNat ≤ 102) ∧ ¬ (65 ≤ c.toNat ∧ c.toNat ≤ 70) ∧ Q4.hx c = none) := by
  unfold Q4.hx Q4.hxN
  split
  · exact Or.inl ⟨by omega, by omega, rfl⟩
  · split
    · exact Or.inr (Or.inl ⟨by omega, by omega, rfl⟩)
    · split
      · exact Or.inr (Or.inr (Or.inl ⟨by omega, by omega, rfl⟩))
      · exact Or.inr (Or.inr (Or.inr ⟨by omega, by omega, by omega, rfl⟩))
def HexV (o : Option Nat) (e' : Ending) : Prop := match o with
  | some v => e' = .returned (.int .i64 (v : Int))
  | none => e' = Errs 3
theorem hexDigit_any (c : UInt8) (w : World) : Calls Try.prog 67 #[.int .u8 (c.toNat : Int)] w fun e' w' => HexV (Q4.hx c) e' ∧ w = w' := by
  have hc := c.toNat_lt
  rcases hx_cases c with ⟨h1, h2, h3⟩ | ⟨h1, h2, h3⟩ | ⟨h1, h2, h3⟩ | ⟨h1, h2, h4, h3⟩
  · rw [h3]
    have g0 : (48 : Int) ≤ c.toNat := by omega
    have g1 : (c.toNat : Int) ≤ 57 := by omega
    clear h1 h2 h3
    go_enter Try.func67, Try.ntmps67
    go_wp2
    go_ret
    exact ⟨ret_int (by omega), rfl⟩
  · rw [h3]
    have g0 : (97 : Int) ≤ c.toNat := by omega
    have g1 : (c.toNat : Int) ≤ 102 := by omega
    clear h1 h2 h3
    go_enter Try.func67, Try.ntmps67
    go_wp2
    go_ret
    exact ⟨ret_int (by omega), rfl⟩
  · rw [h3]
    have g0 : (65 : Int) ≤ c.toNat := by omega
    have g1 : (c.toNat : Int) ≤ 70 := by omega
    clear h1 h2 h3
    go_enter Try.func67, Try.ntmps67
    go_wp2
    go_ret
    exact ⟨ret_int (by omega), rfl⟩
  · rw [h3]
    rcases (show c.toNat < 48 ∨ (57 < c.toNat ∧ c.toNat < 65) ∨ (70 < c.toNat ∧ c.toNat < 97) ∨ 102 < c.toNat by omega) with h | h | h | h
    · have g0 : (c.toNat : Int) < 48 := by omega
      clear h1 h2 h3 h4 h
      go_enter Try.func67, Try.ntmps67
      go_wp2
      exact ⟨rfl, rfl, rfl⟩
    · have g0 : 57 < (c.toNat : Int) := by omega
      have g1 : (c.toNat : Int) < 65 := by omega
      clear h1 h2 h3 h4 h
      go_enter Try.func67, Try.ntmps67
      go_wp2
      exact ⟨rfl, rfl, rfl⟩
    · have g0 : 70 < (c.toNat : Int) := by omega
      have g1 : (c.toNat : Int) < 97 := by omega
      clear h1 h2 h3 h4 h
      go_enter Try.func67, Try.ntmps67
      go_wp2
      exact ⟨rfl, rfl, rfl⟩
    · have g0 : 102 < (c.toNat : Int) := by omega
      clear h1 h2 h3 h4 h
      go_enter Try.func67, Try.ntmps67
      go_wp2
      exact ⟨rfl, rfl, rfl⟩

theorem isPre_word : ∀ (W l : List UInt8), wordL W l = if W <+: l then some (l.drop W.length) else none
  | [], l => by rw [wordL, if_pos (List.nil_prefix)]; rfl
  | a :: W, [] => by rw [wordL, eatL, if_neg (by simp)]
  | a :: W, c :: l => by
    rw [wordL, eatL]
    by_cases h : c = a
    · subst h
      rw [if_pos rfl]
      simp only
      rw [isPre_word W l]
      simp [List.cons_prefix_cons]
    · rw [if_neg h, if_neg (by rw [List.cons_prefix_cons]; exact fun e => h e.1.symm)]
/-- strings.HasPrefix. -/
theorem hasPrefix_any (a p : ByteArray) (w : World) :
    Calls Try.prog 41 #[.string a, .string p] w fun e' w' => e' = .returned (.bool (decide (p.data.toList <+: a.data.toList))) ∧ w = w' := by
  rcases Nat.lt_or_ge a.size p.size with hl | hl
  · have e : decide (p.data.toList <+: a.data.toList) = false := by
      rw [decide_eq_false_iff_not]
      intro h
      have := h.length_le
      rw [← Lib.size_eq, ← Lib.size_eq] at this
      omega
    rw [e]
    clear e
    go_enter Try.func41, Try.ntmps41
    go_wp2
    go_ret
    exact ⟨rfl, rfl⟩
  · have e : ((a.extract 0 p.size).toList == p.toList) = decide (p.data.toList <+: a.data.toList) := by
      rw [Lib.toList_data, Lib.toList_data]
      have h1 : (a.extract 0 p.size).data.toList = a.data.toList.take p.size := by simp [ByteArray.data_extract]
      by_cases h : p.data.toList <+: a.data.toList
      · rw [decide_eq_true h, beq_iff_eq, h1, Lib.size_eq]
        exact (List.prefix_iff_eq_take.1 h).symm
      · rw [decide_eq_false h, beq_eq_false_iff_ne]
        intro e
        apply h
        rw [← e, h1]
        exact List.take_prefix _ _
    have HE := Lib.hid e
    clear e
    have g : (p.size : Int) ≤ a.size := by omega
    go_enter Try.func41, Try.ntmps41
    go_wp2
    go_ret
    exact ⟨ret_bool HE.out, rfl⟩
def wantWordL (W l : List UInt8) : Out Unit := match wordL W l with
  | some r => .ok ((), r)
  | none => .error 3
theorem tail_drop (s : ByteArray) (i n : Nat) : (tail s i).drop n = tail s (i + n) := by
  unfold tail
  rw [List.drop_drop]
theorem tail_extract (s : ByteArray) (i : Nat) : (s.extract i s.size).data.toList = tail s i := by
  unfold tail
  simp only [ByteArray.data_extract]
  rw [Array.toList_extract, Lib.size_eq, List.extract_eq_take_drop, List.take_of_length_le (by rw [List.length_drop]; exact Nat.le_refl _)]
set_option maxHeartbeats 2000000 in
theorem wantWord_any (R : Nat) (s W : ByteArray) (i : Nat) (w : World) (h : Rc R s i w) (hs : s.size ≤ 65536) (hi : i ≤ s.size) (hW : W.size ≤ 10) :
    Calls Try.prog 30 #[.pointer (some ⟨R, 0, none⟩), .string W] w fun e' w' => LeftC R s w (fun _ => .tuple #[]) (wantWordL W.data.toList (tail s i)) e' w' := by
  have hsz : (s.size : Int) ≤ 65536 := by omega
  have hwz : (W.size : Int) ≤ 10 := by omega
  have h0 := h.c0
  have h1 := h.c1
  have hz := h.free 1
  have HP := fun wx => hasPrefix_any (s.extract i s.size) W wx
  rw [tail_extract] at HP
  by_cases hp : W.data.toList <+: tail s i
  · have HO := Lib.hid (show wantWordL W.data.toList (tail s i) = .ok ((), tail s (i + W.size)) by unfold wantWordL; rw [isPre_word, if_pos hp, ← Lib.size_eq, tail_drop])
    have hl := hp.length_le
    rw [← Lib.size_eq, tail_length] at hl
    rw [decide_eq_true hp] at HP
    clear hp
    go_enter Try.func30, Try.ntmps30
    go_wp2_with fail
    go_quiet ((refine (HP _).mono ?_; rintro e w9 ⟨rfl, rfl⟩; exact ⟨rfl, _, rfl⟩))
    go_wp2_with fail
    go_end0
    rw [HO.out]
    exact ⟨((Step.refl R w).drewN _).set 1 _, rfl, i + W.size, by omega, rfl, by simpa using (h.drewN _).set1 (i + W.size) ((i : Int) + W.size) (by omega)⟩
  · have HO := Lib.hid (show wantWordL W.data.toList (tail s i) = .error 3 by unfold wantWordL; rw [isPre_word, if_neg hp])
    rw [decide_eq_false hp] at HP
    clear hp
    go_enter Try.func30, Try.ntmps30
    go_wp2_with fail
    go_quiet ((refine (HP _).mono ?_; rintro e w9 ⟨rfl, rfl⟩; exact ⟨rfl, _, rfl⟩))
    go_wp2_with fail
    rw [HO.out]
    exact ⟨rfl, (Step.refl R w).drewN _, rfl⟩

/-! ### Four digits -/
theorem or4 (x y : Int) (h0 : 0 ≤ x) (h1 : x < 4611686018427387904) (h2 : x % 16 = 0) (h3 : 0 ≤ y) (h4 : y < 16) : bits .or .i64 x y = x + y :=
  bits_join .i64 62 (by decide) U8.wraps_i64 4 x y h0 h2 (by omega) h3 h4 (by omega)
theorem hx_le15 {c : UInt8} {v : Nat} (h : Q4.hx c = some v) : v ≤ 15 := by
  rcases hx_cases c with ⟨h1, h2, h3⟩ | ⟨h1, h2, h3⟩ | ⟨h1, h2, h3⟩ | ⟨h1, h2, h4, h3⟩
  · rw [h3] at h; have := Option.some.inj h; omega
  · rw [h3] at h; have := Option.some.inj h; omega
  · rw [h3] at h; have := Option.some.inj h; omega
  · rw [h3] at h; cases h
theorem hexF_pk (f v : Nat) (l : List UInt8) : hexF (f + 1) v l = match Q4.hx (pk l) with
    | none => .error 3
    | some x => match l with
      | [] => .error 3
      | _ :: r => hexF f (16 * v + x) r := by
  cases l with
  | nil => rw [hexF]; rfl
  | cons c r => rw [hexF]; rfl
theorem pk_hx {s : ByteArray} {q x : Nat} (h : Q4.hx (pk (tail s q)) = some x) : q < s.size := by
  rcases Nat.lt_or_ge q s.size with h' | h'
  · exact h'
  · rw [pk_end h'] at h
    cases h
set_option maxHeartbeats 2000000 in
set_option maxRecDepth 100000 in
theorem unit_any (R : Nat) (s : ByteArray) (i : Nat) (w : World) (h : Rc R s i w) (hs : s.size ≤ 65536) (hi : i ≤ s.size) :
    Calls Try.prog 64 #[.pointer (some ⟨R, 0, none⟩)] w fun e' w' => LeftC R s w (fun v : Nat => .int .i64 (v : Int)) (hexL (tail s i)) e' w' := by
  have hsz : (s.size : Int) ≤ 65536 := by omega
  obtain ⟨O, hO⟩ : ∃ O, hexL (tail s i) = O := ⟨_, rfl⟩
  rw [hO]
  have HO := Lib.hid (show hexF 4 0 (tail s i) = O from hO)
  clear hO
  go_enter Try.func64, Try.ntmps64
  go_wp2_with fail
  go_loopw [3, 4] (fun a b wr => ∃ (v k f q : Nat), a = .int .i64 v ∧ b = .int .i64 k ∧ k + f = 4 ∧ (v : Int) < 16 ^ k ∧ q ≤ s.size ∧ Hid (hexF f v (tail s q) = O) ∧ Rc R s q wr ∧ Step R w wr) (fun _ b _ => 4 - (intOf b).toNat)
  case atStart => exact ⟨0, 0, 4, i, rfl, rfl, rfl, by decide, hi, HO, h, Step.refl R w⟩
  case round =>
    obtain ⟨v, k, f, q, rfl, rfl, hkf, hv, hq, HQ, hr, hst⟩ := hrel
    have hvb : (v : Int) ≤ 65535 := by
      have : k ≤ 4 := by omega
      rcases (show k = 0 ∨ k = 1 ∨ k = 2 ∨ k = 3 ∨ k = 4 by omega) with rfl | rfl | rfl | rfl | rfl <;> omega
    by_cases hk4 : (k : Int) < 4
    · obtain ⟨f', rfl⟩ : ∃ f', f = f' + 1 := ⟨f - 1, by omega⟩
      have hvc : (v : Int) ≤ 4095 := by
        rcases (show k = 0 ∨ k = 1 ∨ k = 2 ∨ k = 3 by omega) with rfl | rfl | rfl | rfl <;> omega
      have HQ2 := HQ.out
      rw [hexF_pk] at HQ2
      have hpeek := peek_any R s q wr hr hs
      cases hx : Q4.hx (pk (tail s q)) with
      | none =>
        rw [hx] at HQ2
        have HE := Lib.hid (show O = .error 3 from HQ2.symm)
        have hhex := fun wx => hexDigit_any (pk (tail s q)) wx
        rw [hx] at hhex
        clear hx HQ2 HQ
        go_wp2_with fail
        refine hpeek.mono ?_
        rintro e' w2 ⟨rfl, hr2, hs2⟩
        go_wp2_with fail
        refine (hhex _).mono ?_
        rintro e' w3 ⟨hh, rfl⟩
        obtain rfl : e' = Errs 3 := hh
        go_wp2_with fail
        rw [HE.out]
        exact ⟨rfl, hst.trans hs2, rfl⟩
      | some x =>
        have hql := pk_hx hx
        rw [hx, tail_cons hql] at HQ2
        have HE : Hid (hexF f' (16 * v + x) (tail s (q + 1)) = O) := HQ2
        have hx15 := hx_le15 hx
        have hor := or4 ((v : Int) * 16) x (by omega) (by omega) (by omega) (by omega) (by omega)
        have hhex := fun wx => hexDigit_any (pk (tail s q)) wx
        rw [hx] at hhex
        clear hx HQ2 HQ
        go_wp2_with fail
        refine hpeek.mono ?_
        rintro e' w2 ⟨rfl, hr2, hs2⟩
        go_wp2_with fail
        refine (hhex _).mono ?_
        rintro e' w3 ⟨hh, rfl⟩
        obtain rfl : e' = .returned (.int .i64 (x : Int)) := hh
        have h1 := hr2.c1
        have hz := hr2.free 1
        have hst2 := hst.trans hs2
        go_wp2_with fail
        go_roundw
        case rel => exact ⟨16 * v + x, k + 1, f', q + 1, by go_num, by go_num, by omega, by (rcases (show k = 0 ∨ k = 1 ∨ k = 2 ∨ k = 3 by omega) with rfl | rfl | rfl | rfl <;> omega), by omega, HE, by simpa using hr2.set1 (q + 1) ((q : Int) + 1) (by omega), hst2.set 1 _⟩
        case measure => simp only [intOf]; omega
    · obtain rfl : f = 0 := by omega
      have HE := Lib.hid (show O = .ok (v, tail s q) from HQ.out.symm)
      go_wp2_with fail
      go_ret
      rw [HE.out]
      exact ⟨hst, rfl, q, hq, rfl, hr⟩
end Go.Proofs.Ytpnffmimpkimeaa.J7
