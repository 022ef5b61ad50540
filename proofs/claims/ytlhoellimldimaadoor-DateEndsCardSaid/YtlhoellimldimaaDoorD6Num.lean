/-
  The document's answer for package date, as the statements have it: a number of digits alone, a month by its letters, the first second of a date. Conditions: texts of at most four digits; years, months and days of so many.
-/
import Derived.Test.YtlhoellimldimaaDoorD6Tell2
import Derived.Test.YtlhoellimldimaaDoorRfFold
namespace Go.Proofs.YtlhoellimldimaaDoor.D6
open Go Go.RowKit Go.Joins Kit

def optI : Option Nat → Int
  | some k => k
  | none => -1
theorem num_le {l : List UInt8} {k n : Nat} (h : numD l = some k) (hl : l.length ≤ n) : k < 10 ^ n := by
  have := num_lt h
  have := Nat.pow_le_pow_right (n := 10) (by decide) hl
  omega
theorem optI_le {l : List UInt8} (n : Nat) (hl : l.length ≤ n) : -1 ≤ optI (numD l) ∧ optI (numD l) < ((10 ^ n : Nat) : Int) := by
  cases h : numD l with
  | none => exact ⟨by decide, by show (-1 : Int) < _; have : 0 < 10 ^ n := Nat.pow_pos (by decide); omega⟩
  | some k =>
    have := num_le h hl
    exact ⟨by show (-1 : Int) ≤ (k : Int); omega, by show (k : Int) < _; omega⟩
theorem num_step (s : ByteArray) (k : Nat) (h : k < s.size) {v : Nat} (hv : Tx.numFrom (s.data.toList.take k) 0 = some v) :
    Tx.numFrom (s.data.toList.take (k + 1)) 0 = if Tx.isDig s[k] then some (v * 10 + (s[k].toNat - 48)) else none := by
  have hl : k < s.data.toList.length := by rw [← Lib.size_eq]; exact h
  rw [List.take_succ_eq_append_getElem hl, Tx.numFrom_append, hv, byte_get s k h]
  simp only [Option.bind_some, Tx.numFrom]
theorem num_stop (s : ByteArray) (k : Nat) (h : k < s.size) {v : Nat} (hv : Tx.numFrom (s.data.toList.take k) 0 = some v) (hd : Tx.isDig s[k] = false) : numD s.data.toList = none := by
  have hl : k < s.data.toList.length := by rw [← Lib.size_eq]; exact h
  unfold numD
  rw [← List.take_append_drop k s.data.toList, Tx.numFrom_append, hv, List.drop_eq_getElem_cons hl, byte_get s k h]
  simp only [Option.bind_some, Tx.numFrom, hd]
  rfl

set_option maxHeartbeats 400000 in
set_option maxRecDepth 100000 in
theorem rnum_any (s : ByteArray) (hs : s.size ≤ 4) (w : World) :
    Calls Tryd.prog 47 #[.string s] w fun e w' => e = .returned (.int .i64 (optI (numD s.data.toList))) ∧ w = w' := by
  go_enter Tryd.func47, Tryd.ntmps47
  go_wp2_with fail
  go_loop [3, 4] (fun n i => ∃ (k v : Nat), k ≤ s.size ∧ i = .int .i64 k ∧ n = .int .i64 v ∧ Hid (Tx.numFrom (s.data.toList.take k) 0 = some v)) (fun _ i => s.size - (intOf i).toNat)
  case atStart => exact ⟨0, 0, Nat.zero_le _, rfl, rfl, Lib.hid rfl⟩
  case round =>
    obtain ⟨k, v, hk, rfl, rfl, HN⟩ := hrel
    have hv : v < 10000 := by
      have h1 := numFrom_lt _ _ _ HN.out
      have h2 : (s.data.toList.take k).length ≤ 4 := by rw [List.length_take]; omega
      have h3 := Nat.pow_le_pow_right (n := 10) (by decide) h2
      omega
    have hvb : (v : Int) ≤ 9999 := by omega
    by_cases hlt : k < s.size
    · have g1 : (k : Int) < s.size := by omega
      have c0 := s[k].toNat_lt
      rcases (show (s[k].toNat : Int) < 48 ∨ (57 < (s[k].toNat : Int)) ∨ (48 ≤ (s[k].toNat : Int) ∧ (s[k].toNat : Int) ≤ 57) by omega) with hc | hc | hc
      · have HF := Lib.hid (show optI (numD s.data.toList) = -1 by rw [num_stop s k hlt HN.out (by unfold Tx.isDig; simp; omega)]; rfl)
        go_wp2
        go_ret
        exact ⟨by rw [HF.out]; rfl, rfl⟩
      · have hc1 : ¬ (s[k].toNat : Int) < 48 := by omega
        have HF := Lib.hid (show optI (numD s.data.toList) = -1 by rw [num_stop s k hlt HN.out (by unfold Tx.isDig; simp; omega)]; rfl)
        go_wp2
        go_ret
        exact ⟨by rw [HF.out]; rfl, rfl⟩
      · have hc1 : ¬ (s[k].toNat : Int) < 48 := by omega
        have hc2 : ¬ 57 < (s[k].toNat : Int) := by omega
        have eu : IntKind.u8.wrap ((s[k].toNat : Int) - 48) = (s[k].toNat : Int) - 48 := IntWalk.u8_in _ (by omega)
        have HS := Lib.hid (show Tx.numFrom (s.data.toList.take (k + 1)) 0 = some (v * 10 + (s[k].toNat - 48)) by rw [num_step s k hlt HN.out, if_pos ((Tx.isDig_iff _).2 (by omega))])
        go_wp2
        go_round
        case rel => exact ⟨k + 1, v * 10 + (s[k].toNat - 48), by omega, by go_num, by congr 1; omega, HS⟩
        case measure => simp [intOf]; omega
    · have HF := Lib.hid (show optI (numD s.data.toList) = v by
        have := HN.out
        rw [List.take_of_length_le (by rw [← Lib.size_eq]; omega)] at this
        unfold numD
        rw [this]
        rfl)
      have g1 : ¬ (k : Int) < s.size := by omega
      go_wp2
      go_ret
      exact ⟨by rw [HF.out]; rfl, rfl⟩

set_option maxHeartbeats 400000 in
set_option maxRecDepth 100000 in
theorem rwhich_any (s : ByteArray) (hs : s.size ≤ 1000) (w : World) :
    Calls Tryd.prog 48 #[.string s] w fun e w' => e = .returned (.int .i64 (whichN s.data.toList : Nat)) ∧ Below w.heap.size w w' := by
  obtain ⟨W, hW⟩ : ∃ W, whichN s.data.toList = W := ⟨_, rfl⟩
  rw [hW]
  have HW := Lib.hid (show whichF 12 1 s.data.toList = W from hW)
  clear hW
  go_enter Tryd.func48, Tryd.ntmps48
  go_wp2_with fail
  go_loopw [3] (fun i wr => ∃ (m f : Nat), 1 ≤ m ∧ m + f = 13 ∧ i = .int .i64 m ∧ Hid (whichF f m s.data.toList = W) ∧ Below w.heap.size w wr) (fun i _ => 13 - (intOf i).toNat)
  case atStart => exact ⟨1, 12, Nat.le_refl _, rfl, rfl, HW, Below.refl _ _⟩
  case round =>
    obtain ⟨m, f, hm, hf, rfl, HF, hb⟩ := hrel
    by_cases hle : m ≤ 12
    · have g1 : (m : Int) ≤ 12 := by omega
      obtain ⟨f', rfl⟩ : ∃ f', f = f' + 1 := ⟨f - 1, by omega⟩
      go_wp2_with fail
      refine (Rf.fold_call s wr (by omega)).mono ?_
      rintro e w1 ⟨rfl, hb1⟩
      go_wp2_with fail
      refine (rmon_any hm hle w1).mono ?_
      rintro e w2 ⟨T, rfl, sT, HT, rfl⟩
      go_wp2_with fail
      refine (Rf.fold_call T w1 (by omega)).mono ?_
      rintro e w3 ⟨rfl, hb3⟩
      have hbb := hb.trans ((chain hb1 hb3).mono hb.size)
      clear hb1 hb3
      obtain ⟨F1, hF1⟩ : ∃ F, Rf.fold s = F := ⟨_, rfl⟩
      obtain ⟨F2, hF2⟩ : ∃ F, Rf.fold T = F := ⟨_, rfl⟩
      have e1 : F1.data.toList = Tx.foldL s.data.toList := by rw [← hF1]; rfl
      have e2 : F2.data.toList = Tx.foldL (mon3 m) := by rw [← hF2, ← HT.out]; rfl
      rw [hF1, hF2]
      by_cases he : F1 = F2
      · have HM := Lib.hid (show W = m by
          have := HF.out
          unfold whichF at this
          rw [if_pos (by rw [← e1, ← e2, he])] at this
          exact this.symm)
        clear e1 e2 hF1 hF2
        subst he
        go_wp2
        go_ret
        exact ⟨by rw [HM.out]; rfl, hbb⟩
      · have hne : (F1.toList == F2.toList) = false := by
          have hd' : F1.data.toList ≠ F2.data.toList := fun e => he (Kit.bytes_ext e)
          rw [Lib.toList_data, Lib.toList_data]
          simpa using hd'
        have HM := Lib.hid (show whichF f' (m + 1) s.data.toList = W by
          have := HF.out
          unfold whichF at this
          rw [if_neg (by rw [← e1, ← e2]; exact fun e => he (Kit.bytes_ext e))] at this
          exact this)
        clear e1 e2 hF1 hF2 he
        go_wp2
        go_roundw
        case rel => exact ⟨m + 1, f', by omega, by omega, by go_num, HM, hbb⟩
        case measure => simp [intOf]; omega
    · have g1 : ¬ (m : Int) ≤ 12 := by omega
      have hf0 : f = 0 := by omega
      subst hf0
      have HM := Lib.hid (show W = 0 from HF.out.symm)
      go_wp2
      go_ret
      exact ⟨by rw [HM.out]; rfl, hb⟩

/-- A date of whichever numbers: what seconds tells, a month above the twelfth too. -/
def OkS (y m d : Option Nat) : Prop := match y, m, d with
  | some y, some m, some d => 1 ≤ m ∧ 1 ≤ d ∧ d ≤ dim y m
  | _, _, _ => False
def secV (y m d : Option Nat) : Value := match y, m, d with
  | some y, some m, some d => if 1 ≤ m ∧ 1 ≤ d ∧ d ≤ dim y m then .tuple #[.int .i64 (secs y m d), .bool true] else .tuple #[.int .i64 0, .bool false]
  | _, _, _ => .tuple #[.int .i64 0, .bool false]
theorem mon_le (y : Nat) : ∀ m, monN y m ≤ 31 * m
  | 0 => Nat.le_refl _
  | 1 => Nat.zero_le _
  | m + 2 => by
    have := mon_le y (m + 1)
    have := dim_le y (m + 1)
    rw [monN]
    omega

set_option maxHeartbeats 1000000 in
set_option maxRecDepth 100000 in
theorem rsec_some (y m d : Nat) (hy : (y : Int) ≤ 9999) (hm : (m : Int) ≤ 99) (hd : (d : Int) ≤ 99) (w : World) :
    Calls Tryd.prog 46 #[.int .i64 y, .int .i64 m, .int .i64 d] w fun e w' => e = .returned (secV (some y) (some m) (some d)) ∧ w = w' := by
  obtain ⟨V, hV⟩ : ∃ V, secV (some y) (some m) (some d) = V := ⟨_, rfl⟩
  rw [hV]
  have HV := Lib.hid hV
  clear hV
  obtain ⟨L, hL⟩ : ∃ L : Nat, dim y m = L := ⟨_, rfl⟩
  have lb2 : (L : Int) ≤ 31 := by have := dim_le y m; omega
  have HL := Lib.hid hL
  clear hL
  go_enter Tryd.func46, Tryd.ntmps46
  by_cases c1 : (m : Int) < 1
  · have HF := Lib.hid (show V = .tuple #[.int .i64 0, .bool false] by rw [← HV.out, secV]; rw [if_neg (by omega)])
    go_wp2
    go_ret2
    exact ⟨by rw [HF.out]; rfl, rfl⟩
  · by_cases c2 : (d : Int) < 1
    · have HF := Lib.hid (show V = .tuple #[.int .i64 0, .bool false] by rw [← HV.out, secV]; rw [if_neg (by omega)])
      go_wp2
      go_ret2
      exact ⟨by rw [HF.out]; rfl, rfl⟩
    · go_wp2_with fail
      refine (rdays_at _ _ y m rfl rfl (by omega) (by omega) w).mono ?_
      rintro e w1 ⟨rfl, rfl⟩
      rw [HL.out]
      by_cases c3 : (L : Int) < d
      · have HF := Lib.hid (show V = .tuple #[.int .i64 0, .bool false] by rw [← HV.out, secV]; rw [HL.out, if_neg (by omega)])
        go_wp2
        go_ret2
        exact ⟨by rw [HF.out]; rfl, rfl⟩
      · have HF := Lib.hid (show V = .tuple #[.int .i64 (secs y m d), .bool true] by rw [← HV.out, secV]; rw [HL.out, if_pos (by omega)])
        obtain ⟨A, hA⟩ : ∃ A : Nat, aheadN y = A := ⟨_, rfl⟩
        have ab : (A : Int) ≤ 3660000 := by have := ahead_le y; omega
        have HA := Lib.hid hA
        clear hA
        go_wp2_with fail
        refine (rahead_at _ y rfl (by omega) w).mono ?_
        rintro e w1 ⟨rfl, rfl⟩
        rw [HA.out]
        go_wp2_with fail
        refine (rahead_at _ 1970 rfl (by omega) w).mono ?_
        rintro e w1 ⟨rfl, rfl⟩
        rw [epoch]
        go_wp2_with fail
        go_loop [8, 9] (fun v i => ∃ (k M : Nat), 1 ≤ k ∧ k ≤ m ∧ (M : Int) ≤ 3100 ∧ i = .int .i64 k ∧ v = .int .i64 ((A : Int) - 719528 + d - 1 + M) ∧ Hid (monN y k = M)) (fun _ i => m + 1 - (intOf i).toNat)
        case atStart => exact ⟨1, 0, Nat.le_refl _, by omega, by omega, rfl, by simp, Lib.hid rfl⟩
        case round =>
          obtain ⟨k, M, k1, k2, mb, rfl, rfl, HM⟩ := hrel
          have hmb0 : 0 ≤ (M : Int) := by omega
          by_cases hlt : k < m
          · have g1 : (k : Int) < m := by omega
            obtain ⟨P, hP⟩ : ∃ P : Nat, dim y k = P := ⟨_, rfl⟩
            have pb : (P : Int) ≤ 31 := by have := dim_le y k; omega
            have HN := Lib.hid (show monN y (k + 1) = M + P by rw [mon_succ y k1, HM.out, hP])
            have hle := mon_le y (k + 1)
            rw [HN.out] at hle
            have HP := Lib.hid hP
            clear hP
            go_wp2_with fail
            refine (rdays_at _ _ y k rfl rfl (by omega) (by omega) w).mono ?_
            rintro e w1 ⟨rfl, rfl⟩
            rw [HP.out]
            go_wp2
            go_round
            case rel => exact ⟨k + 1, M + P, by omega, by omega, by omega, by go_num, by congr 1; omega, HN⟩
            case measure => simp [intOf]; omega
          · have g1 : ¬ (k : Int) < m := by omega
            have hkm : k = m := by omega
            subst hkm
            have HS := Lib.hid (show secs y k d = 86400 * ((A : Int) - 719528 + d - 1 + M) by
              have h1 := HA.out
              have h2 := HM.out
              unfold secs dayN
              omega)
            go_wp2
            go_ret2
            exact ⟨by rw [HF.out, HS.out]; rfl, rfl⟩

set_option maxHeartbeats 400000 in
set_option maxRecDepth 100000 in
theorem rsec_none (y m d : Int) (h : y < 0 ∨ m < 1 ∨ d < 1) (w : World) :
    Calls Tryd.prog 46 #[.int .i64 y, .int .i64 m, .int .i64 d] w fun e w' => e = .returned (.tuple #[.int .i64 0, .bool false]) ∧ w = w' := by
  go_enter Tryd.func46, Tryd.ntmps46
  by_cases c0 : y < 0
  · go_wp2
    go_ret2
    exact ⟨rfl, rfl⟩
  · by_cases c1 : m < 1
    · go_wp2
      go_ret2
      exact ⟨rfl, rfl⟩
    · have c2 : d < 1 := by omega
      go_wp2
      go_ret2
      exact ⟨rfl, rfl⟩
theorem rsec_any (y m d : Option Nat) (hy : optI y ≤ 9999) (hm : optI m ≤ 99) (hd : optI d ≤ 99) (w : World) :
    Calls Tryd.prog 46 #[.int .i64 (optI y), .int .i64 (optI m), .int .i64 (optI d)] w fun e w' => e = .returned (secV y m d) ∧ w = w' := by
  cases y with
  | none => exact rsec_none _ _ _ (Or.inl (by decide)) w
  | some y =>
    cases m with
    | none => exact rsec_none _ _ _ (Or.inr (Or.inl (by decide))) w
    | some m =>
      cases d with
      | none => exact rsec_none _ _ _ (Or.inr (Or.inr (by decide))) w
      | some d => exact rsec_some y m d hy hm hd w
theorem rsec_at (y m d : Option Nat) (a b c : Int) (ha : a = optI y) (hb : b = optI m) (hc : c = optI d) (hy : optI y ≤ 9999) (hm : optI m ≤ 99) (hd : optI d ≤ 99) (w : World) :
    Calls Tryd.prog 46 #[.int .i64 a, .int .i64 b, .int .i64 c] w fun e w' => e = .returned (secV y m d) ∧ w = w' := by
  subst ha hb hc
  exact rsec_any y m d hy hm hd w
end Go.Proofs.YtlhoellimldimaaDoor.D6
