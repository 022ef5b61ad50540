/-
  The document's Trim tells a text without blanks and tabs at its ends. Condition: the text has at most 2^40 bytes.
-/
import Derived.Test.YtnnbbjdidbggmaaGreatDoorF0Plain
import Derived.Test.YtnnbbjdidbggmaaGreatDoorF0Mem
import Derived.IntWalk
namespace Go.Proofs.YtnnbbjdidbggmaaGreatDoor.F0
open Go Go.RowKit Go.Joins Kit

/-! ### Plain -/
def blk (c : UInt8) : Bool := [32, 9].contains c
def ltr (l : List UInt8) : List UInt8 := l.dropWhile blk
def rtr (l : List UInt8) : List UInt8 := (l.reverse.dropWhile blk).reverse
theorem trimL_def (l : List UInt8) : trimL l = ltr (rtr l) := rfl
theorem blk_eq (c : UInt8) : blk c = (c == 32 || c == 9) := by
  unfold blk
  simp only [List.contains, List.elem]
  cases c == 32 <;> cases c == 9 <;> rfl
theorem ltr_nil : ltr [] = [] := rfl
theorem ltr_yes {c : UInt8} {r : List UInt8} (h : blk c = true) : ltr (c :: r) = ltr r := by
  unfold ltr
  exact List.dropWhile_cons_of_pos h
theorem ltr_no {c : UInt8} {r : List UInt8} (h : blk c = false) : ltr (c :: r) = c :: r := by
  unfold ltr
  exact List.dropWhile_cons_of_neg (by rw [h]; decide)
theorem rtr_yes {c : UInt8} {r : List UInt8} (h : blk c = true) : rtr (r ++ [c]) = rtr r := by
  unfold rtr
  rw [List.reverse_append, List.reverse_singleton, List.singleton_append, List.dropWhile_cons_of_pos h]
theorem rtr_no {c : UInt8} {r : List UInt8} (h : blk c = false) : rtr (r ++ [c]) = r ++ [c] := by
  unfold rtr
  rw [List.reverse_append, List.reverse_singleton, List.singleton_append, List.dropWhile_cons_of_neg (by rw [h]; decide)]
  simp
theorem rtr_nil : rtr [] = [] := rfl
/-- A text, from its end. -/
theorem snoc_cases (l : List UInt8) : l = [] ∨ ∃ r c, l = r ++ [c] := by
  rcases List.eq_nil_or_concat l with h | ⟨r, c, h⟩
  · exact Or.inl h
  · exact Or.inr ⟨r, c, by simpa using h⟩
theorem ltr_snoc (c : UInt8) (hc : blk c = false) : ∀ r : List UInt8, ltr (r ++ [c]) = ltr r ++ [c]
  | [] => by rw [List.nil_append, ltr_no hc]; rfl
  | b :: r => by
    cases hb : blk b
    · rw [List.cons_append, ltr_no hb, ltr_no hb]; rfl
    · rw [List.cons_append, ltr_yes hb, ltr_yes hb, ltr_snoc c hc r]
theorem ltr_snoc_blank (c : UInt8) (hc : blk c = true) : ∀ r : List UInt8, rtr (ltr (r ++ [c])) = rtr (ltr r)
  | [] => by rw [List.nil_append, ltr_yes hc]
  | b :: r => by
    cases hb : blk b
    · rw [List.cons_append, ltr_no hb, ltr_no hb, ← List.cons_append, rtr_yes hc]
    · rw [List.cons_append, ltr_yes hb, ltr_yes hb, ltr_snoc_blank c hc r]
theorem trim_swap : ∀ (n : Nat) (l : List UInt8) (_ : l.length = n), rtr (ltr l) = ltr (rtr l)
  | 0, l, h => by
    obtain rfl := List.length_eq_zero_iff.1 h
    rfl
  | n + 1, l, h => by
    rcases snoc_cases l with rfl | ⟨r, c, rfl⟩
    · simp at h
    · cases hc : blk c
      · rw [rtr_no hc, ltr_snoc c hc r, rtr_no hc]
      · rw [rtr_yes hc, ltr_snoc_blank c hc r, trim_swap n r (by simpa using h)]
theorem trim_eq (l : List UInt8) : rtr (ltr l) = trimL l := trim_swap _ l rfl

/-! ### The walk -/
theorem drop_one (S : ByteArray) (h : 0 < S.size) : ∃ c r, S.data.toList = c :: r ∧ S[0] = c ∧ (S.extract 1 S.size).data.toList = r := by
  cases e : S.data.toList with
  | nil => rw [Lib.size_eq, e] at h; simp at h
  | cons c r =>
    have h2 := byte_get S 0 h
    simp only [e, List.getElem_cons_zero] at h2
    refine ⟨c, r, rfl, h2.symm, ?_⟩
    rw [← Lib.toList_data, Lib.extract_toList, e, Lib.size_eq, e]
    simp
theorem drop_last (S : ByteArray) (h : 0 < S.size) : ∃ c r, S.data.toList = r ++ [c] ∧ (∀ h' : S.size - 1 < S.size, S[S.size - 1] = c) ∧ (S.extract 0 (S.size - 1)).data.toList = r := by
  rcases snoc_cases S.data.toList with e | ⟨r, c, e⟩
  · rw [Lib.size_eq, e] at h; simp at h
  · have hs : S.size = r.length + 1 := by rw [Lib.size_eq, e]; simp
    refine ⟨c, r, e, fun h' => ?_, ?_⟩
    · have h2 := byte_get S (S.size - 1) h'
      rw [← h2]
      simp [e, hs]
    · rw [← Lib.toList_data, Lib.extract_toList, e, hs]
      simp

set_option maxHeartbeats 2000000 in
set_option maxRecDepth 100000 in
theorem rtrim_any (s : ByteArray) (w : World) (hs : s.size ≤ 1099511627776) :
    Calls Tryz.prog 83 #[.string s] w fun e w' => e = .returned (sV (trimL s.data.toList)) ∧ w = w' := by
  go_enter Tryz.func83, Tryz.ntmps83
  go_wp2_with fail
  go_loop [0] (fun v => ∃ S : ByteArray, v = .string S ∧ S.size ≤ s.size ∧ Hid (ltr S.data.toList = ltr s.data.toList)) (fun v => Lib.strSize v)
  case atStart => exact ⟨s, rfl, Nat.le_refl _, Lib.hid rfl⟩
  case round =>
    obtain ⟨S, rfl, hS, hl⟩ := hrel
    by_cases h0 : S.size = 0
    · have hte := toList_nil h0
      have HST : Hid (rtr S.data.toList = trimL s.data.toList) := Lib.hid (by
        rw [← trim_eq, ← hl.out, List.length_eq_zero_iff.1 (show S.data.toList.length = 0 by rw [← Lib.size_eq]; exact h0)]; rfl)
      go_wp2_with fail
      go_loop [0] (fun v => ∃ T : ByteArray, v = .string T ∧ T.size ≤ s.size ∧ Hid (rtr T.data.toList = trimL s.data.toList)) (fun v => Lib.strSize v)
      case atStart => exact ⟨S, rfl, hS, HST⟩
      case round =>
        clear hte
        obtain ⟨T, rfl, hT, ht⟩ := hrel
        by_cases k0 : T.size = 0
        · have kte := toList_nil k0
          have hend : Hid (trimL s.data.toList = T.data.toList) := Lib.hid (by rw [← ht.out, List.length_eq_zero_iff.1 (show T.data.toList.length = 0 by rw [← Lib.size_eq]; exact k0)]; rfl)
          go_wp2_with fail
          go_ret
          rw [hend.out]
          exact ⟨rfl, rfl⟩
        · have kte := toList_isEmpty k0
          obtain ⟨c, r, hcr, hc, hx⟩ := drop_last T (by omega)
          have hlt : T.size - 1 < T.size := by omega
          have hc' := hc hlt
          have HX := Lib.hid hx
          have hxs : (T.extract 0 (T.size - 1)).size = T.size - 1 := by rw [ByteArray.size_extract]; omega
          have hk1 : ((T.size : Int) - 1).toNat = T.size - 1 := by omega
          clear hx
          cases hb : blk c
          · have hend : Hid (trimL s.data.toList = T.data.toList) := Lib.hid (by rw [← ht.out, hcr, rtr_no hb])
            rw [blk_eq] at hb
            have hb1 : c ≠ 32 := fun e => by rw [e] at hb; cases hb
            have hb2 : c ≠ 9 := fun e => by rw [e] at hb; cases hb
            have hn1 : c.toNat ≠ 32 := fun e => hb1 (UInt8.toNat_inj.1 e)
            have hn2 : c.toNat ≠ 9 := fun e => hb2 (UInt8.toNat_inj.1 e)
            have q1 : ((c.toNat : Int) == 32) = false := by rw [beq_eq_false_iff_ne]; omega
            have q2 : ((c.toNat : Int) == 9) = false := by rw [beq_eq_false_iff_ne]; omega
            have q3 : ¬ (c.toNat : Int) = 32 := by omega
            clear hb hb1 hb2 hn1 hn2
            clear hcr
            go_wp2_with fail
            go_ret
            rw [hend.out]
            exact ⟨rfl, rfl⟩
          · have hnx : Hid (rtr (T.extract 0 (T.size - 1)).data.toList = trimL s.data.toList) := Lib.hid (by rw [HX.out, ← ht.out, hcr, rtr_yes hb])
            rw [blk_eq] at hb
            clear hcr
            by_cases h32 : c = 32
            · subst h32
              go_wp2_with fail
              go_round
              case rel => exact ⟨_, rfl, by rw [hxs]; omega, hnx⟩
              case measure => rw [Lib.strSize_string, Lib.strSize_string, hxs]; omega
            · have hb2 : c = 9 := by
                rw [Bool.or_eq_true, beq_iff_eq, beq_iff_eq] at hb
                rcases hb with e | e
                · exact absurd e h32
                · exact e
              subst hb2
              clear h32
              go_wp2_with fail
              go_round
              case rel => exact ⟨_, rfl, by rw [hxs]; omega, hnx⟩
              case measure => rw [Lib.strSize_string, Lib.strSize_string, hxs]; omega
    · have hte := toList_isEmpty h0
      obtain ⟨c, r, hcr, hc', hx⟩ := drop_one S (by omega)
      have hpos : 0 < S.size := by omega
      have HX := Lib.hid hx
      have hxs : (S.extract 1 S.size).size = S.size - 1 := by rw [ByteArray.size_extract]; omega
      clear hx
      cases hb : blk c
      · have HST : Hid (rtr S.data.toList = trimL s.data.toList) := Lib.hid (by rw [← trim_eq, ← hl.out, hcr, ltr_no hb])
        rw [blk_eq] at hb
        have hb1 : c ≠ 32 := fun e => by rw [e] at hb; cases hb
        have hb2 : c ≠ 9 := fun e => by rw [e] at hb; cases hb
        have hn1 : c.toNat ≠ 32 := fun e => hb1 (UInt8.toNat_inj.1 e)
        have hn2 : c.toNat ≠ 9 := fun e => hb2 (UInt8.toNat_inj.1 e)
        have q1 : ((c.toNat : Int) == 32) = false := by rw [beq_eq_false_iff_ne]; omega
        have q2 : ((c.toNat : Int) == 9) = false := by rw [beq_eq_false_iff_ne]; omega
        have q3 : ¬ (c.toNat : Int) = 32 := by omega
        clear hb hb1 hb2 hn1 hn2
        clear hcr
        go_wp2_with fail
        go_loop [0] (fun v => ∃ T : ByteArray, v = .string T ∧ T.size ≤ s.size ∧ Hid (rtr T.data.toList = trimL s.data.toList)) (fun v => Lib.strSize v)
        case atStart => exact ⟨S, rfl, hS, HST⟩
        case round =>
          clear hte hc' q1 q2 q3 hpos hxs
          obtain ⟨T, rfl, hT, ht⟩ := hrel
          by_cases k0 : T.size = 0
          · have kte := toList_nil k0
            have hend : Hid (trimL s.data.toList = T.data.toList) := Lib.hid (by rw [← ht.out, List.length_eq_zero_iff.1 (show T.data.toList.length = 0 by rw [← Lib.size_eq]; exact k0)]; rfl)
            go_wp2_with fail
            go_ret
            rw [hend.out]
            exact ⟨rfl, rfl⟩
          · have kte := toList_isEmpty k0
            obtain ⟨c, r, hcr, hc, hx⟩ := drop_last T (by omega)
            have hlt : T.size - 1 < T.size := by omega
            have hc' := hc hlt
            have HX := Lib.hid hx
            have hxs : (T.extract 0 (T.size - 1)).size = T.size - 1 := by rw [ByteArray.size_extract]; omega
            have hk1 : ((T.size : Int) - 1).toNat = T.size - 1 := by omega
            clear hx
            cases hb : blk c
            · have hend : Hid (trimL s.data.toList = T.data.toList) := Lib.hid (by rw [← ht.out, hcr, rtr_no hb])
              rw [blk_eq] at hb
              have hb1 : c ≠ 32 := fun e => by rw [e] at hb; cases hb
              have hb2 : c ≠ 9 := fun e => by rw [e] at hb; cases hb
              have hn1 : c.toNat ≠ 32 := fun e => hb1 (UInt8.toNat_inj.1 e)
              have hn2 : c.toNat ≠ 9 := fun e => hb2 (UInt8.toNat_inj.1 e)
              have q1 : ((c.toNat : Int) == 32) = false := by rw [beq_eq_false_iff_ne]; omega
              have q2 : ((c.toNat : Int) == 9) = false := by rw [beq_eq_false_iff_ne]; omega
              have q3 : ¬ (c.toNat : Int) = 32 := by omega
              clear hb hb1 hb2 hn1 hn2
              clear hcr
              go_wp2_with fail
              go_ret
              rw [hend.out]
              exact ⟨rfl, rfl⟩
            · have hnx : Hid (rtr (T.extract 0 (T.size - 1)).data.toList = trimL s.data.toList) := Lib.hid (by rw [HX.out, ← ht.out, hcr, rtr_yes hb])
              rw [blk_eq] at hb
              clear hcr
              by_cases h32 : c = 32
              · subst h32
                go_wp2_with fail
                go_round
                case rel => exact ⟨_, rfl, by rw [hxs]; omega, hnx⟩
                case measure => rw [Lib.strSize_string, Lib.strSize_string, hxs]; omega
              · have hb2 : c = 9 := by
                  rw [Bool.or_eq_true, beq_iff_eq, beq_iff_eq] at hb
                  rcases hb with e | e
                  · exact absurd e h32
                  · exact e
                subst hb2
                clear h32
                go_wp2_with fail
                go_round
                case rel => exact ⟨_, rfl, by rw [hxs]; omega, hnx⟩
                case measure => rw [Lib.strSize_string, Lib.strSize_string, hxs]; omega
      · have hnx : Hid (ltr (S.extract 1 S.size).data.toList = ltr s.data.toList) := Lib.hid (by rw [HX.out, ← hl.out, hcr, ltr_yes hb])
        rw [blk_eq] at hb
        clear hcr
        by_cases h32 : c = 32
        · subst h32
          go_wp2_with fail
          go_round
          case rel => exact ⟨_, rfl, by rw [hxs]; omega, hnx⟩
          case measure => rw [Lib.strSize_string, Lib.strSize_string, hxs]; omega
        · have hb2 : c = 9 := by
            rw [Bool.or_eq_true, beq_iff_eq, beq_iff_eq] at hb
            rcases hb with e | e
            · exact absurd e h32
            · exact e
          subst hb2
          clear h32
          go_wp2_with fail
          go_round
          case rel => exact ⟨_, rfl, by rw [hxs]; omega, hnx⟩
          case measure => rw [Lib.strSize_string, Lib.strSize_string, hxs]; omega
end Go.Proofs.YtnnbbjdidbggmaaGreatDoor.F0
