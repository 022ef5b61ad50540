/-
  The document's answer for package utf7, as the statements have it: FromUtf7 returns the text of which Utf7 tells just what it is given, or that there is none. Condition: the text has at most 2^18 bytes.
-/
import Derived.Test.YtcakcpnmbclieaaDoorU7Ref
import Derived.Test.YtcakcpnmbclieaaDoorU7Row
namespace Go.Proofs.YtcakcpnmbclieaaDoor.U7
open Go Go.RowKit Go.Joins Kit
open U8 (putL)
open B6 (looseL idxFrom index_any)

theorem un16_len : ∀ (n : Nat) (l : List UInt8), l.length ≤ n → (un16 l).length ≤ 4 * l.length
  | _, [], _ => by simp [un16]
  | _, [_], _ => by simp [un16]
  | _, [a, b], _ => by have := put_len ((a.toNat * 256 + b.toNat : Nat) : Int); simp only [un16, List.length_cons, List.length_nil]; omega
  | _, [a, b, _], _ => by have := put_len ((a.toNat * 256 + b.toNat : Nat) : Int); simp only [un16, List.length_cons, List.length_nil]; omega
  | 0, _ :: _ :: _ :: _ :: _, h => by simp at h
  | n + 1, a :: b :: c :: d :: r, h => by
    simp only [List.length_cons] at h
    rw [un16]
    split
    · have h1 := put_len ((65536 + (a.toNat * 256 + b.toNat - 55296) * 1024 + (c.toNat * 256 + d.toNat - 56320) : Nat) : Int)
      have h2 := un16_len n r (by omega)
      rw [List.length_append]
      simp only [List.length_cons]
      generalize (putL _).length = x at h1 ⊢
      omega
    · have h1 := put_len ((a.toNat * 256 + b.toNat : Nat) : Int)
      have h2 := un16_len n (c :: d :: r) (by simp only [List.length_cons]; omega)
      rw [List.length_append]
      simp only [List.length_cons] at h2 ⊢
      generalize (putL _).length = x at h1 ⊢
      omega
theorem back_len (l : List UInt8) : (backL l).length ≤ 4 * l.length := by
  unfold backL
  have h1 := un16_len _ (looseL (l.map uncom)) (Nat.le_refl _)
  have h2 := B6.loose_length (l.map uncom)
  rw [List.length_map] at h2
  omega
theorem dash_split : ∀ {l a b : List UInt8}, dashL l = some (a, b) → l = a ++ 45 :: b
  | [], _, _, h => by cases h
  | c :: r, a, b, h => by
    unfold dashL at h
    split at h
    · rename_i e
      simp only [Option.some.injEq, Prod.mk.injEq] at h
      obtain ⟨rfl, rfl⟩ := h
      rw [e]
      rfl
    · cases e : dashL r with
      | none => rw [e] at h; cases h
      | some p =>
        obtain ⟨x, y⟩ := p
        rw [e] at h
        simp only [Option.some.injEq, Prod.mk.injEq] at h
        obtain ⟨rfl, rfl⟩ := h
        rw [dash_split e]
        rfl
def dashI (a : Nat) : Option (List UInt8 × List UInt8) → Int
  | none => -1
  | some (x, _) => (a : Int) + x.length
theorem idx_dash (l : List UInt8) : ∀ (f a : Nat), l.length < a + f → idxFrom l [45] f a = dashI a (dashL (l.drop a))
  | 0, a, h => by rw [List.drop_of_length_le (by omega)]; rfl
  | f + 1, a, h => by
    unfold idxFrom
    simp only [List.length_cons, List.length_nil]
    rcases Nat.lt_or_ge a l.length with h1 | h1
    · rw [if_pos (by omega), List.drop_eq_getElem_cons h1, dashL]
      by_cases hc : l[a] = 45
      · rw [if_pos (by rw [hc]; rfl), if_pos hc]
        simp [dashI]
      · rw [if_neg (show ¬ List.take (0 + 1) (l[a] :: l.drop (a + 1)) = [45] from fun e => hc (List.cons.inj e).1), if_neg hc, idx_dash l f (a + 1) (by omega)]
        cases dashL (l.drop (a + 1)) with
        | none => rfl
        | some p => obtain ⟨x, y⟩ := p; simp only [dashI, List.length_cons]; omega
    · rw [if_neg (by omega), List.drop_of_length_le h1]
      rfl
theorem dash_cons {c : UInt8} (h : c ≠ 45) (r : List UInt8) : dashL (c :: r) = match dashL r with
    | none => none
    | some (a, b) => some (c :: a, b) := by
  rw [dashL, if_neg h]
  cases dashL r <;> rfl
theorem map_app (o : Option (List UInt8)) (a b : List UInt8) : (o.map (b ++ ·)).map (a ++ ·) = o.map ((a ++ b) ++ ·) := by
  cases o <;> simp
theorem map_cons (o : Option (List UInt8)) (a : List UInt8) (c : UInt8) : (o.map (c :: ·)).map (a ++ ·) = o.map ((a ++ [c]) ++ ·) := by
  cases o <;> simp
theorem drop_at (s : ByteArray) (k : Nat) (h : k < s.size) : s.data.toList.drop k = s[k] :: s.data.toList.drop (k + 1) := by
  have hl : k < s.data.toList.length := by rw [← Lib.size_eq]; exact h
  rw [List.drop_eq_getElem_cons hl, byte_get s k h]
theorem dec_open {s : List UInt8} (h : saysL s = none) : decU s = none := by rw [decU, h]
theorem dec_says {s t : List UInt8} (h : saysL s = some t) : decU s = if encU t = some s then some t else none := by rw [decU, h]

set_option maxHeartbeats 4000000 in
set_option maxRecDepth 100000 in
theorem from_any (s : ByteArray) (w : World) (hs : s.size ≤ 262144) :
    Calls Tryd.prog 13 #[.string s] w fun e w' => e = .returned (decV s.data.toList) ∧ Below w.heap.size w w' := by
  obtain ⟨V, hV⟩ : ∃ V, decV s.data.toList = V := ⟨_, rfl⟩
  rw [hV]
  have HV := Lib.hid hV
  clear hV
  have hst := Lib.hid (show (saysL (s.data.toList.drop 0)).map ([] ++ ·) = saysL s.data.toList by rw [List.drop_zero]; cases saysL s.data.toList <;> rfl)
  have hB0 : Buf w (.slice none 0 0) [] w := Buf.empty (Below.refl _ w)
  go_enter Tryd.func13, Tryd.ntmps13
  go_wp2_with fail
  go_loopw [4, 5] (fun v i wr => ∃ (a : Nat) (out : List UInt8), a ≤ s.size ∧ out.length ≤ 4 * a ∧ i = .int .i64 a ∧ Hid ((saysL (s.data.toList.drop a)).map (out ++ ·) = saysL s.data.toList) ∧ Buf w v out wr) (fun _ i _ => s.size - (intOf i).toNat)
  case atStart => exact ⟨0, [], by omega, by simp, rfl, hst, hB0⟩
  case round =>
    clear hst hB0
    obtain ⟨a, out, ha, hol, rfl, hq, hB⟩ := hrel
    by_cases hlt : a < s.size
    · have g1 : (a : Int) < s.size := by omega
      have hd := drop_at s a hlt
      by_cases hc : s[a].toNat = 38
      · have hc38 : s[a] = 38 := UInt8.toNat.inj hc
        have q1 : ((s[a].toNat : Int) != 38) = false := by rw [bne, Bool.not_eq_false', beq_iff_eq]; omega
        have hidx : idxFrom s.data.toList (ByteArray.mk #[45]).data.toList (s.size + 1) a = dashI a (dashL (s.data.toList.drop a)) := idx_dash _ _ _ (by rw [← Lib.size_eq]; omega)
        cases hds : dashL (s.data.toList.drop (a + 1)) with
        | none =>
          have hix : idxFrom s.data.toList (ByteArray.mk #[45]).data.toList (s.size + 1) a = -1 := by rw [hidx, hd, dash_cons (by rw [hc38]; decide), hds]; rfl
          have HIX := Lib.hid hix
          have hno : V = .tuple #[.string ⟨#[]⟩, .int .i64 3] := by
            rw [← HV.out]
            apply decV_none
            apply dec_open
            rw [← hq.out, hd, hc38, says_open hds]
            rfl
          subst hno
          have hbl := hB.below
          clear hc hc38 hidx hix hd hds
          go_wp2_with fail
          refine (index_any s ⟨#[45]⟩ a wr (by omega) (by decide) (by omega)).mono ?_
          rintro e w2 ⟨rfl, rfl⟩
          rw [HIX.out]
          go_wp2
          go_ret2
          exact ⟨rfl, hbl⟩
        | some p =>
          obtain ⟨x, b⟩ := p
          have hsp := dash_split hds
          have hln := dash_len hds
          rw [List.length_drop, ← Lib.size_eq] at hln
          have hix : idxFrom s.data.toList (ByteArray.mk #[45]).data.toList (s.size + 1) a = (a : Int) + (x.length + 1 : Nat) := by rw [hidx, hd, dash_cons (by rw [hc38]; decide), hds]; rfl
          have hdb : s.data.toList.drop (a + x.length + 2) = b := by
            rw [show a + x.length + 2 = (a + 1) + (x.length + 1) by omega, ← List.drop_drop, hsp, List.drop_append]
            simp
          by_cases hx : x = []
          · subst hx
            simp only [List.length_nil] at hix hdb hln
            have HIX := Lib.hid (show idxFrom s.data.toList (ByteArray.mk #[45]).data.toList (s.size + 1) a = (a : Int) + 1 by rw [hix]; rfl)
            have hnx := Lib.hid (show (saysL (s.data.toList.drop (a + 2))).map ((out ++ [38]) ++ ·) = saysL s.data.toList by
              rw [← hq.out, hd, hc38, says_row hds, if_pos rfl, map_app, show a + 2 = a + 0 + 2 by omega, hdb])
            have a2 : a + 2 ≤ s.size := by omega
            clear hc hc38 hidx hix hd hds hsp hdb hln
            go_wp2_with fail
            refine (index_any s ⟨#[45]⟩ a wr (by omega) (by decide) (by omega)).mono ?_
            rintro e w2 ⟨rfl, rfl⟩
            rw [HIX.out]
            go_wp2_with (at_builtin; refine Buf.app rfl _ _ rfl w _ _ _ hB _ [38] 1 1 rfl rfl rfl rfl ?ra ?_)
            case ra => omega
            intro v2 w3 hB2
            go_wp2
            go_roundw
            case rel => exact ⟨a + 2, _, a2, by rw [List.length_append]; show out.length + 1 ≤ _; omega, by go_num, hnx, hB2⟩
            case measure => simp [intOf]; omega
          · have hx0 : 0 < x.length := List.length_pos_iff.2 hx
            obtain ⟨m, hm⟩ : ∃ m, x.length = m := ⟨_, rfl⟩
            rw [hm] at hix hdb hln hx0
            have HIX := Lib.hid (show idxFrom s.data.toList (ByteArray.mk #[45]).data.toList (s.size + 1) a = (a : Int) + 1 + m by rw [hix]; omega)
            obtain ⟨z, hz⟩ : ∃ z, s.extract (a + 1) (a + 1 + m) = z := ⟨_, rfl⟩
            have hzd : z.data.toList = x := by
              rw [← hz, ← Lib.toList_data, Lib.extract_toList, hsp, show a + 1 + m - (a + 1) = x.length by omega]
              exact List.take_left
            have hzs : z.size = m := by rw [Lib.size_eq, hzd, hm]
            have hbk := back_len x
            rw [hm] at hbk
            obtain ⟨u, hu⟩ : ∃ u : ByteArray, (⟨(backL x).toArray⟩ : ByteArray) = u := ⟨_, rfl⟩
            have hul : u.size ≤ 4 * m := by rw [← hu]; show (backL x).toArray.size ≤ _; simpa using hbk
            have hnx := Lib.hid (show (saysL (s.data.toList.drop (a + m + 2))).map ((out ++ u.data.toList) ++ ·) = saysL s.data.toList by
              rw [← hq.out, hd, hc38, says_row hds, if_neg hx, map_app, hdb, ← hu])
            have HZ := Lib.hid hz
            have HU := Lib.hid (show (⟨(backL z.data.toList).toArray⟩ : ByteArray) = u by rw [hzd]; exact hu)
            have g2 : (a : Int) + 1 + m ≤ s.size := by omega
            have g3 : ((a : Int) + 1 + m == (a : Int) + 1) = false := by rw [beq_eq_false_iff_ne]; omega
            clear hc hc38 hidx hix hd hds hsp hdb hz hzd hu hbk hx hm
            go_wp2_with fail
            refine (index_any s ⟨#[45]⟩ a wr (by omega) (by decide) (by omega)).mono ?_
            rintro e w2 ⟨rfl, rfl⟩
            rw [HIX.out]
            go_wp2_with fail
            rw [HZ.out]
            refine (row_any z wr (by omega)).mono ?_
            rintro e w3 ⟨rfl, hb3⟩
            rw [HU.out]
            have hB3 := hB.next hb3
            go_wp2_with (at_builtin; refine Buf.app_text rfl _ _ rfl w _ _ out hB3 u rfl rfl ?rb ?_)
            case rb => omega
            intro v4 w4 hB4
            have hl4 : (out ++ u.data.toList).length ≤ out.length + 4 * m := by rw [List.length_append, ← Lib.size_eq]; omega
            generalize out ++ u.data.toList = L4 at hB4 hnx hl4
            go_wp2
            go_roundw
            case rel => exact ⟨a + m + 2, L4, by omega, by omega, by go_num, hnx, hB4⟩
            case measure => simp [intOf]; omega
      · have q1 : ((s[a].toNat : Int) != 38) = true := by rw [bne, Bool.not_eq_true', beq_eq_false_iff_ne]; omega
        have hnx := Lib.hid (show (saysL (s.data.toList.drop (a + 1))).map ((out ++ [s[a]]) ++ ·) = saysL s.data.toList by
          rw [← hq.out, hd, says_cons (fun e => hc (by rw [e]; rfl)), map_cons])
        clear hc hd
        go_wp2_with (at_builtin; refine Buf.app rfl _ _ rfl w _ _ _ hB _ [s[a]] 1 1 rfl rfl rfl rfl ?rc ?_)
        case rc => omega
        intro v2 w3 hB2
        go_wp2
        go_roundw
        case rel => exact ⟨a + 1, _, by omega, by rw [List.length_append]; show out.length + 1 ≤ _; omega, by go_num, hnx, hB2⟩
        case measure => simp [intOf]; omega
    · have he : a = s.size := by omega
      have hsay : saysL s.data.toList = some out := by
        rw [← hq.out, he, List.drop_of_length_le (by rw [← Lib.size_eq]; exact Nat.le_refl _), says_nil]
        simp
      have hdec := dec_says hsay
      have g1 : ¬ (a : Int) < s.size := by omega
      have hbl := hB.below
      have hrun := hB.string
      obtain ⟨t, ht⟩ : ∃ t : ByteArray, (⟨out.toArray⟩ : ByteArray) = t := ⟨_, rfl⟩
      have htd : t.data.toList = out := by rw [← ht]
      have hts : t.size ≤ 1048576 := by rw [Lib.size_eq, htd]; omega
      rw [ht] at hrun
      have HT := Lib.hid ht
      clear he hsay ht
      cases hen : encU t.data.toList with
      | none =>
        have HE := Lib.hid (encV_none hen)
        have hno : V = .tuple #[.string ⟨#[]⟩, .int .i64 3] := by
          rw [← HV.out]
          apply decV_none
          rw [hdec, ← htd, hen, if_neg (by simp)]
        subst hno
        clear hdec hen htd
        go_wp2_with fail
        refine (utf7_any t wr hts).mono ?_
        rintro e w2 ⟨rfl, hb2⟩
        rw [HE.out]
        go_wp2
        go_ret2
        exact ⟨rfl, hbl.trans (hb2.mono hbl.size)⟩
      | some x =>
        have HE := Lib.hid (encV_some hen)
        by_cases hx : x = s.data.toList
        · have hyes : V = .tuple #[.string t, .int .i64 0] := by
            rw [← HV.out, decV_some (x := out) (by rw [hdec, ← htd, hen, if_pos (by rw [hx])]), ← htd]
          have hxs : Hid ((⟨x.toArray⟩ : ByteArray) = s) := by show _ = _; exact Kit.bytes_ext (by simpa using hx)
          subst hyes
          clear hdec hen htd hx
          go_wp2_with fail
          refine (utf7_any t wr hts).mono ?_
          rintro e w2 ⟨rfl, hb2⟩
          rw [HE.out, hxs.out]
          have hr2 := (hB.next hb2).string
          rw [HT.out] at hr2
          clear hrun
          go_wp2
          go_ret2
          exact ⟨rfl, hbl.trans (hb2.mono hbl.size)⟩
        · have hno : V = .tuple #[.string ⟨#[]⟩, .int .i64 3] := by
            rw [← HV.out]
            apply decV_none
            rw [hdec, ← htd, hen, if_neg (fun e => hx (Option.some.inj e))]
          have hxe := Lib.hid (show (x == s.toList) = false by rw [Lib.toList_data]; simpa using hx)
          subst hno
          clear hdec hen htd hx
          go_wp2_with fail
          refine (utf7_any t wr hts).mono ?_
          rintro e w2 ⟨rfl, hb2⟩
          rw [HE.out]
          have hx2 := hxe.out
          clear hrun
          go_wp2
          go_ret2
          exact ⟨rfl, hbl.trans (hb2.mono hbl.size)⟩
end Go.Proofs.YtcakcpnmbclieaaDoor.U7
