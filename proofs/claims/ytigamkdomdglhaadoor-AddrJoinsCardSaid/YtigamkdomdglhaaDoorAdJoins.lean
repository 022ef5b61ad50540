/-
  The law AddrJoins returns true: two texts, a comma between, have the addresses of both, if neither is open. Condition: the bound of the library's search is some number.
-/
import Derived.Test.YtigamkdomdglhaaDoorAdAwake
import Derived.Deep.Upon
namespace Go.Proofs.YtigamkdomdglhaaDoor.Ad
open Go Go.RowKit Go.Joins Kit J7

/-- append of all of a row of addresses. -/
theorem addrs_join {v u : Value} {Ta Tb : List Ad3} {ops : Array Oper} {rest : List Oper} {o : Oper} {a : Act} {Q : Exit → Act → World → Prop} (hgd : o.guard = none) (sl x : Operand)
    (ho : o.op = .call { callee := .builtin .append, args := #[sl, x], argTypes := #[24, 24] })
    (B B' : Nat) (W : World) (h : RowA B v Ta W) (hB : B ≤ W.heap.size) (h' : RowA B' u Tb W) (hs : a.eval sl = v) (hx : a.eval x = u) (hlen : Ta.length + Tb.length ≤ 1000000000)
    (k : ∀ v' w', RowA B v' (Ta ++ Tb) w' → Below B W w' → wpList Tryd.prog ops Q rest (a.put o.dst v') w') : wpList Tryd.prog ops Q (o :: rest) a W := by
  obtain ⟨i0, hi, hz0, hz1, hz2⟩ := info_parts infoA
  obtain ⟨ad, cap, rfl⟩ := row_form h'
  obtain ⟨av, cv, hv⟩ := row_form h
  cases Tb with
  | nil =>
    have hle : Ta.length ≤ cv := by
      rcases h.2 with ⟨hv2, h0⟩ | ⟨g, cap2, cur, hv2, _, _, hnc, _⟩
      · omega
      · rw [hv] at hv2; injection hv2 with _ _ e3; omega
    refine wpList_plain hgd fun K hK => ?_
    have hrun : (Builtin.append_ #[24, 24] o.type #[v, .slice ad 0 cap]).run Tryd.prog W = .ok v W := by
      subst hv
      cases av <;> cases ad <;> simp [Builtin.append_, run_underlying Tryd.underlying24, sizeOf, typeInfo, hi, Builtin.lenOf, Builtin.firstCells, hle, storeCells, loadCells, loadCellsFrom]
    unfold Oper.wp
    simp [execOp, ho, resolve, invoke, builtin, hs, hx, hrun, Result.andThen]
    exact hK _ _ (k v W (by rw [List.append_nil]; exact h) (Below.refl _ _))
  | cons t Tb =>
    obtain ⟨g, rfl⟩ : ∃ g, ad = some ⟨g, 0, none⟩ := by
      rcases h'.2 with ⟨hv2, h0⟩ | ⟨g, cap2, cur, hv2, _⟩
      · exact absurd h0 (by simp)
      · injection hv2 with e1 _ _; exact ⟨g, e1⟩
    refine wpList_append_lies W hgd sl x 24 ho B 27 i0 _ 3 48 Tryd.underlying24 hi hz0 hz1 hz2 rfl (by decide) v Ta.length _ hs h ⟨g, 0, none⟩ (t :: Tb).length cap (aC (t :: Tb)) hx (aC_length _) ?_ ?_ (by simp) ?_ ?_ hB W.heap.size rfl ?_
    · intro j y hj
      exact h'.cells (g := g) rfl j y hj
    · intro y hy
      have : ∀ (T : List Ad3), ∀ y ∈ aC T, y.oneCell' = true := by
        intro T
        induction T with
        | nil => intro y hy; cases hy
        | cons f r ih =>
          intro y hy
          simp only [aC, List.mem_cons] at hy
          rcases hy with rfl | rfl | rfl | hy
          · rfl
          · rfl
          · rfl
          · exact ih y hy
      exact this _ y hy
    · unfold maxLen; omega
    · omega
    · intro g' c w' ho' hg hat _
      refine k _ w' ?_ ((Below.refl B W).grown hg hB (fun k hk => (row_block h hk).1))
      unfold RowA
      rw [List.length_append, aC_append]
      exact ho'

/-- No byte that opens something. -/
def Shut (l : List UInt8) : Prop := ∀ c ∈ l, c ≠ 34 ∧ c ≠ 40 ∧ c ≠ 60
theorem shut_next {s : ByteArray} {k : Nat} (h : k < s.size) (hs : Shut (s.data.toList.take k)) (h1 : ((s[k].toNat : Int) == 34) = false) (h2 : ((s[k].toNat : Int) == 40) = false) (h3 : ((s[k].toNat : Int) == 60) = false) : Shut (s.data.toList.take (k + 1)) := by
  have hl : k < s.data.toList.length := by rw [← Lib.size_eq]; exact h
  rw [List.take_succ_eq_append_getElem hl, byte_get s k h]
  intro c hc
  rcases List.mem_append.1 hc with hc | hc
  · exact hs c hc
  · rw [List.mem_singleton] at hc
    rw [beq_eq_false_iff_ne] at h1 h2 h3
    refine ⟨fun e => h1 ?_, fun e => h2 ?_, fun e => h3 ?_⟩
    all_goals
      rw [← hc, e]
      rfl
theorem doc_joins_of {a b : ByteArray} (h : Shut a.data.toList) : docA (a ++ ⟨#[44]⟩ ++ b).data.toList = docA a.data.toList ++ docA b.data.toList := by
  rw [← doc_joins _ _ h, Joins.data_append, Joins.data_append]
  simp

set_option maxHeartbeats 4000000 in
set_option maxRecDepth 100000 in
theorem addrJoins_walk (a b : ByteArray) (w : World) (hE : Srch.Env w) :
    Calls Tryd.prog 4 #[.string a, .string b] w fun e w' => e = .returned (.bool true) ∧ Below w.heap.size w w' := by
  have HE := Lib.hid hE
  clear hE
  by_cases ha : a.size ≤ 500
  rotate_left 1
  · have g0 : (500 : Int) < a.size := by omega
    clear ha
    go_enter Tryd.func4, Tryd.ntmps4
    go_wp2_with fail
    refine (awake_any w HE.out).mono ?_
    rintro e w9 ⟨rfl, hb9⟩
    go_wp2
    go_ret
    exact ⟨rfl, hb9⟩
  by_cases hb : b.size ≤ 500
  rotate_left 1
  · have g0 : ¬ (500 : Int) < a.size := by omega
    have g1 : (500 : Int) < b.size := by omega
    clear ha hb
    go_enter Tryd.func4, Tryd.ntmps4
    go_wp2_with fail
    refine (awake_any w HE.out).mono ?_
    rintro e w9 ⟨rfl, hb9⟩
    go_wp2
    go_ret
    exact ⟨rfl, hb9⟩
  have g0 : ¬ (500 : Int) < a.size := by omega
  have g1 : ¬ (500 : Int) < b.size := by omega
  go_enter Tryd.func4, Tryd.ntmps4
  go_wp2_with fail
  go_loopg [5] a.size (fun m i wr => ∃ k : Nat, m = a.size - k ∧ k ≤ a.size ∧ i = .int .i64 (k : Int) ∧ Hid (Shut (a.data.toList.take k)) ∧ Hid (Below w.heap.size w wr))
  case atStart => exact ⟨0, rfl, Nat.zero_le _, rfl, Lib.hid (by rw [List.take_zero]; exact fun c hc => by cases hc), Lib.hid (Below.refl _ _)⟩
  case round =>
    obtain ⟨k, rfl, hk, rfl, HS, HB⟩ := hrel
    by_cases hlt : k < a.size
    · have gk : (k : Int) < (a.size : Int) := by omega
      cases h1 : ((a[k].toNat : Int) == 34) with
      | true =>
        go_wp2_with fail
        refine (awake_any wr (HE.out.next HB.out)).mono ?_
        rintro e w9 ⟨rfl, hb9⟩
        go_wp2
        go_ret
        exact ⟨rfl, HB.out.trans (hb9.mono HB.out.size)⟩
      | false =>
        cases h2 : ((a[k].toNat : Int) == 40) with
        | true =>
          go_wp2_with fail
          refine (awake_any wr (HE.out.next HB.out)).mono ?_
          rintro e w9 ⟨rfl, hb9⟩
          go_wp2
          go_ret
          exact ⟨rfl, HB.out.trans (hb9.mono HB.out.size)⟩
        | false =>
          cases h3 : ((a[k].toNat : Int) == 60) with
          | true =>
            go_wp2_with fail
            refine (awake_any wr (HE.out.next HB.out)).mono ?_
            rintro e w9 ⟨rfl, hb9⟩
            go_wp2
            go_ret
            exact ⟨rfl, HB.out.trans (hb9.mono HB.out.size)⟩
          | false =>
            have HN := Lib.hid (shut_next hlt HS.out h1 h2 h3)
            go_wp2_with fail
            go_roundg (a.size - (k + 1))
            case measure => omega
            case rel => exact ⟨k + 1, rfl, by omega, by go_num, HN, HB⟩
    · have gk : ¬ (k : Int) < (a.size : Int) := by omega
      have hall : a.data.toList.take k = a.data.toList := List.take_of_length_le (by rw [← Lib.size_eq]; omega)
      have hS := HS.out
      rw [hall] at hS
      have hD := doc_joins_of (b := b) hS
      have za := doc_len a.data.toList
      have zb := doc_len b.data.toList
      rw [← Lib.size_eq] at za zb
      have HZ := Lib.hid (show (docA a.data.toList).length + (docA b.data.toList).length ≤ 1000000000 by omega)
      have hC : (a ++ ⟨#[44]⟩ ++ b).size ≤ 1000000 := by rw [ByteArray.size_append, ByteArray.size_append, show (ByteArray.mk #[44]).size = 1 from rfl]; omega
      obtain ⟨C, hCC⟩ : ∃ C, a ++ ⟨#[44]⟩ ++ b = C := ⟨_, rfl⟩
      rw [hCC] at hD hC
      have HD := Lib.hid hD
      have HC := Lib.hid hC
      have HCC := Lib.hid hCC
      clear hall hS HS za zb hD hC hCC
      go_wp2_with fail
      refine (list_any a wr (by omega) (HE.out.next HB.out)).mono ?_
      rintro e w1 ⟨v1, rfl, hr1, hb1⟩
      have B1 := Lib.hid (HB.out.trans (hb1.mono HB.out.size))
      have Z1 := Lib.hid hb1.size
      have R1 := Lib.hid hr1
      clear hr1 hb1
      go_wp2_with fail
      refine (list_any b w1 (by omega) (HE.out.next B1.out)).mono ?_
      rintro e w2 ⟨v2, rfl, hr2, hb2⟩
      have B2 := Lib.hid (B1.out.trans (hb2.mono B1.out.size))
      have R2 := Lib.hid hr2
      have R12 := Lib.hid (R1.out.below hb2)
      have Z2 := Lib.hid (Nat.le_trans Z1.out hb2.size)
      have HO := Lib.hid HB.out.size
      clear hr2 hb2 R1 Z1
      go_wp2_with (at_builtin; refine addrs_join rfl _ _ rfl _ _ _ R12.out Z2.out R2.out rfl rfl HZ.out ?_)
      intro v3 w3 hr3 hb3
      have B3 := Lib.hid (B2.out.trans (hb3.mono HO.out))
      have R3 := Lib.hid (RowA.at hr3)
      clear hr3 hb3 R12 R2 Z2 B2 B1
      go_wp2_with fail
      rw [HCC.out]
      refine (list_any C w3 HC.out (HE.out.next B3.out)).mono ?_
      rintro e w4 ⟨v4, rfl, hr4, hb4⟩
      rw [HD.out] at hr4
      have B4 := Lib.hid (B3.out.trans (hb4.mono B3.out.size))
      have R4 := Lib.hid (RowA.at hr4)
      have R34 := Lib.hid (R3.out.below hb4)
      have HZ2 : Hid ((docA a.data.toList ++ docA b.data.toList).length ≤ 1000000000) := Lib.hid (by rw [List.length_append]; exact HZ.out)
      clear hr4 hb4 R3 B3 HC HD
      go_wp2_with fail
      go_loopg [9] b.size (fun m i wx => ∃ q : Nat, m = b.size - q ∧ q ≤ b.size ∧ i = .int .i64 (q : Int) ∧ Hid (Below w4.heap.size w4 wx))
      case atStart => exact ⟨0, rfl, Nat.zero_le _, rfl, Lib.hid (Below.refl _ _)⟩
      case round =>
        obtain ⟨q, rfl, hq, rfl, HX⟩ := hrel
        have B5 := Lib.hid (B4.out.trans (HX.out.mono B4.out.size))
        by_cases hlt2 : q < b.size
        · have gq : (q : Int) < (b.size : Int) := by omega
          cases h1 : ((b[q].toNat : Int) == 58) with
          | true =>
            go_wp2_with fail
            refine (awake_any _ (HE.out.next B5.out)).mono ?_
            rintro e w9 ⟨rfl, hb9⟩
            go_wp2
            go_ret
            exact ⟨rfl, B5.out.trans (hb9.mono B5.out.size)⟩
          | false =>
            go_wp2_with fail
            go_roundg (b.size - (q + 1))
            case measure => omega
            case rel => exact ⟨q + 1, rfl, by omega, by go_num, HX⟩
        · have gq : ¬ (q : Int) < (b.size : Int) := by omega
          have R5 := Lib.hid (R4.out.below HX.out)
          have R35 := Lib.hid (R34.out.below HX.out)
          clear R4 R34
          go_wp2_with fail
          refine (same_any _ _ _ _ R5.out R35.out HZ2.out).mono ?_
          rintro e w6 ⟨rfl, hb6⟩
          have B6 := Lib.hid (B5.out.trans (hb6.mono B5.out.size))
          clear hb6
          go_wp2_with fail
          refine (awake_any w6 (HE.out.next B6.out)).mono ?_
          rintro e w9 ⟨rfl, hb9⟩
          go_wp2_with fail
          go_ret
          exact ⟨rfl, B6.out.trans (hb9.mono B6.out.size)⟩
end Go.Proofs.YtigamkdomdglhaaDoor.Ad
