/-
  The law FieldMade returns true, of any texts and bools. Condition: the bound of the library's search is some number.
-/
import Derived.Test.YtbhdopcegfdnnaaDoorF0Any
import Derived.Test.YtbhdopcegfdnnaaDoorF0MPlain
import Derived.Test.YtbhdopcegfdnnaaDoorFArgs
import Derived.Deep.RegionWith
import Derived.Deep.CutRange
import Derived.Deep.CutBlock
import Derived.BigQuiet
namespace Go.Proofs.YtbhdopcegfdnnaaDoor.F0
open Go Go.RowKit Go.Joins Kit

theorem ListAt.below {w w' : World} {A : Option Addr} {cs : List Value} (h : ListAt w A cs) (hb : Below w.heap.size w w') : ListAt w' A cs := fun k hk => by
  obtain ⟨g, o, ha, hg, hc⟩ := h k hk
  exact ⟨g, o, ha, Nat.lt_of_lt_of_le hg hb.size, (hb.cell (p := ⟨g, o + k, none⟩) hg).trans hc⟩
/-- The text s holds k headers with the end E; their fields lie in a row of the call's own. -/
def Md (B : Nat) (E s : ByteArray) (k : Nat) (v : Value) (w : World) : Prop := ∃ hs : List Hx, hs.length = k ∧ GoodH hs ∧ s.data.toList = allH E.data.toList hs ∧ RowF B v (hs.map wantH) w

theorem Md.keep {B : Nat} {E s : ByteArray} {k : Nat} {v : Value} {w w' : World} (h : Md B E s k v w) (hb : ∀ g : Nat, g < w.heap.size → w'.heap[g]? = w.heap[g]?) : Md B E s k v w' := by
  obtain ⟨hs, h1, h2, h3, h4⟩ := h
  exact ⟨hs, h1, h2, h3, h4.keep (fun g _ hl => hb g hl)⟩
theorem Md.start (B : Nat) (E : ByteArray) (w : World) : Md B E ⟨#[]⟩ 0 (.slice none 0 0) w := ⟨[], rfl, fun x hx => by simp at hx, rfl, RowF.new _ _⟩
theorem round_no (E s K V : ByteArray) : (s ++ K ++ ⟨#[58, 32, 9]⟩ ++ V).data.toList ++ E.data.toList = s.data.toList ++ oneH E.data.toList (K.data.toList, V.data.toList, false) := by
  simp [oneH, headL, colL]
theorem round_yes (E s K V : ByteArray) : (s ++ K ++ ⟨#[58, 32, 9]⟩ ++ V ++ E ++ ⟨#[9, 109, 111, 114, 101]⟩).data.toList ++ E.data.toList = s.data.toList ++ oneH E.data.toList (K.data.toList, V.data.toList, true) := by
  simp [oneH, headL, colL, moreL]
theorem size_no {s K V : ByteArray} (h1 : (K.size : Int) ≤ 100) (h2 : (V.size : Int) ≤ 100) : ((s ++ K ++ ⟨#[58, 32, 9]⟩ ++ V).size : Int) ≤ (s.size : Int) + 210 := by
  rw [ByteArray.size_append, ByteArray.size_append, ByteArray.size_append]
  have : (ByteArray.mk #[58, 32, 9]).size = 3 := rfl
  omega
theorem size_yes {s K V E : ByteArray} (h1 : (K.size : Int) ≤ 100) (h2 : (V.size : Int) ≤ 100) (h3 : (E.size : Int) ≤ 2) : ((s ++ K ++ ⟨#[58, 32, 9]⟩ ++ V ++ E ++ ⟨#[9, 109, 111, 114, 101]⟩).size : Int) ≤ (s.size : Int) + 210 := by
  rw [ByteArray.size_append, ByteArray.size_append, ByteArray.size_append, ByteArray.size_append, ByteArray.size_append]
  have : (ByteArray.mk #[58, 32, 9]).size = 3 := rfl
  have : (ByteArray.mk #[9, 109, 111, 114, 101]).size = 5 := rfl
  omega
theorem size_next {s S E : ByteArray} {k : Nat} (h1 : (s.size : Int) ≤ 212 * (k : Int)) (h2 : (S.size : Int) ≤ (s.size : Int) + 210) (h3 : (E.size : Int) ≤ 2) : ((S ++ E).size : Int) ≤ 212 * ((k + 1 : Nat) : Int) := by
  rw [ByteArray.size_append]
  omega
theorem size_all {s E body : ByteArray} (h1 : (s.size : Int) ≤ 4240) (h2 : (E.size : Int) ≤ 2) (h3 : (body.size : Int) ≤ 1000) : (s ++ E ++ body).size ≤ 32768 ∧ ((⟨#[120]⟩ : ByteArray) ++ s).size ≤ 32768 := by
  rw [ByteArray.size_append, ByteArray.size_append, ByteArray.size_append]
  have : (ByteArray.mk #[120]).size = 1 := rfl
  omega
theorem want_no (k v : List UInt8) : wantH (k, v, false) = (k, v) := rfl
theorem want_yes (k : List UInt8) (V : ByteArray) : wantH (k, V.data.toList, true) = (k, (V ++ ⟨#[9, 109, 111, 114, 101]⟩).data.toList) := by
  simp [wantH, moreL]
theorem made_split {E s : ByteArray} (body : ByteArray) {hs : List Hx} (he : IsEnd E.data.toList) (hg : GoodH hs) (h : s.data.toList = allH E.data.toList hs) : docS (s ++ E ++ body).data.toList 0 ((s.size : Int) + (E.size : Int) + (body.size : Int)) = (hs.map wantH, (s.size : Int) + (E.size : Int)) := by
  have h1 : (s ++ E ++ body).data.toList = allH E.data.toList hs ++ (E.data.toList ++ body.data.toList) := by rw [Joins.data_append, Joins.data_append, h, List.append_assoc]
  have h2 : (s.size : Int) + (E.size : Int) + (body.size : Int) = ((s ++ E ++ body).data.toList.length : Nat) := by
    rw [← Lib.size_eq, ByteArray.size_append, ByteArray.size_append]
    omega
  rw [h2, docS_all, h1, made_stop he hs hg, ← h, ← Lib.size_eq, ← Lib.size_eq]
  rfl
theorem made_split1 {E s : ByteArray} {hs : List Hx} (he : IsEnd E.data.toList) (hg : GoodH hs) (h : s.data.toList = allH E.data.toList hs) : docS ((⟨#[120]⟩ : ByteArray) ++ s).data.toList 1 ((s.size : Int) + 1) = (hs.map wantH, (s.size : Int) + 1) := by
  have h1 : ((⟨#[120]⟩ : ByteArray) ++ s).data.toList = 120 :: s.data.toList := by rw [Joins.data_append]; rfl
  have h2 : ((s.size : Int) + 1) = ((s.size + 1 : Nat) : Int) := by omega
  have h3 : (120 :: s.data.toList).length = s.size + 1 := by rw [List.length_cons, Lib.size_eq]
  have h4 := docS_in (l := 120 :: s.data.toList) (a := 1) (t := s.size + 1) (by omega) (by omega)
  rw [List.take_of_length_le (by omega), List.drop_one, List.tail_cons] at h4
  rw [h1, h2, show (1 : Int) = ((1 : Nat) : Int) from rfl, h4, h, made_all he hs hg]

theorem plain_100 (Z : ByteArray) (W : World) (h : Hid (Z.size ≤ 100)) : Calls Tryd.prog 15 #[.string Z] W fun e w' => e = .returned (.string (plainB Z)) ∧ w' = W :=
  (plain_any Z W (Nat.le_trans h.out (by decide))).mono fun e w' h => ⟨h.1, h.2.symm⟩
theorem plain_le {Z : ByteArray} (h : Z.size ≤ 100) : ((plainB Z).size : Int) ≤ 100 := by
  have := plainB_len Z 100 h (by decide)
  omega
theorem min4 (P : Program) (a b c : Nat) : ∃ N : Nat, N ≤ a ∧ N ≤ b ∧ N ≤ c ∧ N ≤ 20 ∧ ∀ (ts : Array TypeId) (t : TypeId) (W : World), (Builtin.min_ ts t #[.int .i64 (a : Int), .int .i64 (b : Int), .int .i64 (c : Int), .int .i64 20]).run P W = .ok (.int .i64 (N : Int)) W := by
  refine ⟨min (min (min a b) c) 20, by omega, by omega, by omega, by omega, fun ts t W => ?_⟩
  have h : (if (20 : Int) < (if (c : Int) < (if (b : Int) < (a : Int) then (b : Int) else a) then (c : Int) else (if (b : Int) < (a : Int) then (b : Int) else a)) then (20 : Int) else (if (c : Int) < (if (b : Int) < (a : Int) then (b : Int) else a) then (c : Int) else (if (b : Int) < (a : Int) then (b : Int) else a))) = ((min (min (min a b) c) 20 : Nat) : Int) := by
    split <;> split <;> split <;> omega
  rw [← h]
  simp [Builtin.min_, Builtin.min2]
set_option maxHeartbeats 4000000 in
set_option maxRecDepth 100000 in
theorem fieldMade_walk (A0 : Option Addr) (n0 c0 : Nat) (xs : List ByteArray) (A1 : Option Addr) (n1 c1 : Nat) (ys : List ByteArray) (A2 : Option Addr) (n2 c2 : Nat) (bs : List Bool) (body : ByteArray) (w : World)
    (l0 : xs.length = n0) (_b0 : n0 ≤ 9223372036854775807) (L0 : ListAt w A0 (xs.map .string)) (l1 : ys.length = n1) (_b1 : n1 ≤ 9223372036854775807) (L1 : ListAt w A1 (ys.map .string)) (l2 : bs.length = n2) (_b2 : n2 ≤ 9223372036854775807) (L2 : ListAt w A2 (bs.map .bool)) (hE : Srch.Env w) :
    Calls Tryd.prog 5 #[.slice A0 n0 c0, .slice A1 n1 c1, .slice A2 n2 c2, .string body] w fun e w' => e = .returned (.bool true) ∧ Below w.heap.size w w' := by
  have HE := Lib.hid hE
  have HL := Lib.hid (And.intro l0 (And.intro l1 l2))
  have HM := Lib.hid (And.intro L0 (And.intro L1 L2))
  clear hE l0 l1 l2 L0 L1 L2
  obtain ⟨N, hN0, hN1, hN2, hN3, hmin⟩ := min4 Tryd.prog n0 n1 n2
  go_enter Tryd.func5, Tryd.ntmps5
  go_upto_if 30 with fail
  go_cut [10] from 27 to 31 (fun ev wx => ∃ E : ByteArray, ev = .string E ∧ IsEnd E.data.toList ∧ w = wx)
  case first =>
    go_wp2_with fail
    all_goals go_meet
    · exact ⟨⟨#[10]⟩, rfl, Or.inl rfl, rfl⟩
    · exact ⟨⟨#[13, 10]⟩, rfl, Or.inr rfl, rfl⟩
  case rest =>
    obtain ⟨E, rfl, hend, rfl⟩ := hcut
    have gE : (E.size : Int) ≤ 2 := by
      rw [Lib.size_eq]
      rcases hend with h | h <;> (rw [h]; decide)
    have HEND := Lib.hid hend
    clear hend hmin
    go_wp2_with fail
    go_loopg [11, 12, 13] N (fun m sv wu i wr => ∃ (k : Nat) (s : ByteArray) (wv : Value), wv = wu ∧ m = N - k ∧ k ≤ N ∧ sv = .string s ∧ i = .int .i64 (k : Int) ∧ (s.size : Int) ≤ 212 * (k : Int) ∧ Hid (Md w.heap.size E s k wv wr) ∧ Hid (Below w.heap.size w wr))
    case atStart => exact ⟨0, ⟨#[]⟩, _, rfl, rfl, Nat.zero_le _, rfl, rfl, by decide, Lib.hid (Md.start _ _ _), Lib.hid (Below.refl _ _)⟩
    case round =>
      obtain ⟨k, s, wv, rfl, rfl, hk, rfl, rfl, hs, HMD, HB⟩ := hrel
      have hks : (s.size : Int) ≤ 4240 := by omega
      by_cases hlt : k < N
      · have g1 : (k : Int) < (N : Int) := by omega
        have gk : k < 20 := by omega
        have f0 : (k : Int) < (n0 : Int) := by omega
        have f1 : (k : Int) < (n1 : Int) := by omega
        have f2 : (k : Int) < (n2 : Int) := by omega
        obtain ⟨p0, o0, rfl, q0, d0⟩ := HM.out.1 k (by rw [List.length_map, HL.out.1]; omega)
        obtain ⟨p1, o1, rfl, q1, d1⟩ := HM.out.2.1 k (by rw [List.length_map, HL.out.2.1]; omega)
        obtain ⟨p2, o2, rfl, q2, d2⟩ := HM.out.2.2 k (by rw [List.length_map, HL.out.2.2]; omega)
        rw [List.getElem_map] at d0 d1 d2
        generalize xs[k]'(by rw [HL.out.1]; omega) = X at d0
        generalize ys[k]'(by rw [HL.out.2.1]; omega) = Y at d1
        generalize bs[k]'(by rw [HL.out.2.2]; omega) = f at d2
        have HD2 := Lib.hid d2
        have e0 := (HB.out.cell (p := ⟨p0, o0 + k, none⟩) q0).trans d0
        have e1 := (HB.out.cell (p := ⟨p1, o1 + k, none⟩) q1).trans d1
        clear d0 d1 d2
        by_cases hx1 : X.size ≤ 100
        rotate_left 1
        · have g2 : (100 : Int) < (X.size : Int) := by omega
          clear hx1
          go_wp2_with fail
          refine (awake_any wr (HE.out.next HB.out)).mono ?_
          rintro e w2 ⟨rfl, hb2⟩
          go_wp2_with fail
          go_ret
          exact ⟨rfl, HB.out.trans (hb2.mono HB.out.size)⟩
        have g2 : ¬ (100 : Int) < (X.size : Int) := by omega
        by_cases hy1 : Y.size ≤ 100
        rotate_left 1
        · have g3 : (100 : Int) < (Y.size : Int) := by omega
          clear hy1
          go_wp2_with fail
          refine (awake_any wr (HE.out.next HB.out)).mono ?_
          rintro e w2 ⟨rfl, hb2⟩
          go_wp2_with fail
          go_ret
          exact ⟨rfl, HB.out.trans (hb2.mono HB.out.size)⟩
        have g3 : ¬ (100 : Int) < (Y.size : Int) := by omega
        have hX : Hid (X.size ≤ 100) := Lib.hid hx1
        have hY : Hid (Y.size ≤ 100) := Lib.hid hy1
        clear hx1 hy1
        go_upto_region 12 with fail
        go_cut [14, 15] from 31 to 85 (fun kv vv wx => ∃ K V : ByteArray, kv = .string K ∧ vv = .string V ∧ (K.size : Int) ≤ 100 ∧ (V.size : Int) ≤ 100 ∧ Hid (Good K.data.toList ∧ Good V.data.toList) ∧ Hid (Md w.heap.size E s k wv wx) ∧ Hid (Below w.heap.size w wx))
        case first =>
          go_quiet ((go_at_call 15; refine Calls.quiet_of_same (plain_100 _ _ (by assumption))))
          go_wp2_with fail
          go_meet
          exact ⟨_, _, rfl, rfl, plain_le hX.out, plain_le hY.out, Lib.hid ⟨plainB_good X, plainB_good Y⟩, Lib.hid (HMD.out.keep (fun _ _ => rfl)), Lib.hid (HB.out.trans ⟨rfl, rfl, rfl, Nat.le_refl _, fun _ _ => rfl⟩)⟩
        case rest =>
          obtain ⟨K, V, rfl, rfl, kK, kV, HG, HMD2, HB2⟩ := hcut
          have e2 := (HB2.out.cell (p := ⟨p2, o2 + k, none⟩) q2).trans HD2.out
          go_upto_if 70 with fail
          go_cut [11, 15] from 31 to 85 (fun sv vv wx => ∃ S V2 : ByteArray, sv = .string S ∧ vv = .string V2 ∧ (S.size : Int) ≤ (s.size : Int) + 210 ∧ Hid (S.data.toList ++ E.data.toList = s.data.toList ++ oneH E.data.toList (K.data.toList, V.data.toList, f) ∧ wantH (K.data.toList, V.data.toList, f) = (K.data.toList, V2.data.toList)) ∧ Hid (Md w.heap.size E s k wv wx) ∧ Hid (Below w.heap.size w wx))
          case first =>
            cases f
            · go_wp2_with fail
              go_meet
              exact ⟨_, _, rfl, rfl, size_no kK kV, Lib.hid ⟨round_no E s K V, want_no _ _⟩, HMD2, HB2⟩
            · go_wp2_with fail
              go_meet
              exact ⟨_, _, rfl, rfl, size_yes kK kV gE, Lib.hid ⟨round_yes E s K V, want_yes _ _⟩, HMD2, HB2⟩
          case rest =>
            obtain ⟨S, V2, rfl, rfl, gS, HR, HMD3, HB3⟩ := hcut
            obtain ⟨hs', hh1, hh2, hh3, hrow⟩ := HMD3.out
            obtain ⟨F, hF⟩ : ∃ F, hs'.map wantH = F := ⟨_, rfl⟩
            rw [hF] at hrow
            have HS : Hid (∀ (v' : Value) (w' : World), RowF w.heap.size v' (F ++ [(K.data.toList, V2.data.toList)]) w' → Md w.heap.size E (S ++ E) (k + 1) v' w') := Lib.hid (fun v' w' h => by
              refine ⟨hs' ++ [(K.data.toList, V.data.toList, f)], by rw [List.length_append, hh1]; rfl, ?_, ?_, ?_⟩
              · intro x hx
                rcases List.mem_append.1 hx with hx | hx
                · exact hh2 x hx
                · simp only [List.mem_singleton] at hx
                  rw [hx]
                  exact HG.out
              · rw [Joins.data_append, HR.out.1, hh3, allH_snoc]
              · rw [List.map_append, hF, List.map_singleton, HR.out.2]
                exact h)
            have HSE := Lib.hid (size_next hs gS gE)
            have HFL : Hid (F.length ≤ 1099511627776) := Lib.hid (by rw [← hF, List.length_map]; omega)
            have hrow3 : RowF w.heap.size wv F (wc.alloc (.cells #[.string K, .string V2] 35)) := hrow.below ((Below.refl _ wc).alloc (Nat.le_refl _) _)
            have hblk : (wc.alloc (.cells #[.string K, .string V2] 35)).heap[wc.heap.size]? = some (.cells #[sV K.data.toList, sV V2.data.toList] 35 (0, 0)) := Kit.fresh_block wc _ _
            have hB3 : w.heap.size ≤ (wc.alloc (.cells #[.string K, .string V2] 35)).heap.size := Nat.le_trans HB3.out.size (by simp)
            have HX := Lib.hid (And.intro hrow3 (And.intro hblk hB3))
            clear hrow3 hblk hB3 hrow hF hh1 hh2 hh3
            go_wp2_with (at_builtin; refine RowF.app rfl _ _ rfl w.heap.size _ wv F HX.out.1 (K.data.toList, V2.data.toList) wc.heap.size 1 HX.out.2.1 rfl rfl HFL.out HX.out.2.2 ?_)
            intro g5 c5 w5 hrow5 hg5 hat5
            have hb5 : Below w.heap.size w w5 := (HB3.out.alloc HB3.out.size _).grown hg5 HX.out.2.2 (fun j hj => (RowF.block HX.out.1 hj).1)
            have HM5 := Lib.hid (HS.out _ _ hrow5)
            have HB5 := Lib.hid hb5
            clear hrow5 hg5 hat5 hb5
            go_wp2_with fail
            go_roundg (N - (k + 1))
            case measure => omega
            case rel => exact ⟨k + 1, S ++ E, _, rfl, rfl, by omega, rfl, by go_num, HSE.out, HM5, HB5⟩
      · have g1 : ¬ (k : Int) < (N : Int) := by omega
        by_cases hb0 : body.size ≤ 1000
        rotate_left 1
        · have g2 : (1000 : Int) < (body.size : Int) := by omega
          clear hb0
          go_wp2_with fail
          refine (awake_any wr (HE.out.next HB.out)).mono ?_
          rintro e w2 ⟨rfl, hb2⟩
          go_wp2_with fail
          go_ret
          exact ⟨rfl, HB.out.trans (hb2.mono HB.out.size)⟩
        have g2 : ¬ (1000 : Int) < (body.size : Int) := by omega
        have kb : (body.size : Int) ≤ 1000 := by omega
        obtain ⟨hs', hh1, hh2, hh3, hrow⟩ := HMD.out
        have hd0 := made_split body HEND.out hh2 hh3
        have hd1 := made_split1 HEND.out hh2 hh3
        obtain ⟨F, hF⟩ : ∃ F, hs'.map wantH = F := ⟨_, rfl⟩
        rw [hF] at hrow hd0 hd1
        have HFL : Hid (F.length ≤ 140737488351232) := Lib.hid (by rw [← hF, List.length_map]; omega)
        have HD := Lib.hid (And.intro hd0 hd1)
        have HSZ := Lib.hid (size_all hks gE kb)
        have HROW := Lib.hid hrow
        clear hb0 hd0 hd1 hrow hF hh1 hh2 hh3
        go_wp2_with fail
        refine (split_any (s ++ E ++ body) 0 ((s.size : Int) + (E.size : Int) + (body.size : Int)) wr HSZ.out.1 (HE.out.next HB.out)).mono ?_
        rintro e w1 ⟨v1, rfl, hr1, hb1⟩
        rw [HD.out.1] at hr1 ⊢
        have A1 := Lib.hid (RowF.at hr1)
        have B1 := Lib.hid (HB.out.trans (hb1.mono HB.out.size))
        have W1 := Lib.hid (HROW.out.below hb1)
        clear hr1 hb1
        go_wp2_with fail
        refine (split_any (⟨#[120]⟩ ++ s) 1 ((s.size : Int) + 1) w1 HSZ.out.2 (HE.out.next B1.out)).mono ?_
        rintro e w2 ⟨v2, rfl, hr2, hb2⟩
        rw [HD.out.2] at hr2 ⊢
        have A2 := Lib.hid (RowF.at hr2)
        have A1' := Lib.hid (A1.out.below hb2)
        have B2 := Lib.hid (B1.out.trans (hb2.mono B1.out.size))
        have W2 := Lib.hid (RowF.at (W1.out.below hb2))
        clear hr2 hb2 A1 W1
        go_wp2_with fail
        refine (fields_any _ _ F F w2 A1'.out W2.out HFL.out).mono ?_
        rintro e w3 ⟨rfl, hb3⟩
        rw [show decide (F = F) = true by simp]
        have A3 := Lib.hid (A2.out.below hb3)
        have W3 := Lib.hid (W2.out.below hb3)
        have B3 := Lib.hid (B2.out.trans (hb3.mono B2.out.size))
        clear hb3
        go_wp2_with fail
        refine (fields_any _ _ F F w3 A3.out W3.out HFL.out).mono ?_
        rintro e w4 ⟨rfl, hb4⟩
        rw [show decide (F = F) = true by simp]
        have B4 := Lib.hid (B3.out.trans (hb4.mono B3.out.size))
        clear hb4
        go_wp2_with fail
        refine (awake_any w4 (HE.out.next B4.out)).mono ?_
        rintro e w5 ⟨rfl, hb5⟩
        go_wp2_with fail
        go_ret
        exact ⟨rfl, B4.out.trans (hb5.mono B4.out.size)⟩
end Go.Proofs.YtbhdopcegfdnnaaDoor.F0
