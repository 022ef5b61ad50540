/-
  The law AddrMade returns true: addresses that are put together, with names, quoted names, remarks, or alone, are found, in order. Condition: the bound of the library's search is some number.
-/
import Derived.Test.YtigamkdomdglhaaDoorAdAwake
import Derived.Test.YtigamkdomdglhaaDoorFStrs
namespace Go.Proofs.YtigamkdomdglhaaDoor.Ad
open Go Go.RowKit Go.Joins Kit J7 F0

def goodA (s : ByteArray) : Bool := s.data.toList.all (fun c => decide (97 ≤ c.toNat ∧ c.toNat ≤ 122)) && decide (s.size ≠ 0 ∧ s.size ≤ 50)
/-- The law's atom of a text. -/
def atomB (s : ByteArray) : ByteArray := if goodA s = true then s else ⟨#[120]⟩
theorem atomB_atm (s : ByteArray) : Atm (atomB s).data.toList := by
  unfold atomB
  split
  · rename_i h
    unfold goodA at h
    rw [Bool.and_eq_true, List.all_eq_true, decide_eq_true_iff] at h
    exact ⟨data_ne h.2.1, fun c hc => of_decide_eq_true (h.1 c hc)⟩
  · exact ⟨by decide, by decide⟩
theorem atomB_size (s : ByteArray) : ((atomB s).size : Int) ≤ 50 := by
  unfold atomB
  split
  · rename_i h
    unfold goodA at h
    rw [Bool.and_eq_true, decide_eq_true_iff] at h
    omega
  · decide
theorem atomB_bad {s : ByteArray} {k : Nat} (h : k < s.size) (hb : ¬ (97 ≤ s[k].toNat ∧ s[k].toNat ≤ 122)) : atomB s = ⟨#[120]⟩ := by
  have hl : k < s.data.toList.length := by rw [← Lib.size_eq]; exact h
  unfold atomB
  rw [if_neg]
  intro hg
  unfold goodA at hg
  rw [Bool.and_eq_true, List.all_eq_true] at hg
  have := hg.1 s.data.toList[k] (List.getElem_mem hl)
  rw [byte_get s k h] at this
  exact hb (of_decide_eq_true this)
theorem atomB_long {s : ByteArray} (h : ¬ (s.size ≠ 0 ∧ s.size ≤ 50)) : atomB s = ⟨#[120]⟩ := by
  unfold atomB
  rw [if_neg]
  intro hg
  unfold goodA at hg
  rw [Bool.and_eq_true, decide_eq_true_iff] at hg
  exact h hg.2
theorem atomB_good {s : ByteArray} (h : s.size ≠ 0 ∧ s.size ≤ 50) (hl : ∀ c ∈ s.data.toList, 97 ≤ c.toNat ∧ c.toNat ≤ 122) : atomB s = s := by
  unfold atomB
  rw [if_pos]
  unfold goodA
  rw [Bool.and_eq_true, List.all_eq_true, decide_eq_true_iff]
  exact ⟨fun c hc => decide_eq_true (hl c hc), h⟩
theorem lets_next {s : ByteArray} {k : Nat} (h : k < s.size) (hs : ∀ c ∈ s.data.toList.take k, 97 ≤ c.toNat ∧ c.toNat ≤ 122) (h1 : 97 ≤ s[k].toNat ∧ s[k].toNat ≤ 122) : ∀ c ∈ s.data.toList.take (k + 1), 97 ≤ c.toNat ∧ c.toNat ≤ 122 := by
  have hl : k < s.data.toList.length := by rw [← Lib.size_eq]; exact h
  rw [List.take_succ_eq_append_getElem hl, byte_get s k h]
  intro c hc
  rcases List.mem_append.1 hc with hc | hc
  · exact hs c hc
  · rw [List.mem_singleton] at hc
    rw [hc]
    exact h1

set_option maxHeartbeats 1000000 in
set_option maxRecDepth 100000 in
theorem atom_any (s : ByteArray) (w : World) (hs : Hid (s.size ≤ 9223372036854775807)) :
    Calls Tryd.prog 5 #[.string s] w fun e w' => e = .returned (.string (atomB s)) ∧ w' = w := by
  have hsz : (s.size : Int) ≤ 9223372036854775807 := by have := hs.out; omega
  clear hs
  go_enter Tryd.func5, Tryd.ntmps5
  go_wp2_with fail
  go_loop [3] (fun x => ∃ k : Nat, k ≤ s.size ∧ x = .int .i64 (k : Int) ∧ Hid (∀ c ∈ s.data.toList.take k, 97 ≤ c.toNat ∧ c.toNat ≤ 122)) (fun x => s.size - (intOf x).toNat)
  case atStart => exact ⟨0, Nat.zero_le _, rfl, Lib.hid (by rw [List.take_zero]; exact fun c hc => by cases hc)⟩
  case round =>
    obtain ⟨k, hk, rfl, HL⟩ := hrel
    by_cases hlt : k < s.size
    · have g0 : (k : Int) < (s.size : Int) := by omega
      by_cases h1 : 97 ≤ s[k].toNat
      rotate_left 1
      · have HA := Lib.hid (atomB_bad hlt (fun h => h1 h.1))
        have g1 : (s[k].toNat : Int) < 97 := by omega
        clear h1
        go_wp2_with fail
        go_ret
        rw [HA.out]
        exact ⟨rfl, rfl⟩
      by_cases h2 : s[k].toNat ≤ 122
      rotate_left 1
      · have HA := Lib.hid (atomB_bad hlt (fun h => h2 h.2))
        have g1 : ¬ (s[k].toNat : Int) < 97 := by omega
        have g2 : (122 : Int) < (s[k].toNat : Int) := by omega
        clear h1 h2
        go_wp2_with fail
        go_ret
        rw [HA.out]
        exact ⟨rfl, rfl⟩
      have HN := Lib.hid (lets_next hlt HL.out ⟨h1, h2⟩)
      have g1 : ¬ (s[k].toNat : Int) < 97 := by omega
      have g2 : ¬ (122 : Int) < (s[k].toNat : Int) := by omega
      clear h1 h2
      go_wp2_with fail
      go_round
      case rel => exact ⟨k + 1, by omega, by go_num, HN⟩
      case measure => simp [intOf]; omega
    · have g0 : ¬ (k : Int) < (s.size : Int) := by omega
      have hall : s.data.toList.take k = s.data.toList := List.take_of_length_le (by rw [← Lib.size_eq]; omega)
      have hl := HL.out
      rw [hall] at hl
      by_cases h0 : s.size = 0
      · have HA := Lib.hid (atomB_long (s := s) (fun h => h.1 h0))
        have g1 : s.toList = [] := toList_nil h0
        clear hall hl h0
        go_wp2_with fail
        go_ret
        rw [HA.out]
        exact ⟨rfl, rfl⟩
      have g1 : s.toList.isEmpty = false := toList_isEmpty h0
      by_cases h5 : s.size ≤ 50
      · have HA := Lib.hid (atomB_good ⟨h0, h5⟩ hl)
        have g2 : ¬ (50 : Int) < (s.size : Int) := by omega
        clear hall hl h0 h5
        go_wp2_with fail
        go_ret
        rw [HA.out]
        exact ⟨rfl, rfl⟩
      · have HA := Lib.hid (atomB_long (s := s) (fun h => h5 h.2))
        have g2 : (50 : Int) < (s.size : Int) := by omega
        clear hall hl h0 h5
        go_wp2_with fail
        go_ret
        rw [HA.out]
        exact ⟨rfl, rfl⟩
theorem min4 (P : Program) (a b c : Nat) : ∃ N : Nat, N ≤ a ∧ N ≤ b ∧ N ≤ c ∧ N ≤ 20 ∧ ∀ (ts : Array TypeId) (t : TypeId) (W : World), (Builtin.min_ ts t #[.int .i64 (a : Int), .int .i64 (b : Int), .int .i64 (c : Int), .int .i64 20]).run P W = .ok (.int .i64 (N : Int)) W := by
  refine ⟨min (min (min a b) c) 20, by omega, by omega, by omega, by omega, fun ts t W => ?_⟩
  have h : (if (20 : Int) < (if (c : Int) < (if (b : Int) < (a : Int) then (b : Int) else a) then (c : Int) else (if (b : Int) < (a : Int) then (b : Int) else a)) then (20 : Int) else (if (c : Int) < (if (b : Int) < (a : Int) then (b : Int) else a) then (c : Int) else (if (b : Int) < (a : Int) then (b : Int) else a))) = ((min (min (min a b) c) 20 : Nat) : Int) := by
    split <;> split <;> split <;> omega
  rw [← h]
  simp [Builtin.min_, Builtin.min2]
theorem ready_of {s : ByteArray} {T : List Ad3} {k : Nat} (h : Goes s.data.toList T ∧ T.length = k ∧ (k = 0 → s.data.toList = [])) (h0 : k = 0) : Ready s.data.toList T := by
  have hT : T = [] := List.eq_nil_of_length_eq_zero (by omega)
  rw [h.2.2 h0, hT]
  exact ready_nil
theorem ready_comma {s : ByteArray} {T : List Ad3} (h : Goes s.data.toList T) : Ready (s ++ ⟨#[44, 32]⟩ : ByteArray).data.toList T := by
  rw [Joins.data_append]
  exact h.ready
theorem group_of {s : ByteArray} {T : List Ad3} (h : Goes s.data.toList T) : docA ((⟨#[103, 114, 111, 117, 112, 58, 32]⟩ : ByteArray) ++ s ++ ⟨#[59]⟩).data.toList = T := by
  rw [Joins.data_append, Joins.data_append]
  exact h.group
theorem made_0 {S a b : ByteArray} {T : List Ad3} (h : Ready S.data.toList T) (_ : Atm a.data.toList) (hb : Atm b.data.toList) : Goes (S ++ b ++ ⟨#[64, 104, 46, 120]⟩ : ByteArray).data.toList (T ++ [((⟨#[]⟩ : ByteArray).data.toList, b.data.toList, [104, 46, 120])]) := by
  have := h.goes (does_0 hb)
  simpa using this
theorem msize_0 {S a b : ByteArray} {k : Nat} (h : (S.size : Int) ≤ 250 * (k : Int) + 2) (_ : (a.size : Int) ≤ 50) (hb : (b.size : Int) ≤ 50) : ((S ++ b ++ ⟨#[64, 104, 46, 120]⟩ : ByteArray).size : Int) ≤ 250 * ((k + 1 : Nat) : Int) := by
  rw [ByteArray.size_append, ByteArray.size_append, show (ByteArray.mk #[64, 104, 46, 120]).size = 4 from rfl]
  omega
theorem made_1 {S a b : ByteArray} {T : List Ad3} (h : Ready S.data.toList T) (ha : Atm a.data.toList) (hb : Atm b.data.toList) : Goes (S ++ a ++ ⟨#[32, 60]⟩ ++ b ++ ⟨#[64, 104, 62]⟩ : ByteArray).data.toList (T ++ [((a : ByteArray).data.toList, b.data.toList, [104])]) := by
  have := h.goes (does_1 ha hb)
  simpa using this
theorem msize_1 {S a b : ByteArray} {k : Nat} (h : (S.size : Int) ≤ 250 * (k : Int) + 2) (ha : (a.size : Int) ≤ 50) (hb : (b.size : Int) ≤ 50) : ((S ++ a ++ ⟨#[32, 60]⟩ ++ b ++ ⟨#[64, 104, 62]⟩ : ByteArray).size : Int) ≤ 250 * ((k + 1 : Nat) : Int) := by
  rw [ByteArray.size_append, ByteArray.size_append, ByteArray.size_append, ByteArray.size_append, show (ByteArray.mk #[32, 60]).size = 2 from rfl, show (ByteArray.mk #[64, 104, 62]).size = 3 from rfl]
  omega
theorem made_2 {S a b : ByteArray} {T : List Ad3} (h : Ready S.data.toList T) (ha : Atm a.data.toList) (hb : Atm b.data.toList) : Goes (S ++ ⟨#[34]⟩ ++ a ++ ⟨#[44, 32]⟩ ++ b ++ ⟨#[34, 32, 60]⟩ ++ b ++ ⟨#[64, 104, 62]⟩ : ByteArray).data.toList (T ++ [((a ++ ⟨#[44, 32]⟩ ++ b : ByteArray).data.toList, b.data.toList, [104])]) := by
  have := h.goes (does_2 ha hb)
  simpa using this
theorem msize_2 {S a b : ByteArray} {k : Nat} (h : (S.size : Int) ≤ 250 * (k : Int) + 2) (ha : (a.size : Int) ≤ 50) (hb : (b.size : Int) ≤ 50) : ((S ++ ⟨#[34]⟩ ++ a ++ ⟨#[44, 32]⟩ ++ b ++ ⟨#[34, 32, 60]⟩ ++ b ++ ⟨#[64, 104, 62]⟩ : ByteArray).size : Int) ≤ 250 * ((k + 1 : Nat) : Int) := by
  rw [ByteArray.size_append, ByteArray.size_append, ByteArray.size_append, ByteArray.size_append, ByteArray.size_append, ByteArray.size_append, ByteArray.size_append, show (ByteArray.mk #[34]).size = 1 from rfl, show (ByteArray.mk #[44, 32]).size = 2 from rfl, show (ByteArray.mk #[34, 32, 60]).size = 3 from rfl, show (ByteArray.mk #[64, 104, 62]).size = 3 from rfl]
  omega
theorem made_3 {S a b : ByteArray} {T : List Ad3} (h : Ready S.data.toList T) (ha : Atm a.data.toList) (hb : Atm b.data.toList) : Goes (S ++ a ++ ⟨#[32, 40, 114, 101, 44, 32, 40, 109, 97, 41, 32, 114, 107, 41, 32]⟩ ++ b ++ ⟨#[32, 60]⟩ ++ b ++ ⟨#[64, 104, 62]⟩ : ByteArray).data.toList (T ++ [((a ++ ⟨#[32]⟩ ++ b : ByteArray).data.toList, b.data.toList, [104])]) := by
  have := h.goes (does_3 ha hb)
  simpa using this
theorem msize_3 {S a b : ByteArray} {k : Nat} (h : (S.size : Int) ≤ 250 * (k : Int) + 2) (ha : (a.size : Int) ≤ 50) (hb : (b.size : Int) ≤ 50) : ((S ++ a ++ ⟨#[32, 40, 114, 101, 44, 32, 40, 109, 97, 41, 32, 114, 107, 41, 32]⟩ ++ b ++ ⟨#[32, 60]⟩ ++ b ++ ⟨#[64, 104, 62]⟩ : ByteArray).size : Int) ≤ 250 * ((k + 1 : Nat) : Int) := by
  rw [ByteArray.size_append, ByteArray.size_append, ByteArray.size_append, ByteArray.size_append, ByteArray.size_append, ByteArray.size_append, show (ByteArray.mk #[32, 40, 114, 101, 44, 32, 40, 109, 97, 41, 32, 114, 107, 41, 32]).size = 15 from rfl, show (ByteArray.mk #[32, 60]).size = 2 from rfl, show (ByteArray.mk #[64, 104, 62]).size = 3 from rfl]
  omega

set_option maxHeartbeats 8000000 in
set_option maxRecDepth 100000 in
theorem addrMade_walk (A0 : Option Addr) (n0 c0 : Nat) (xs : List ByteArray) (A1 : Option Addr) (n1 c1 : Nat) (ys : List ByteArray) (A2 : Option Addr) (n2 c2 : Nat) (hs : List Int) (w : World)
    (_l2 : hs.length = n2) (R2 : ∀ k, k < n2 → ∃ b off, A2 = some ⟨b, off, none⟩ ∧ b < w.heap.size ∧ w.cell? ⟨b, off + k, none⟩ = some (.int .u8 (hs.getD k 0))) (B2 : ∀ k, 0 ≤ hs.getD k 0 ∧ hs.getD k 0 ≤ 255)
    (l0 : xs.length = n0) (_b0 : n0 ≤ 9223372036854775807) (L0 : ListAt w A0 (xs.map .string)) (z0 : ∀ s ∈ xs, s.size ≤ 9223372036854775807) (l1 : ys.length = n1) (_b1 : n1 ≤ 9223372036854775807) (L1 : ListAt w A1 (ys.map .string)) (z1 : ∀ s ∈ ys, s.size ≤ 9223372036854775807) (hE : Srch.Env w) :
    Calls Tryd.prog 3 #[.slice A0 n0 c0, .slice A1 n1 c1, .slice A2 n2 c2] w fun e w' => e = .returned (.bool true) ∧ Below w.heap.size w w' := by
  have HE := Lib.hid hE
  have HL := Lib.hid (And.intro l0 l1)
  have HM := Lib.hid (And.intro L0 L1)
  have HR := Lib.hid (And.intro R2 B2)
  have HZ := Lib.hid (And.intro z0 z1)
  clear hE l0 l1 L0 L1 R2 B2 z0 z1
  obtain ⟨N, hN0, hN1, hN2, hN3, hmin⟩ := min4 Tryd.prog n0 n1 n2
  go_enter Tryd.func3, Tryd.ntmps3
  go_wp2_with fail
  clear hmin
  go_loopg [8, 9, 10] N (fun m sv wu i wr => ∃ (k : Nat) (s : ByteArray) (T : List Ad3) (wv : Value), wv = wu ∧ m = N - k ∧ k ≤ N ∧ sv = .string s ∧ i = .int .i64 (k : Int) ∧ (s.size : Int) ≤ 250 * (k : Int) ∧ Hid (Goes s.data.toList T ∧ T.length = k ∧ (k = 0 → s.data.toList = [])) ∧ Hid (RowA w.heap.size wv T wr) ∧ Hid (Below w.heap.size w wr))
  case atStart => exact ⟨0, ⟨#[]⟩, [], _, rfl, rfl, Nat.zero_le _, rfl, rfl, by decide, Lib.hid ⟨goes_nil, rfl, fun _ => rfl⟩, Lib.hid (World.ownsRow_nil _ _ _ _), Lib.hid (Below.refl _ _)⟩
  case round =>
    obtain ⟨k, s, T, wv, rfl, rfl, hk, rfl, rfl, hs0, HG, HROW, HB⟩ := hrel
    have hks : (s.size : Int) ≤ 5000 := by omega
    by_cases hlt : k < N
    · have g1 : (k : Int) < (N : Int) := by omega
      have gk : k < 20 := by omega
      have f0 : (k : Int) < (n0 : Int) := by omega
      have f1 : (k : Int) < (n1 : Int) := by omega
      have f2 : (k : Int) < (n2 : Int) := by omega
      obtain ⟨p0, o0, rfl, q0, d0⟩ := HM.out.1 k (by rw [List.length_map, HL.out.1]; omega)
      obtain ⟨p1, o1, rfl, q1, d1⟩ := HM.out.2 k (by rw [List.length_map, HL.out.2]; omega)
      obtain ⟨p2, o2, rfl, q2, d2⟩ := HR.out.1 k (by omega)
      have hb2 := HR.out.2 k
      rw [List.getElem_map] at d0 d1
      have hX : Hid ((xs[k]'(by rw [HL.out.1]; omega)).size ≤ 9223372036854775807) := Lib.hid (HZ.out.1 _ (List.getElem_mem _))
      have hY : Hid ((ys[k]'(by rw [HL.out.2]; omega)).size ≤ 9223372036854775807) := Lib.hid (HZ.out.2 _ (List.getElem_mem _))
      generalize xs[k]'(by rw [HL.out.1]; omega) = X at d0 hX
      generalize ys[k]'(by rw [HL.out.2]; omega) = Y at d1 hY
      obtain ⟨H, hH⟩ : ∃ H : Nat, hs.getD k 0 = (H : Int) := ⟨(hs.getD k 0).toNat, by omega⟩
      rw [hH] at d2 hb2
      have HD2 := Lib.hid d2
      have e0 := (HB.out.cell (p := ⟨p0, o0 + k, none⟩) q0).trans d0
      have e1 := (HB.out.cell (p := ⟨p1, o1 + k, none⟩) q1).trans d1
      clear d0 d1 d2 hH
      go_upto_region 7 with fail
      go_cut [11, 12] from 20 to 110 (fun av bv wx => ∃ a b : ByteArray, av = .string a ∧ bv = .string b ∧ (a.size : Int) ≤ 50 ∧ (b.size : Int) ≤ 50 ∧ Hid (Atm a.data.toList ∧ Atm b.data.toList) ∧ Hid (RowA w.heap.size wv T wx) ∧ Hid (Below w.heap.size w wx))
      case first =>
        go_quiet ((go_at_call 5; refine Calls.quiet_of_same (atom_any _ _ (by assumption))))
        go_wp2_with fail
        go_meet
        exact ⟨_, _, rfl, rfl, atomB_size X, atomB_size Y, Lib.hid ⟨atomB_atm X, atomB_atm Y⟩, Lib.hid (HROW.out.below (below_drewN (Below.refl _ _) _)), Lib.hid (below_drewN HB.out _)⟩
      case rest =>
        obtain ⟨a, b, rfl, rfl, ka, kb, HAT, HROW2, HB2⟩ := hcut
        clear e0 e1 hX hY HROW HB
        have e2 := (HB2.out.cell (p := ⟨p2, o2 + k, none⟩) q2).trans HD2.out
        go_upto_if 36 with fail
        go_cut [8] from 20 to 110 (fun sv wx => ∃ S : ByteArray, sv = .string S ∧ (S.size : Int) ≤ (s.size : Int) + 2 ∧ Hid (Ready S.data.toList T) ∧ wc = wx)
        case first =>
          by_cases h0 : k = 0
          · have g3 : ¬ (0 : Int) < (k : Int) := by omega
            have HRD := Lib.hid (ready_of HG.out h0)
            clear h0
            go_wp2_with fail
            go_meet
            exact ⟨s, rfl, by omega, HRD, rfl⟩
          · have g3 : (0 : Int) < (k : Int) := by omega
            have HRD := Lib.hid (ready_comma HG.out.1)
            clear h0
            go_wp2_with fail
            go_meet
            exact ⟨_, rfl, by rw [ByteArray.size_append, show (ByteArray.mk #[44, 32]).size = 2 from rfl]; omega, HRD, rfl⟩
        case rest =>
          obtain ⟨S, rfl, kS, HRD, rfl⟩ := hcut
          have kS2 : (S.size : Int) ≤ 5002 := by omega
          have HT := Lib.hid HG.out.2.1
          have HTL : Hid (T.length ≤ 1099511627776) := Lib.hid (by rw [HT.out]; omega)
          have er : (H : Int).tmod 4 = (H : Int) % 4 := Int.tmod_eq_emod_of_nonneg (by omega)
          have hcase : (H : Int) % 4 = 0 ∨ (H : Int) % 4 = 1 ∨ (H : Int) % 4 = 2 ∨ (H : Int) % 4 = 3 := by omega
          clear HG HD2
          rcases hcase with h4 | h4 | h4 | h4
          · have HGO := Lib.hid (made_0 HRD.out HAT.out.1 HAT.out.2)
            have HSZ := Lib.hid (msize_0 (S := S) (k := k) (by omega) ka kb)
            have hblk := Kit.fresh_block wc #[.string (⟨#[]⟩ : ByteArray), .string b, .string ⟨#[104, 46, 120]⟩] 27
            have hrow3 := HROW2.out.below (w' := wc.alloc (.cells #[.string (⟨#[]⟩ : ByteArray), .string b, .string ⟨#[104, 46, 120]⟩] 27)) ((Below.refl _ wc).alloc (Nat.le_refl _) _)
            have HX := Lib.hid (And.intro hrow3 (And.intro hblk (show w.heap.size ≤ (wc.alloc (.cells #[.string (⟨#[]⟩ : ByteArray), .string b, .string ⟨#[104, 46, 120]⟩] 27)).heap.size from Nat.le_trans HB2.out.size (by simp))))
            clear hblk hrow3
            go_wp2_with (at_builtin; refine addrs_app rfl _ _ rfl w.heap.size _ HX.out.1 HX.out.2.2 ((⟨#[]⟩ : ByteArray).data.toList, b.data.toList, [104, 46, 120]) wc.heap.size 1 HX.out.2.1 rfl rfl HTL.out ?_)
            intro g5 c5 w5 hrow5 hg5
            have hb5 : Below w.heap.size w w5 := (HB2.out.alloc HB2.out.size _).grown hg5 HX.out.2.2 (fun j hj => (row_block HX.out.1 hj).1)
            have HR5 : Hid (RowA w.heap.size (.slice (some ⟨g5, 0, none⟩) (T.length + 1) c5) (T ++ [((⟨#[]⟩ : ByteArray).data.toList, b.data.toList, [104, 46, 120])]) w5) := Lib.hid (by unfold RowA; rw [List.length_append]; exact hrow5)
            have HB5 := Lib.hid hb5
            have HT5 : Hid ((T ++ [((⟨#[]⟩ : ByteArray).data.toList, b.data.toList, [104, 46, 120])]).length = k + 1) := Lib.hid (by rw [List.length_append, HT.out]; rfl)
            clear hrow5 hg5 hb5
            go_wp2_with fail
            go_roundg (N - (k + 1))
            case measure => omega
            case rel => exact ⟨k + 1, _, _, _, rfl, rfl, by omega, rfl, by go_num, HSZ.out, Lib.hid ⟨HGO.out, HT5.out, fun h => absurd h (Nat.succ_ne_zero k)⟩, HR5, HB5⟩
          · have HGO := Lib.hid (made_1 HRD.out HAT.out.1 HAT.out.2)
            have HSZ := Lib.hid (msize_1 (S := S) (k := k) (by omega) ka kb)
            have hblk := Kit.fresh_block wc #[.string a, .string b, .string ⟨#[104]⟩] 27
            have hrow3 := HROW2.out.below (w' := wc.alloc (.cells #[.string a, .string b, .string ⟨#[104]⟩] 27)) ((Below.refl _ wc).alloc (Nat.le_refl _) _)
            have HX := Lib.hid (And.intro hrow3 (And.intro hblk (show w.heap.size ≤ (wc.alloc (.cells #[.string a, .string b, .string ⟨#[104]⟩] 27)).heap.size from Nat.le_trans HB2.out.size (by simp))))
            clear hblk hrow3
            go_wp2_with (at_builtin; refine addrs_app rfl _ _ rfl w.heap.size _ HX.out.1 HX.out.2.2 ((a : ByteArray).data.toList, b.data.toList, [104]) wc.heap.size 1 HX.out.2.1 rfl rfl HTL.out ?_)
            intro g5 c5 w5 hrow5 hg5
            have hb5 : Below w.heap.size w w5 := (HB2.out.alloc HB2.out.size _).grown hg5 HX.out.2.2 (fun j hj => (row_block HX.out.1 hj).1)
            have HR5 : Hid (RowA w.heap.size (.slice (some ⟨g5, 0, none⟩) (T.length + 1) c5) (T ++ [((a : ByteArray).data.toList, b.data.toList, [104])]) w5) := Lib.hid (by unfold RowA; rw [List.length_append]; exact hrow5)
            have HB5 := Lib.hid hb5
            have HT5 : Hid ((T ++ [((a : ByteArray).data.toList, b.data.toList, [104])]).length = k + 1) := Lib.hid (by rw [List.length_append, HT.out]; rfl)
            clear hrow5 hg5 hb5
            go_wp2_with fail
            go_roundg (N - (k + 1))
            case measure => omega
            case rel => exact ⟨k + 1, _, _, _, rfl, rfl, by omega, rfl, by go_num, HSZ.out, Lib.hid ⟨HGO.out, HT5.out, fun h => absurd h (Nat.succ_ne_zero k)⟩, HR5, HB5⟩
          · have HGO := Lib.hid (made_2 HRD.out HAT.out.1 HAT.out.2)
            obtain ⟨M, hM⟩ : ∃ M, (a ++ ⟨#[44, 32]⟩ ++ b : ByteArray) = M := ⟨_, rfl⟩
            rw [hM] at HGO
            have HSZ := Lib.hid (msize_2 (S := S) (k := k) (by omega) ka kb)
            have hblk := Kit.fresh_block wc #[.string M, .string b, .string ⟨#[104]⟩] 27
            have hrow3 := HROW2.out.below (w' := wc.alloc (.cells #[.string M, .string b, .string ⟨#[104]⟩] 27)) ((Below.refl _ wc).alloc (Nat.le_refl _) _)
            have HX := Lib.hid (And.intro hrow3 (And.intro hblk (show w.heap.size ≤ (wc.alloc (.cells #[.string M, .string b, .string ⟨#[104]⟩] 27)).heap.size from Nat.le_trans HB2.out.size (by simp))))
            clear hblk hrow3
            go_wp2_with (at_builtin; refine addrs_app rfl _ _ rfl w.heap.size _ HX.out.1 HX.out.2.2 (M.data.toList, b.data.toList, [104]) wc.heap.size 1 HX.out.2.1 rfl rfl HTL.out ?_)
            intro g5 c5 w5 hrow5 hg5
            clear hM
            have hb5 : Below w.heap.size w w5 := (HB2.out.alloc HB2.out.size _).grown hg5 HX.out.2.2 (fun j hj => (row_block HX.out.1 hj).1)
            have HR5 : Hid (RowA w.heap.size (.slice (some ⟨g5, 0, none⟩) (T.length + 1) c5) (T ++ [(M.data.toList, b.data.toList, [104])]) w5) := Lib.hid (by unfold RowA; rw [List.length_append]; exact hrow5)
            have HB5 := Lib.hid hb5
            have HT5 : Hid ((T ++ [(M.data.toList, b.data.toList, [104])]).length = k + 1) := Lib.hid (by rw [List.length_append, HT.out]; rfl)
            clear hrow5 hg5 hb5
            go_wp2_with fail
            go_roundg (N - (k + 1))
            case measure => omega
            case rel => exact ⟨k + 1, _, _, _, rfl, rfl, by omega, rfl, by go_num, HSZ.out, Lib.hid ⟨HGO.out, HT5.out, fun h => absurd h (Nat.succ_ne_zero k)⟩, HR5, HB5⟩
          · have HGO := Lib.hid (made_3 HRD.out HAT.out.1 HAT.out.2)
            obtain ⟨M, hM⟩ : ∃ M, (a ++ ⟨#[32]⟩ ++ b : ByteArray) = M := ⟨_, rfl⟩
            rw [hM] at HGO
            have HSZ := Lib.hid (msize_3 (S := S) (k := k) (by omega) ka kb)
            have hblk := Kit.fresh_block wc #[.string M, .string b, .string ⟨#[104]⟩] 27
            have hrow3 := HROW2.out.below (w' := wc.alloc (.cells #[.string M, .string b, .string ⟨#[104]⟩] 27)) ((Below.refl _ wc).alloc (Nat.le_refl _) _)
            have HX := Lib.hid (And.intro hrow3 (And.intro hblk (show w.heap.size ≤ (wc.alloc (.cells #[.string M, .string b, .string ⟨#[104]⟩] 27)).heap.size from Nat.le_trans HB2.out.size (by simp))))
            clear hblk hrow3
            go_wp2_with (at_builtin; refine addrs_app rfl _ _ rfl w.heap.size _ HX.out.1 HX.out.2.2 (M.data.toList, b.data.toList, [104]) wc.heap.size 1 HX.out.2.1 rfl rfl HTL.out ?_)
            intro g5 c5 w5 hrow5 hg5
            clear hM
            have hb5 : Below w.heap.size w w5 := (HB2.out.alloc HB2.out.size _).grown hg5 HX.out.2.2 (fun j hj => (row_block HX.out.1 hj).1)
            have HR5 : Hid (RowA w.heap.size (.slice (some ⟨g5, 0, none⟩) (T.length + 1) c5) (T ++ [(M.data.toList, b.data.toList, [104])]) w5) := Lib.hid (by unfold RowA; rw [List.length_append]; exact hrow5)
            have HB5 := Lib.hid hb5
            have HT5 : Hid ((T ++ [(M.data.toList, b.data.toList, [104])]).length = k + 1) := Lib.hid (by rw [List.length_append, HT.out]; rfl)
            clear hrow5 hg5 hb5
            go_wp2_with fail
            go_roundg (N - (k + 1))
            case measure => omega
            case rel => exact ⟨k + 1, _, _, _, rfl, rfl, by omega, rfl, by go_num, HSZ.out, Lib.hid ⟨HGO.out, HT5.out, fun h => absurd h (Nat.succ_ne_zero k)⟩, HR5, HB5⟩
    · have g1 : ¬ (k : Int) < (N : Int) := by omega
      have HD1 := Lib.hid (Goes.doc HG.out.1)
      have hg := group_of HG.out.1
      have hgs : ((⟨#[103, 114, 111, 117, 112, 58, 32]⟩ : ByteArray) ++ s ++ ⟨#[59]⟩).size ≤ 1000000 := by
        rw [ByteArray.size_append, ByteArray.size_append, show (ByteArray.mk #[103, 114, 111, 117, 112, 58, 32]).size = 7 from rfl, show (ByteArray.mk #[59]).size = 1 from rfl]
        omega
      have HTL : Hid (T.length ≤ 1000000000) := Lib.hid (by rw [HG.out.2.1]; omega)
      obtain ⟨C, hC⟩ : ∃ C, (⟨#[103, 114, 111, 117, 112, 58, 32]⟩ : ByteArray) ++ s ++ ⟨#[59]⟩ = C := ⟨_, rfl⟩
      rw [hC] at hg hgs
      have HCC := Lib.hid hC
      have HD2 := Lib.hid hg
      have HCS := Lib.hid hgs
      clear hC hg hgs HG
      go_wp2_with fail
      refine (list_any s wr (by omega) (HE.out.next HB.out)).mono ?_
      rintro e w1 ⟨v1, rfl, hr1, hb1⟩
      rw [HD1.out] at hr1
      have B1 := Lib.hid (HB.out.trans (hb1.mono HB.out.size))
      have R1 := Lib.hid (RowA.at hr1)
      have W1 := Lib.hid (RowA.at (HROW.out.below hb1))
      clear hr1 hb1
      go_wp2_with fail
      refine (same_any _ _ _ _ R1.out W1.out HTL.out).mono ?_
      rintro e w2 ⟨rfl, hb2⟩
      have B2 := Lib.hid (B1.out.trans (hb2.mono B1.out.size))
      have W2 := Lib.hid (W1.out.below hb2)
      clear hb2 R1 W1
      go_wp2_with fail
      rw [HCC.out]
      refine (list_any C w2 HCS.out (HE.out.next B2.out)).mono ?_
      rintro e w3 ⟨v3, rfl, hr3, hb3⟩
      rw [HD2.out] at hr3
      have B3 := Lib.hid (B2.out.trans (hb3.mono B2.out.size))
      have R3 := Lib.hid (RowA.at hr3)
      have W3 := Lib.hid (W2.out.below hb3)
      clear hr3 hb3 W2
      go_wp2_with fail
      refine (same_any _ _ _ _ R3.out W3.out HTL.out).mono ?_
      rintro e w4 ⟨rfl, hb4⟩
      have B4 := Lib.hid (B3.out.trans (hb4.mono B3.out.size))
      clear hb4 R3 W3
      go_wp2_with fail
      refine (awake_any w4 (HE.out.next B4.out)).mono ?_
      rintro e w5 ⟨rfl, hb5⟩
      go_wp2_with fail
      go_ret
      exact ⟨rfl, B4.out.trans (hb5.mono B4.out.size)⟩
end Go.Proofs.YtigamkdomdglhaaDoor.Ad
