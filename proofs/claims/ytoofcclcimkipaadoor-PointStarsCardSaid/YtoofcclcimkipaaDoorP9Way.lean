/-
  Stage 9: the program's isPointer, plain, the closure that cuts parts off, parts, place, follow, followEach. Conditions: as each text within says.
-/
import Derived.Test.YtoofcclcimkipaaDoorTxPlain
import Derived.Test.YtoofcclcimkipaaDoorEnv
import Derived.Test.YtoofcclcimkipaaDoorJ9Ref
import Derived.Test.YtoofcclcimkipaaDoorJ8Same
import Derived.Test.YtoofcclcimkipaaDoorJ8Rows
import Derived.Lib.AtoiAll
import Derived.Lib.AppendIntMem
import Derived.Shelf.Vars
import Derived.WalkSmall
import Derived.Deep.RegionWith
namespace Go.Proofs.YtoofcclcimkipaaDoor.J9
open Go Tx

theorem acc_le : ∀ (l : List UInt8) (acc u : Nat), numFrom l acc = some u → acc ≤ u
  | [], acc, u, h => by
    rw [numFrom] at h
    injection h with h
    omega
  | c :: r, acc, u, h => by
    rw [numFrom] at h
    split at h
    · have := acc_le r _ u h
      omega
    · cases h
theorem digits_on : ∀ (r : List UInt8) (acc u : Nat), 1 ≤ acc → numFrom r acc = some u → Lib.decDigits u = Lib.decDigits acc ++ r
  | [], acc, u, _, h => by
    rw [numFrom] at h
    injection h with h
    rw [h, List.append_nil]
  | c :: r, acc, u, ha, h => by
    rw [numFrom] at h
    split at h
    · rename_i hd
      have hc := (isDig_iff c).1 hd
      have ih := digits_on r _ u (by omega) h
      have h10 : ¬ acc * 10 + (c.toNat - 48) < 10 := by omega
      have e1 : (acc * 10 + (c.toNat - 48)) / 10 = acc := by omega
      have e2 : (acc * 10 + (c.toNat - 48)) % 10 = c.toNat - 48 := by omega
      have e3 : UInt8.ofNat (48 + (c.toNat - 48)) = c := by
        rw [show 48 + (c.toNat - 48) = c.toNat by omega]
        exact UInt8.ofNat_toNat
      rw [ih, Lib.decDigits, dif_neg h10, e1, e2, e3, List.append_assoc]
      rfl
    · cases h
theorem num_open {l : List UInt8} {u : Nat} (h : numL l = some u) : l ≠ [] ∧ ¬ (l.head? = some 48 ∧ 1 < l.length) ∧ numFrom l 0 = some u ∧ u ≤ 4294967295 := by
  unfold numL at h
  split at h
  · cases h
  · rename_i h0
    refine ⟨fun e => h0 (Or.inl e), fun e => h0 (Or.inr (Or.inr e)), ?_⟩
    cases hf : numFrom l 0 with
    | none => rw [hf] at h; cases h
    | some n =>
      rw [hf] at h
      simp only at h
      split at h
      · injection h with h
        subst h
        rename_i hn
        exact ⟨rfl, hn⟩
      · cases h
/-- The digits that tell a number are its digits. -/
theorem num_is {l : List UInt8} {u : Nat} (h : numL l = some u) : Lib.decDigits u = l := by
  obtain ⟨h0, h1, h2, _⟩ := num_open h
  match l, h0 with
  | c :: r, _ =>
    rw [numFrom] at h2
    split at h2
    · rename_i hd
      have hc := (isDig_iff c).1 hd
      have e3 : UInt8.ofNat (48 + (c.toNat - 48)) = c := by
        rw [show 48 + (c.toNat - 48) = c.toNat by omega]
        exact UInt8.ofNat_toNat
      by_cases hz : c = 48
      · subst hz
        have hr : r = [] := by
          rcases r with _ | ⟨d, r⟩
          · rfl
          · exact absurd ⟨rfl, by simp⟩ h1
        subst hr
        rw [numFrom] at h2
        injection h2 with h2
        subst h2
        rw [Lib.decDigits_one (by decide)]
        rfl
      · have hz2 : c.toNat ≠ 48 := fun e => hz (UInt8.toNat_inj.1 e)
        rw [digits_on r _ u (by omega) h2, Lib.decDigits_one (by omega), Nat.zero_mul, Nat.zero_add, e3]
        rfl
    · cases h2
theorem itoa_of_num {l : List UInt8} {u : Nat} (h : numL l = some u) : Lib.itoa (u : Int) = l := by
  have h1 := num_is h
  unfold Lib.itoa
  rw [if_neg (by omega)]
  simpa using h1
theorem parse_of : ∀ (l : List UInt8) (acc u : Nat), u ≤ 4294967295 → numFrom l acc = some u → Lib.parseUint10 acc l = .ok u
  | [], acc, u, _, h => by
    rw [numFrom] at h
    injection h with h
    rw [h]
    rfl
  | c :: r, acc, u, hu, h => by
    have h0 := acc_le _ _ _ h
    rw [numFrom] at h
    split at h
    · rename_i hd
      have hc := (isDig_iff c).1 hd
      have h1 := acc_le _ _ _ h
      rw [Lib.parseUint10, if_pos hc, if_neg (by omega), if_neg (by omega)]
      exact parse_of r _ u hu h
    · cases h
/-- What the document reads as a number the library reads as it. -/
theorem atoi_of_num {l : List UInt8} {u : Nat} (h : numL l = some u) : Lib.atoiAll l = .ok (u : Int) := by
  obtain ⟨h0, _, h2, h3⟩ := num_open h
  match l, h0 with
  | c :: r, _ =>
    have hp := parse_of _ _ _ h3 h2
    have hc : 48 ≤ c.toNat ∧ c.toNat ≤ 57 := by
      rw [numFrom] at h2
      split at h2
      · rename_i hd
        exact (isDig_iff c).1 hd
      · cases h2
    unfold Lib.atoiAll
    simp only
    rw [if_neg (by omega)]
    unfold Lib.parseMag
    rw [if_neg (by simp), hp]
    simp only
    rw [if_neg (by omega), if_neg (by omega), if_neg (by omega)]
theorem num_of_itoa {l : List UInt8} {v : Int} (h0 : 0 ≤ v) (h1 : v ≤ 4294967295) (h : Lib.itoa v = l) : numL l = some v.toNat := by
  rw [← h]
  unfold Lib.itoa
  rw [if_neg (by omega)]
  have e : v.natAbs = v.toNat := by omega
  first
  | rw [e]; exact num_digits (by omega)
  | exact num_digits (by omega)
end Go.Proofs.YtoofcclcimkipaaDoor.J9
namespace Go.Proofs.YtoofcclcimkipaaDoor.J9
open Go Go.RowKit Go.Joins Kit Go.Sort

structure EnvP (w : World) : Prop where
  tab : ∀ w', Below w.heap.size w w' → Lib.TabIs Tryd.prog w' "internal/strconv.uint64pow10" .u64 Lib.pow10Tab
  max : Srch.Env w
  syn : ∀ w', Below w.heap.size w w' → ∃ tp p, w'.cell? ⟨1, 0, none⟩ = some (.iface tp p)
  rng : ∀ w', Below w.heap.size w w' → ∃ tp p, w'.cell? ⟨2, 0, none⟩ = some (.iface tp p)
theorem EnvP.next {w w1 : World} (h : EnvP w) (hb : Below w.heap.size w w1) : EnvP w1 where
  tab := fun w' hb' => h.tab w' (hb.trans (hb'.mono hb.size))
  max := h.max.next hb
  syn := fun w' hb' => h.syn w' (hb.trans (hb'.mono hb.size))
  rng := fun w' hb' => h.rng w' (hb.trans (hb'.mono hb.size))
theorem below_grow {B : Nat} {w : World} (os : Array Obj) (h : B ≤ w.heap.size) : Below B w (grow w os) :=
  ⟨rfl, rfl, rfl, by simp, fun k hk => by simp only [grow]; rw [Array.getElem?_append_left (by omega)]⟩
theorem itoa9 (n : Int) (h0 : -9223372036854775808 ≤ n) (h1 : n ≤ 9223372036854775807) (w : World) (hE : EnvP w) :
    Calls Tryd.prog 45 #[.int .i64 n] w fun e w' => e = .returned (.string ⟨(Lib.itoa n).toArray⟩) ∧ Below w.heap.size w w' := by
  refine (Tryd.strconv_Itoa n h0 h1 w (hE.tab _ (Below.refl _ _))).mono ?_
  rintro e w' ⟨rfl, k, os, rfl⟩
  exact ⟨rfl, (below_drewN (Below.refl _ _) k).trans (below_grow os (Nat.le_refl _))⟩
/-- The number that a text says, and no error; or some number, and an error. -/
theorem atoi9 (s : ByteArray) (hs : s.size ≤ 1000) (w : World) (hE : EnvP w) :
    Calls Tryd.prog 44 #[.string s] w fun e w' => ((∃ v, Lib.atoiAll s.data.toList = .ok v ∧ e = .returned (.tuple #[.int .i64 v, .nilIface])) ∨ ∃ v tp p, (∀ u, Lib.atoiAll s.data.toList ≠ .ok u) ∧ e = .returned (.tuple #[.int .i64 v, .iface tp p])) ∧ Below w.heap.size w w' := by
  cases h : Lib.atoiAll s.data.toList with
  | ok v =>
    refine (Tryd.strconv_Atoi_ok s (by omega) v h w).mono ?_
    rintro e w' ⟨rfl, hw⟩
    refine ⟨Or.inl ⟨v, rfl, rfl⟩, ?_⟩
    rcases hw with rfl | ⟨t, rfl⟩
    · exact Below.refl _ _
    · exact Lib.bytesWorld_below _ _ _
  | range =>
    obtain ⟨tp, p, hc⟩ := hE.rng w (Below.refl _ _)
    refine (Tryd.strconv_Atoi_range s (by omega) h _ w hc (Or.inr ⟨tp, p, rfl⟩)).mono ?_
    rintro e w' ⟨N, rfl, _, _, hb⟩
    exact ⟨Or.inr ⟨_, _, _, fun u hu => (by cases hu), rfl⟩, hb⟩
  | _ =>
    obtain ⟨tp, p, hc⟩ := hE.syn w (Below.refl _ _)
    have hcall : Calls Tryd.prog 44 #[.string s] w fun e w' => ∃ N, e = .returned (.tuple #[.int .i64 0, .iface 90 (.pointer (some ⟨N, 0, none⟩))]) ∧ w.heap.size ≤ N ∧ w'.heap[N]? = some (.cells #[.string ⟨#[65, 116, 111, 105]⟩, .string s, .iface tp p] 102 (0, 0)) ∧ Below w.heap.size w w' := Any.strconv_Atoi_syntax Tryd.laysC172 s (by omega) h _ w hc (Or.inr ⟨tp, p, rfl⟩)
    refine hcall.mono ?_
    rintro e w' ⟨N, rfl, _, _, hb⟩
    exact ⟨Or.inr ⟨_, _, _, fun u hu => (by cases hu), rfl⟩, hb⟩
theorem tls_count (l : List UInt8) : Lib.countByte l 126 = tls l := by rw [← count_tls, Lib.count_one]; rfl
/-- How often a byte stands there. -/
theorem count9 (s : ByteArray) (w : World) : Calls Tryd.prog 28 #[.string s, .string ⟨#[126]⟩] w fun e w' => e = .returned (.int .i64 (tls s.data.toList : Nat)) ∧ w = w' := by
  refine (Tryd.strings_Count_one s 126 w).mono ?_
  rintro e w' ⟨rfl, rfl⟩
  refine ⟨?_, rfl⟩
  rw [tls_count]
theorem count92 (s : ByteArray) (d : UInt8) (hd : d ≠ 126) (hs : s.size ≤ 1000) (w : World) (hE : EnvP w) : Calls Tryd.prog 28 #[.string s, .string ⟨#[126, d]⟩] w fun e w' => e = .returned (.int .i64 (prs d s.data.toList : Nat)) ∧ w = w' := by
  obtain ⟨m, hm⟩ := hE.max.max w (Below.refl _ _)
  refine (Tryd.strings_Count s ⟨#[126, d]⟩ m w (by omega) hm (by show 2 ≤ 2; decide)).mono ?_
  rintro e w' ⟨rfl, rfl⟩
  refine ⟨?_, rfl⟩
  rw [← count_prs d hd]; rfl
theorem repl9 (d x : UInt8) (s : ByteArray) (hs : s.size ≤ 1000) (w : World) (hE : EnvP w) :
    Calls Tryd.prog 57 #[.string s, .string ⟨#[126, d]⟩, .string ⟨#[x]⟩] w fun e w' => e = .returned (.string ⟨(rpl (sg d) [x] s.data.toList).toArray⟩) ∧ Below w.heap.size w w' := by
  obtain ⟨m, hm⟩ := hE.max.max w (Below.refl _ _)
  have hc := Lib.countB_le ⟨#[126, d]⟩ (by show 1 ≤ 2; decide) s.size s (Nat.le_refl _)
  refine (Tryd.strings_ReplaceAll s ⟨#[126, d]⟩ ⟨#[x]⟩ m w (by omega) hm (by show 1 ≤ 2; decide) (by show s.size + Lib.countB s ⟨#[126, d]⟩ * 1 ≤ _; omega)).mono ?_
  rintro e w' ⟨rfl, hb⟩
  refine ⟨?_, hb⟩
  rw [show (ByteArray.mk #[126, d]).data.toList = sg d from rfl, show (ByteArray.mk #[x]).data.toList = [x] from rfl, rpl_all _ _ _ (by simp [sg])]
end Go.Proofs.YtoofcclcimkipaaDoor.J9
namespace Go.Proofs.YtoofcclcimkipaaDoor.J9
open Go Go.RowKit Go.Joins Kit J7 J8

theorem size_data (s : ByteArray) : s.data.toList.length = s.size := (Lib.size_eq s).symm
set_option maxHeartbeats 1000000 in
set_option maxRecDepth 100000 in
theorem plain9 (s : ByteArray) (hs : s.size ≤ 1000) (hok : okT s.data.toList = true) (w : World) (hE : EnvP w) :
    Calls Tryd.prog 48 #[.string s] w fun e w' => e = .returned (.string ⟨(unesc s.data.toList).toArray⟩) ∧ Below w.heap.size w w' := by
  have h1 := repl9 49 47 s hs w hE
  have hl := rpl_len [47] 49 rfl s.data.toList
  rw [size_data] at hl
  obtain ⟨s2, hs2⟩ : ∃ s2 : ByteArray, (⟨(rpl (sg 49) [47] s.data.toList).toArray⟩ : ByteArray) = s2 := ⟨_, rfl⟩
  have hd2 : s2.data.toList = rpl (sg 49) [47] s.data.toList := by rw [← hs2]
  rw [hs2] at h1
  have hz2 : s2.size ≤ 1000 := by rw [Lib.size_eq, hd2]; omega
  have HE := Lib.hid hE
  have HU : Hid (rpl (sg 48) [126] s2.data.toList = unesc s.data.toList) := Lib.hid (by rw [hd2]; exact put_back _ hok)
  clear hd2 hs2 hok hl hE
  go_enter Tryd.func48, Tryd.ntmps48
  go_wp2_with fail
  refine h1.mono ?_
  rintro e w1 ⟨rfl, hb1⟩
  go_wp2_with fail
  refine (repl9 48 126 s2 hz2 w1 (HE.out.next hb1)).mono ?_
  rintro e w2 ⟨rfl, hb2⟩
  rw [HU.out]
  go_wp2_with fail
  go_ret
  exact ⟨rfl, hb1.trans (hb2.mono hb1.size)⟩

/-- The part of a path that isPointer tells. -/
def pathOk (x : ByteArray) : Bool := decide (x.size ≤ 1000) && (decide (x = ⟨#[]⟩) || decide (x.data.toList.head? = some 47)) && okT x.data.toList
theorem byte_ne9 {c d : UInt8} (h : c ≠ d) : ((c.toNat : Int) == (d.toNat : Int)) = false := by rw [beq_eq_false_iff_ne]; exact fun e => h (byte_eq e)
set_option maxHeartbeats 2000000 in
set_option maxRecDepth 100000 in
theorem pointer9 (x : ByteArray) (w : World) (hE : EnvP w) :
    Calls Tryd.prog 20 #[.string x] w fun e w' => e = .returned (.bool (pathOk x)) ∧ w = w' := by
  by_cases hz : x.size ≤ 1000
  rotate_left 1
  · have g0 : (1000 : Int) < (x.size : Int) := by omega
    rw [show pathOk x = false by unfold pathOk; rw [decide_eq_false hz]; rfl]
    go_enter Tryd.func20, Tryd.ntmps20
    go_wp2_with fail
    go_ret
    exact ⟨rfl, rfl⟩
  have g0 : ¬ (1000 : Int) < (x.size : Int) := by omega
  have hc0 := count9 x w
  have hc1 := fun w1 (h : w = w1) => count92 x 48 (by decide) hz w1 (h ▸ hE)
  have hc2 := fun w1 (h : w = w1) => count92 x 49 (by decide) hz w1 (h ▸ hE)
  have hsg := signs_ok x.data.toList
  obtain ⟨a, ha⟩ : ∃ a, tls x.data.toList = a := ⟨_, rfl⟩
  obtain ⟨b, hb⟩ : ∃ b, prs 48 x.data.toList = b := ⟨_, rfl⟩
  obtain ⟨c, hc⟩ : ∃ c, prs 49 x.data.toList = c := ⟨_, rfl⟩
  have hl : ∀ l : List UInt8, tls l ≤ l.length := fun l => by
    induction l with
    | nil => exact Nat.le_refl _
    | cons c r ih => rw [tls, List.length_cons]; split <;> omega
  have hl9 := hl x.data.toList
  rw [size_data, ha] at hl9
  rw [ha, hb, hc] at hsg
  rw [ha] at hc0
  rw [hb] at hc1
  rw [hc] at hc2
  have hbi : (b : Int) ≤ 1000 := by omega
  have hci : (c : Int) ≤ 1000 := by omega
  have hO : ((a : Int) == (b : Int) + (c : Int)) = okT x.data.toList := by
    cases h : okT x.data.toList with
    | true =>
      rw [h] at hsg
      have := hsg.2.2 rfl
      rw [beq_iff_eq]; omega
    | false =>
      rw [h] at hsg
      rw [beq_eq_false_iff_ne]
      intro e
      have := hsg.2.1 (by omega)
      cases this
  have HO := Lib.hid hO
  clear hsg ha hb hc hl hl9 hO hE
  by_cases he : x = ⟨#[]⟩
  · have HP : Hid (pathOk x = okT x.data.toList) := Lib.hid (by unfold pathOk; rw [decide_eq_true hz, decide_eq_true he]; simp)
    have gx : x.toList = [] := by rw [he, Lib.toList_data]
    clear he
    go_enter Tryd.func20, Tryd.ntmps20
    go_wp2_with fail
    refine hc0.mono ?_
    rintro e w1 ⟨rfl, rfl⟩
    go_wp2_with fail
    refine (hc1 _ rfl).mono ?_
    rintro e w1 ⟨rfl, rfl⟩
    go_wp2_with fail
    refine (hc2 _ rfl).mono ?_
    rintro e w1 ⟨rfl, rfl⟩
    go_wp2_with fail
    go_ret
    rw [HP.out]
    exact ⟨congrArg (fun z => Ending.returned (.bool z)) HO.out, rfl⟩
  have ge := text_no he
  have ge2 : (x.toList == []) = false := by rw [beq_eq_false_iff_ne, Lib.toList_data]; exact fun e => he (bytes_ext e)
  have hpos : 0 < x.size := by
    rcases Nat.eq_zero_or_pos x.size with h | h
    · exact absurd (bytes_ext (by rw [← List.length_eq_zero_iff.1 (by rw [← Lib.size_eq]; exact h)])) he
    · exact h
  have gp : (0 : Int) < (x.size : Int) := by omega
  have hhd : x.data.toList.head? = some x[0] := by
    have h1 := byte_get x 0 hpos
    rw [← h1]
    simp [List.head?_eq_getElem?]
  by_cases h47 : x[0] = 47
  · have HP : Hid (pathOk x = okT x.data.toList) := Lib.hid (by unfold pathOk; rw [decide_eq_true hz, hhd, h47]; simp)
    have gc : ((x[0].toNat : Int) != 47) = false := by rw [h47]; rfl
    have gc2 : (x[0].toNat : Int) = 47 := by rw [h47]; rfl
    clear he hhd h47
    go_enter Tryd.func20, Tryd.ntmps20
    go_wp2_with fail
    refine hc0.mono ?_
    rintro e w1 ⟨rfl, rfl⟩
    go_wp2_with fail
    refine (hc1 _ rfl).mono ?_
    rintro e w1 ⟨rfl, rfl⟩
    go_wp2_with fail
    refine (hc2 _ rfl).mono ?_
    rintro e w1 ⟨rfl, rfl⟩
    go_wp2_with fail
    go_ret
    rw [HP.out]
    exact ⟨congrArg (fun z => Ending.returned (.bool z)) HO.out, rfl⟩
  · have HP : Hid (pathOk x = false) := Lib.hid (by unfold pathOk; rw [hhd, decide_eq_false he, decide_eq_false (show ¬ some x[0] = some 47 from fun e => h47 (Option.some.inj e))]; simp)
    have gc : ((x[0].toNat : Int) != 47) = true := by rw [bne_iff_ne]; exact fun e => h47 (byte_eq (d := 47) e)
    clear he hhd h47
    go_enter Tryd.func20, Tryd.ntmps20
    go_wp2_with fail
    go_ret
    rw [HP.out]
    exact ⟨rfl, rfl⟩
end Go.Proofs.YtoofcclcimkipaaDoor.J9
namespace Go.Proofs.YtoofcclcimkipaaDoor.J9
open Go Go.RowKit Go.Joins Kit J7 J8

/-- What is left of a path, in the closure's own variable. -/
def RestIn (G : Nat) (x : ByteArray) (w : World) : Prop := w.heap[G]? = some (.cells #[.string x] 9 (0, 0))
theorem RestIn.cell {G : Nat} {x : ByteArray} {w : World} (h : RestIn G x w) : w.cell? ⟨G, 0, none⟩ = some (.string x) := by unfold RestIn at h; rw [Lib.cell_of_heap h]; rfl
theorem RestIn.lt {G : Nat} {x : ByteArray} {w : World} (h : RestIn G x w) : G < w.heap.size := World.block_lt_of_cell? w _ h.cell
theorem RestIn.free {G : Nat} {x : ByteArray} {w : World} (h : RestIn G x w) : w.frozen? ⟨G, 0, none⟩ = false := by
  unfold RestIn at h
  simp [World.frozen?, h]
theorem RestIn.below {G : Nat} {x : ByteArray} {w w' : World} (h : RestIn G x w) (hb : Below w.heap.size w w') : RestIn G x w' := by
  unfold RestIn
  rw [hb.block G h.lt]
  exact h
theorem RestIn.heap {G : Nat} {x : ByteArray} {w w' : World} (h : RestIn G x w) (e : w.heap = w'.heap) : RestIn G x w' := by
  unfold RestIn at h ⊢
  rw [← e]
  exact h
theorem RestIn.set {G : Nat} {x y : ByteArray} {w : World} (h : RestIn G x w) : RestIn G y (w.setCell ⟨G, 0, none⟩ (.string y)) := by
  unfold RestIn at h ⊢
  exact one_setCell h
/-- The tables and errors, in every world that keeps what lies below B. -/
def EnvB (B : Nat) (w : World) : Prop := ∀ w', Below B w w' → EnvP w'
theorem EnvB.of {w : World} (h : EnvP w) : EnvB w.heap.size w := fun _ hb => h.next hb
theorem EnvB.next {B : Nat} {w w1 : World} (h : EnvB B w) (hb : Below B w w1) : EnvB B w1 := fun w' hb' => h w' (hb.trans hb')
theorem EnvB.env {B : Nat} {w : World} (h : EnvB B w) : EnvP w := h w (Below.refl _ _)
theorem seg_all : ∀ {a : List UInt8}, (∀ c ∈ a, c ≠ 47) → segT a = a ∧ rstT a = []
  | [], _ => ⟨rfl, rfl⟩
  | c :: r, h => by
    have ih := seg_all (fun d hd => h d (List.mem_cons_of_mem c hd))
    rw [(seg_other (h c List.mem_cons_self) r).1, (seg_other (h c List.mem_cons_self) r).2, ih.1, ih.2]
    exact ⟨rfl, rfl⟩
theorem seg_mid : ∀ {a r : List UInt8}, (∀ c ∈ a, c ≠ 47) → segT (a ++ 47 :: r) = a ∧ rstT (a ++ 47 :: r) = 47 :: r
  | [], r, _ => ⟨rfl, rfl⟩
  | c :: a, r, h => by
    have ih := seg_mid (r := r) (fun d hd => h d (List.mem_cons_of_mem c hd))
    rw [List.cons_append, (seg_other (h c List.mem_cons_self) _).1, (seg_other (h c List.mem_cons_self) _).2, ih.1, ih.2]
    exact ⟨rfl, rfl⟩
theorem rst_drop (r : List UInt8) : r.drop (segT r).length = rstT r := by
  conv => lhs; rw [← seg_rst r]
  rw [show (segT (segT r ++ rstT r)).length = (segT r).length by rw [seg_rst]]
  simp
theorem seg_len (r : List UInt8) : (segT r).length ≤ r.length := by
  have h := congrArg List.length (seg_rst r)
  rw [List.length_append] at h
  omega
theorem cut9 (y : ByteArray) (hy : y.size ≤ 1000) (w : World) (hE : EnvP w) :
    Calls Tryd.prog 47 #[.string y, .string ⟨#[47]⟩] w fun e w' => ∃ (p q : ByteArray) (b : Bool), e = .returned (.tuple #[.string p, .string q, .bool b]) ∧ p.data.toList = segT y.data.toList ∧ Below w.heap.size w w' ∧ w.heap = w'.heap := by
  refine (Srch.cut_any 47 y w (by omega) hE.max).mono ?_
  rintro e w' ⟨h, hb, hh⟩
  rcases h with ⟨rfl, h1⟩ | ⟨a, r, h1, h2, rfl⟩
  · exact ⟨_, _, _, rfl, (seg_all h1).1.symm, hb, hh⟩
  · exact ⟨_, _, _, rfl, by rw [h1]; exact (seg_mid h2).1.symm, hb, hh⟩

set_option maxHeartbeats 1000000 in
set_option maxRecDepth 100000 in
theorem next_nil (G : Nat) (w : World) (h : RestIn G ⟨#[]⟩ w) :
    Calls Tryd.prog 46 #[.pointer (some ⟨G, 0, none⟩)] w fun e w' => e = .returned (.tuple #[.string ⟨#[]⟩, .bool false]) ∧ w = w' := by
  have p0 := h.cell
  go_enter Tryd.func46, Tryd.ntmps46
  go_wp2_with fail
  go_ret2
  exact ⟨rfl, rfl⟩
set_option maxHeartbeats 2000000 in
set_option maxRecDepth 100000 in
theorem next_cons (B G : Nat) (hBG : B ≤ G) (x : ByteArray) (r : List UInt8) (hx : x.data.toList = 47 :: r) (hok : okT r = true) (hz : x.size ≤ 1000) (w : World) (h : RestIn G x w) (hE : EnvB B w) (hBw : B ≤ w.heap.size) :
    Calls Tryd.prog 46 #[.pointer (some ⟨G, 0, none⟩)] w fun e w' => e = .returned (.tuple #[.string ⟨(unesc (segT r)).toArray⟩, .bool true]) ∧ RestIn G ⟨(rstT r).toArray⟩ w' ∧ Below B w w' ∧ (∀ g, g < w.heap.size → g ≠ G → w'.heap[g]? = w.heap[g]?) := by
  have p0 := h.cell
  have hlen : x.size = r.length + 1 := by rw [Lib.size_eq, hx]; rfl
  have ge : (x.toList == []) = false := by rw [beq_eq_false_iff_ne, Lib.toList_data, hx]; simp
  obtain ⟨y, hy⟩ : ∃ y, x.extract 1 x.size = y := ⟨_, rfl⟩
  have hyd : y.data.toList = r := by rw [← hy, Lib.extract_to_end, hx]; rfl
  have hyz : y.size ≤ 1000 := by rw [Lib.size_eq, hyd]; omega
  have g1 : (1 : Int) ≤ (x.size : Int) := by omega
  have g2 : (x.size : Int) ≤ 1000 := by omega
  have HY := Lib.hid hy
  have HX := Lib.hid hx
  have HD := Lib.hid hyd
  have HLN := Lib.hid hlen
  have HO := Lib.hid hok
  have HH := Lib.hid h
  have HE := Lib.hid hE
  have hct := cut9 y hyz w hE.env
  clear hy hx hyd hlen hok h hE hyz
  go_enter Tryd.func46, Tryd.ntmps46
  go_upto_region 3 with fail
  go_wp2_with fail
  rw [HY.out]
  refine hct.mono ?_
  rintro e w1 ⟨p, q, b, rfl, hp, hb1, hh⟩
  rw [HD.out] at hp
  have hr1 := HH.out.heap hh
  have q0 := hr1.cell
  have f0 := hr1.free
  have hpl : p.size ≤ r.length := by rw [Lib.size_eq, hp]; exact seg_len r
  have g3 : 1 + (p.size : Int) ≤ (x.size : Int) := by have := HLN.out; omega
  have g4 : (p.size : Int) ≤ 1000 := by omega
  have hpz : p.size ≤ 1000 := by omega
  obtain ⟨z, hz2⟩ : ∃ z, x.extract (1 + p.size) x.size = z := ⟨_, rfl⟩
  have hzd : z = ⟨(rstT r).toArray⟩ := by
    refine bytes_ext ?_
    rw [← hz2, Lib.extract_to_end, HX.out, Nat.add_comm, List.drop_succ_cons, Lib.size_eq, hp]
    exact rst_drop r
  have HZ := Lib.hid hz2
  have hR2 : RestIn G z (w1.setCell ⟨G, 0, none⟩ (.string z)) := hr1.set
  have hbB : Below B w (w1.setCell ⟨G, 0, none⟩ (.string z)) := (hb1.mono hBw).setCell hBG _
  have hkp : ∀ g, g < w.heap.size → g ≠ G → (w1.setCell ⟨G, 0, none⟩ (.string z)).heap[g]? = w.heap[g]? := fun g hg hne => (Below.heap_setCell _ _ _ _ hne).trans (hb1.block g hg)
  have HR2 := Lib.hid hR2
  have HBB := Lib.hid hbB
  have HKP := Lib.hid hkp
  have HE2 : Hid (EnvP (w1.setCell ⟨G, 0, none⟩ (.string z))) := Lib.hid (HE.out.next hbB).env
  have HZD := Lib.hid hzd
  have hpk : okT p.data.toList = true := by rw [hp]; exact (seg_ok r HO.out).1
  have HP := Lib.hid hp
  have hpn := plain9 p hpz hpk
  clear hb1 hh hr1 hpl hz2 hzd hR2 hbB hkp hpk hp p0
  go_wp2_with fail
  rw [HZ.out]
  refine (hpn _ HE2.out).mono ?_
  rintro e w3 ⟨rfl, hb3⟩
  rw [HP.out]
  have hsz : B ≤ (w1.setCell ⟨G, 0, none⟩ (.string z)).heap.size := Nat.le_trans hBw HBB.out.size
  have HB3 := Lib.hid (HBB.out.trans (hb3.mono hsz))
  have HR3 : Hid (RestIn G ⟨(rstT r).toArray⟩ w3) := Lib.hid (by rw [← HZD.out]; exact HR2.out.below hb3)
  have HK3 : Hid (∀ g, g < w.heap.size → g ≠ G → w3.heap[g]? = w.heap[g]?) := Lib.hid (fun g hg hne => (hb3.block g (Nat.lt_of_lt_of_le hg HBB.out.size)).trans (HKP.out g hg hne))
  clear hb3 hpn
  go_wp2_with fail
  go_ret2
  exact ⟨rfl, HR3.out, HB3.out, HK3.out⟩

set_option maxHeartbeats 2000000 in
set_option maxRecDepth 100000 in
theorem cutter9 (x : ByteArray) (w : World) :
    Calls Tryd.prog 31 #[.string x] w fun e w' => e = .returned (.func (.func 46) #[] #[.pointer (some ⟨w.heap.size, 0, none⟩)]) ∧ RestIn w.heap.size x w' ∧ Below w.heap.size w w' := by
  have hmf : ∀ (fn : Fn) (first cap : Array Value) (w : World), (Instr.makeFunc fn first cap).run Tryd.prog w = .ok (.func fn first cap) w := fun _ _ _ _ => rfl
  have hR : RestIn w.heap.size x (w.alloc (.cells #[.string x] 9)) := Kit.fresh_block w _ _
  have hb : Below w.heap.size w (w.alloc (.cells #[.string x] 9)) := (Below.refl _ w).alloc (Nat.le_refl _) _
  have HR := Lib.hid hR
  have HB := Lib.hid hb
  clear hR hb
  go_enter Tryd.func31, Tryd.ntmps31
  go_wp2_with fail
  go_ret
  exact ⟨rfl, HR.out, HB.out⟩
end Go.Proofs.YtoofcclcimkipaaDoor.J9
namespace Go.Proofs.YtoofcclcimkipaaDoor.J9
open Go Go.RowKit Go.Joins Kit J7 J8

/-- What is still to come, behind the parts told so far: L in the end. -/
def Ahead (L ls : List ByteArray) (p : ByteArray) (ok : Bool) (x : List UInt8) : Prop :=
  (ok = false ∧ ls = L) ∨ (ok = true ∧ ((x = [] ∧ ls ++ [p] = L) ∨ ∃ t, x = 47 :: t ∧ okT t = true ∧ partsF true (ls ++ [p]) [] (47 :: t) = some L))
theorem ahead_step {L ls : List ByteArray} {t : List UInt8} (ht : okT t = true) (h : partsF true ls [] (47 :: t) = some L) : Ahead L ls ⟨(unesc (segT t)).toArray⟩ true (rstT t) := by
  rw [pF_slash, if_pos rfl, parts_step t ht] at h
  refine Or.inr ⟨rfl, ?_⟩
  rw [List.nil_append] at h
  by_cases h0 : rstT t = []
  · rw [if_pos h0] at h
    injection h with h
    exact Or.inl ⟨h0, h⟩
  · rw [if_neg h0] at h
    rcases rst_head t with h1 | ⟨u, h1⟩
    · exact absurd h1 h0
    · have h2 := (seg_ok t ht).2
      rw [h1, okT_other (by decide)] at h2
      rw [h1] at h
      exact Or.inr ⟨u, h1, h2, h⟩
theorem rst_short (t : List UInt8) : (rstT t).length ≤ t.length := by
  have h := congrArg List.length (seg_rst t)
  rw [List.length_append] at h
  omega
theorem unesc_len : ∀ l, (unesc l).length ≤ l.length
  | [] => Nat.le_refl _
  | [c] => by
    by_cases h : c = 126
    · subst h
      rw [unesc.eq_def]
      simp
    · rw [unesc_other h]
      exact Nat.succ_le_succ (unesc_len [])
  | c :: d :: r => by
    by_cases h : c = 126
    · subst h
      rw [unesc_sign]
      have := unesc_len r
      simp only [List.length_cons]
      omega
    · rw [unesc_other h]
      exact Nat.succ_le_succ (unesc_len (d :: r))
/-- What is left of the program's parts. -/
def CutLeft (x : ByteArray) (w : World) (e : Ending) (w' : World) : Prop := ∃ L a cap, partsP x = some L ∧ (∀ p ∈ L, p.size ≤ 1000) ∧ e = .returned (.slice a L.length cap) ∧ PartsIn w' a cap L ∧ Below w.heap.size w w'
theorem path_ok {x : ByteArray} (h : pathOk x = true) : x.size ≤ 1000 ∧ okT x.data.toList = true ∧ (x = ⟨#[]⟩ ∨ ∃ t, x.data.toList = 47 :: t ∧ okT t = true) := by
  unfold pathOk at h
  simp only [Bool.and_eq_true, Bool.or_eq_true, decide_eq_true_eq] at h
  obtain ⟨⟨h1, h2⟩, h3⟩ := h
  refine ⟨h1, h3, ?_⟩
  rcases h2 with h2 | h2
  · exact Or.inl h2
  · right
    cases hx : x.data.toList with
    | nil => rw [hx] at h2; cases h2
    | cons c t =>
      rw [hx] at h2 h3
      injection h2 with h2
      subst h2
      exact ⟨t, rfl, by rw [okT_other (by decide)] at h3; exact h3⟩
theorem path_bad {x : ByteArray} (h : pathOk x = false) : partsP x = none := by
  unfold partsP
  by_cases hz : x.size ≤ 1000
  · rw [if_neg (by omega)]
    unfold pathOk at h
    rw [decide_eq_true hz, Bool.true_and] at h
    cases hx : x.data.toList with
    | nil =>
      have : x = ⟨#[]⟩ := bytes_ext (by rw [hx])
      rw [hx, decide_eq_true this] at h
      cases h
    | cons c t =>
      rw [hx] at h
      simp only
      by_cases hc : c = 47
      · subst hc
        have h9 : (decide (x = ⟨#[]⟩) || decide ((47 :: t : List UInt8).head? = some 47)) = true := by simp
        rw [h9, Bool.true_and] at h
        rw [if_pos rfl]
        exact parts_bad _ _ _ _ h
      · rw [if_neg hc]
  · rw [if_pos (by omega)]
/-- What the closure tells, and what it leaves. -/
def NextIs (z p : ByteArray) (ok : Bool) (z' : ByteArray) : Prop :=
  (z.data.toList = [] ∧ ok = false ∧ p = ⟨#[]⟩ ∧ z' = z) ∨ ∃ t, z.data.toList = 47 :: t ∧ okT t = true ∧ ok = true ∧ p = ⟨(unesc (segT t)).toArray⟩ ∧ z'.data.toList = rstT t
def FormIs (z : List UInt8) : Prop := z = [] ∨ ∃ t, z = 47 :: t ∧ okT t = true
theorem next9 (G : Nat) (z : ByteArray) (hz : z.size ≤ 1000) (hf : FormIs z.data.toList) (w : World) (h : RestIn G z w) (hE : EnvB G w) :
    Calls Tryd.prog 46 #[.pointer (some ⟨G, 0, none⟩)] w fun e w' => ∃ p ok z', e = .returned (.tuple #[.string p, .bool ok]) ∧ NextIs z p ok z' ∧ RestIn G z' w' ∧ Below G w w' ∧ (∀ g, g < w.heap.size → g ≠ G → w'.heap[g]? = w.heap[g]?) := by
  rcases hf with h0 | ⟨t, ht, hok⟩
  · have e0 : z = ⟨#[]⟩ := bytes_ext (by rw [h0])
    subst e0
    refine (next_nil G w h).mono ?_
    rintro e w' ⟨rfl, rfl⟩
    exact ⟨_, _, _, rfl, Or.inl ⟨rfl, rfl, rfl, rfl⟩, h, Below.refl _ _, fun _ _ _ => rfl⟩
  · refine (next_cons G G (Nat.le_refl _) z t ht hok hz w h hE (Nat.le_of_lt h.lt)).mono ?_
    rintro e w' ⟨rfl, h1, h2, h3⟩
    exact ⟨_, _, _, rfl, Or.inr ⟨t, ht, hok, rfl, rfl, rfl⟩, h1, h2, h3⟩
/-- How far the loop is. -/
def meas (ok : Bool) (z : ByteArray) : Nat := (if ok then 1 else 0) + 2 * z.size
structure Far (L ls : List ByteArray) (p : ByteArray) (ok : Bool) (z : ByteArray) : Prop where
  ahead : Ahead L ls p ok z.data.toList
  form : FormIs z.data.toList
  few : ls.length + (if ok then 1 else 0) + z.size ≤ 1001
  size : z.size ≤ 1000
  part : p.size ≤ 1000
  parts : ∀ q ∈ ls, q.size ≤ 1000
theorem far_of {L ls : List ByteArray} {p z z' : ByteArray} {ok : Bool} (hn : NextIs z p ok z') (hz : z.size ≤ 1000) (hl : ls.length + z.size ≤ 1001) (hp : ∀ q ∈ ls, q.size ≤ 1000) (h0 : z.data.toList = [] → ls = L) (h1 : ∀ t, z.data.toList = 47 :: t → okT t = true → partsF true ls [] (47 :: t) = some L) : Far L ls p ok z' ∧ meas ok z' ≤ 2 * z.size := by
  rcases hn with ⟨e0, rfl, rfl, rfl⟩ | ⟨t, ht, hok, rfl, rfl, hz'⟩
  · exact ⟨⟨Or.inl ⟨rfl, h0 e0⟩, Or.inl e0, by simp; omega, hz, by decide, hp⟩, by unfold meas; simp⟩
  · have hs : z.size = t.length + 1 := by rw [Lib.size_eq, ht]; rfl
    have hs' : z'.size ≤ t.length := by rw [Lib.size_eq, hz']; exact rst_short t
    have hk := (seg_ok t hok).2
    refine ⟨⟨by rw [hz']; exact ahead_step hok (h1 t ht hok), ?_, by simp; omega, by omega, ?_, hp⟩, by unfold meas; simp; omega⟩
    · rw [hz']
      rcases rst_head t with e | ⟨u, e⟩
      · exact Or.inl e
      · rw [e, okT_other (by decide)] at hk
        exact Or.inr ⟨u, e, hk⟩
    · rw [Lib.size_eq]
      show (unesc (segT t)).length ≤ 1000
      have h2 := unesc_len (segT t)
      have h3 := seg_len t
      omega
theorem far_next {L ls : List ByteArray} {p p' z z' : ByteArray} {ok : Bool} (h : Far L ls p true z) (hn : NextIs z p' ok z') : Far L (ls ++ [p]) p' ok z' ∧ meas ok z' ≤ 2 * z.size := by
  have hf : ls.length + 1 + z.size ≤ 1001 := h.few
  refine far_of hn h.size (by rw [List.length_append, List.length_singleton]; omega) ?_ ?_ ?_
  · intro q hq
    rcases List.mem_append.1 hq with hq | hq
    · exact h.parts q hq
    · rw [List.mem_singleton.1 hq]; exact h.part
  · intro e0
    rcases h.ahead with ⟨h1, _⟩ | ⟨_, ⟨_, h1⟩ | ⟨t, h1, _⟩⟩
    · cases h1
    · exact h1
    · rw [h1] at e0; cases e0
  · intro t ht hok
    rcases h.ahead with ⟨h1, _⟩ | ⟨_, ⟨h1, _⟩ | ⟨u, h1, _, h2⟩⟩
    · cases h1
    · rw [h1] at ht; cases ht
    · rw [h1] at ht
      injection ht with _ ht
      subst ht
      exact h2
theorem path_start {x : ByteArray} (hx : pathOk x = true) : ∃ L, partsP x = some L ∧ FormIs x.data.toList ∧ x.size ≤ 1000 ∧ (x.data.toList = [] → [] = L) ∧ (∀ t, x.data.toList = 47 :: t → okT t = true → partsF true [] [] (47 :: t) = some L) := by
  obtain ⟨hz, hok, hform⟩ := path_ok hx
  unfold partsP
  rw [if_neg (by omega)]
  rcases hform with rfl | ⟨t, ht, hk⟩
  · exact ⟨[], rfl, Or.inl rfl, hz, fun _ => rfl, fun t ht => (by cases ht)⟩
  · rw [ht] at hok ⊢
    obtain ⟨L, hL⟩ := parts_some _ hok true [] []
    exact ⟨L, by simp only; rw [if_pos trivial]; exact hL, Or.inr ⟨t, rfl, hk⟩, hz, fun e => (by cases e), fun u hu _ => (by rw [← hu]; exact hL)⟩

set_option maxHeartbeats 4000000 in
set_option maxRecDepth 100000 in
theorem parts9 (x : ByteArray) (hx : pathOk x = true) (w : World) (hE : EnvP w) :
    Calls Tryd.prog 22 #[.string x] w (CutLeft x w) := by
  have hmf : ∀ (fn : Fn) (first cap : Array Value) (w : World), (Instr.makeFunc fn first cap).run Tryd.prog w = .ok (.func fn first cap) w := fun _ _ _ _ => rfl
  have hcl := enters_of Tryd.func46 (by kernel_rfl) rfl
  obtain ⟨L, hL, hform, hz, h0, h1⟩ := path_start hx
  have HL : Hid (partsP x = some L) := Lib.hid hL
  have hct := cutter9 x w
  have HE : Hid (EnvB w.heap.size w) := Lib.hid (EnvB.of hE)
  obtain ⟨G, hG⟩ : ∃ G, w.heap.size = G := ⟨_, rfl⟩
  rw [hG] at hct HE
  have HG := Lib.hid hG
  have HF : Hid (FormIs x.data.toList) := Lib.hid hform
  have HZ := Lib.hid hz
  have H0 := Lib.hid h0
  have H1 := Lib.hid h1
  clear hx hE hG hL hform hz h0 h1
  go_enter Tryd.func22, Tryd.ntmps22
  go_wp2_with fail
  refine hct.mono ?_
  rintro e w1 ⟨rfl, hR, hb1⟩
  have HB1 := Lib.hid hb1
  have hnx := next9 G x HZ.out HF.out w1 hR (HE.out.next hb1)
  clear hct hb1 hR
  go_wp2_with (go_at_fn 46)
  refine hnx.mono ?_
  rintro e w2 ⟨p, ok, z, rfl, hn, hR2, hb2, hk2⟩
  have hfar := far_of (L := L) (ls := []) hn HZ.out (by have := HZ.out; simp; omega) (fun q hq => by cases hq) H0.out H1.out
  have HFA : Hid (Far L [] p ok z) := Lib.hid hfar.1
  have hb02 : Below G w w2 := HB1.out.trans hb2
  have hk0 : w2.ownsRow (G + 1) 9 1 (.slice none 0 0) ([] : List ByteArray).length (J7.strs []) := World.ownsRow_nil _ _ _ _
  clear hnx hn hb2 hk2 hfar
  go_wp2_with fail
  go_loopg [3, 5, 6] (meas ok z) (fun m v3 v5 v6 wr => ∃ (ls : List ByteArray) (p : ByteArray) (ok : Bool) (z : ByteArray), m = meas ok z ∧ v5 = .string p ∧ v6 = .bool ok ∧ RestIn G z wr ∧ Below G w wr ∧ wr.ownsRow (G + 1) 9 1 v3 ls.length (J7.strs ls) ∧ Hid (Far L ls p ok z))
  case atStart => exact ⟨[], p, ok, z, rfl, rfl, rfl, hR2, hb02, hk0, HFA⟩
  case round =>
    clear hR2 hb02 hk0 HFA
    obtain ⟨ls, p, ok, z, rfl, rfl, rfl, hR, hb, hk, HF⟩ := hrel
    obtain ⟨a3, q3, hv3⟩ := own_form8 hk
    subst hv3
    cases ok
    · have hLs : ls = L := by
        rcases HF.out.ahead with ⟨_, h⟩ | ⟨h, _⟩
        · exact h
        · cases h
      have hks := keys_own hk
      have hcp := cap_own hk
      have HKS : Hid (PartsIn wr a3 q3 ls) := Lib.hid ⟨hks, hcp.1, hcp.2, by have := HF.out.few; simp at this; omega⟩
      have HPS := Lib.hid HF.out.parts
      clear hks hcp hk
      subst hLs
      go_wp2_with fail
      go_ret
      exact ⟨_, _, _, HL.out, HPS.out, rfl, HKS.out, by rw [HG.out]; exact hb⟩
    · have hll : (ls.length : Int) ≤ 1000 := by have := HF.out.few; simp at this; omega
      have hsB : G + 1 ≤ wr.heap.size := hR.lt
      go_wp2_with (at_builtin; refine keys_app rfl _ _ rfl (G + 1) wr _ ls hk p rfl rfl (by omega) hsB ?_)
      intro g2 c2 w3 ho3 hg3
      have hb3 : Below G w w3 := (hb.alloc (Nat.le_of_succ_le hsB) _).grown hg3 (by simp; omega) (fun q e => by have := (hk.lt q e).1; omega)
      have hR3 : RestIn G z w3 := by
        have h9 := hg3.block G (by simp; omega) (fun e => by have := (hk.lt G e.symm).1; omega)
        have hlt := hR.lt
        unfold RestIn at hR ⊢
        rw [h9, Below.heap_alloc wr _ G hlt]
        exact hR
      have ho4 : w3.ownsRow (G + 1) 9 1 (.slice (some ⟨g2, 0, none⟩) (ls.length + 1) c2) (ls ++ [p]).length (J7.strs (ls ++ [p])) := by first | exact ho3 | (rw [List.length_append, List.length_singleton]; exact ho3)
      have HO := Lib.hid ho4
      have HB3 := Lib.hid hb3
      have hnx := next9 G z HF.out.size HF.out.form w3 hR3 (HE.out.next hb3)
      clear ho3 ho4 hg3 hk hb hR hb3 hR3
      go_wp2_with (go_at_fn 46)
      refine hnx.mono ?_
      rintro e w4 ⟨p4, ok4, z4, rfl, hn, hR4, hb4, hk4⟩
      have hfar := far_next HF.out hn
      have HFA : Hid (Far L (ls ++ [p]) p4 ok4 z4) := Lib.hid hfar.1
      have HM : Hid (meas ok4 z4 < meas true z) := Lib.hid (by have := hfar.2; unfold meas at this ⊢; simp at this ⊢; omega)
      have ho5 := own_keep8 HO.out (w' := w4) (fun q e hl => hk4 q hl (fun e2 => by have := (HO.out.lt q e).1; omega))
      have hb5 := HB3.out.trans hb4
      clear hnx hn hb4 hk4 hfar
      go_wp2_with fail
      go_roundg (meas ok4 z4)
      case measure => exact HM.out
      case rel => exact ⟨ls ++ [p], p4, ok4, z4, rfl, rfl, rfl, hR4, hb5, by first | exact ho5 | (rw [List.length_append, List.length_singleton] at ho5 ⊢; exact ho5), HFA⟩
end Go.Proofs.YtoofcclcimkipaaDoor.J9
namespace Go.Proofs.YtoofcclcimkipaaDoor.J9
open Go Go.RowKit Go.Joins Kit J7 Nds J8

/-- What place tells: where parts lead on from. -/
def PlaceIs (n : J) (p : ByteArray) (r : Int) : Prop :=
  (r = -1 ∧ ∀ l, followP num9 (p :: l) n = none) ∨ ∃ (i : Nat) (h : i < n.kids.length), r = i ∧ ∀ l, followP num9 (p :: l) n = followP num9 l n.kids[i]
theorem place_no7 {n : J} {p : ByteArray} (h7 : n.kind = 7) (h : ∀ i, ¬ J8.Found n p i) : PlaceIs n p (-1) :=
  Or.inl ⟨rfl, fun l => by rw [followP, if_pos h7, findP_none h]⟩
theorem place_yes7 {n : J} {p : ByteArray} {i : Nat} (h7 : n.kind = 7) (h : J8.Found n p i) : PlaceIs n p (i : Int) :=
  Or.inr ⟨i, h.hv, rfl, fun l => by rw [followP, if_pos h7, findP_some h]⟩
theorem place_leaf {n : J} {p : ByteArray} (h7 : n.kind ≠ 7) (h6 : n.kind ≠ 6) : PlaceIs n p (-1) :=
  Or.inl ⟨rfl, fun l => by rw [followP, if_neg h7, if_neg h6]⟩
theorem place_num {n : J} {p : ByteArray} {v : Int} (h6 : n.kind = 6) (hp : p ≠ starB) (h0 : 0 ≤ v) (h1 : v < (n.kids.length : Int)) (hk : n.kids.length ≤ 65536) (h : (⟨(Lib.itoa v).toArray⟩ : ByteArray) = p) : PlaceIs n p v := by
  have hn : num9 p = some v.toNat := by
    unfold num9
    exact num_of_itoa h0 (by omega) (by rw [← h])
  exact Or.inr ⟨v.toNat, by omega, by omega, fun l => follow_n1 h6 hp hn (by omega)⟩
/-- No number that is the place of a kid is told by the part. -/
theorem place_nonum {n : J} {p : ByteArray} (h6 : n.kind = 6) (hp : p ≠ starB) (h : ∀ i : Nat, num9 p = some i → ¬ i < n.kids.length) : PlaceIs n p (-1) := by
  refine Or.inl ⟨rfl, fun l => ?_⟩
  cases hn : num9 p with
  | none => exact follow_n0 h6 hp hn
  | some i => exact follow_n2 h6 hp hn (h i hn)
theorem num_ok {p : ByteArray} {i : Nat} (h : num9 p = some i) : Lib.atoiAll p.data.toList = .ok (i : Int) ∧ (⟨(Lib.itoa (i : Int)).toArray⟩ : ByteArray) = p := by
  have h' : Tx.numL p.data.toList = some i := h
  exact ⟨atoi_of_num h', bytes_ext (by rw [itoa_of_num h'])⟩

set_option maxHeartbeats 8000000 in
set_option maxRecDepth 100000 in
theorem place_any (n : J) (ht : Tame n) (hle : n.kind = 7 → n.keys.length ≤ n.kids.length) (p : ByteArray) (hz : p.size ≤ 1000) (hs : n.kind = 6 → p ≠ starB) (w : World) (hE : EnvP w) (c0 c1 c2 c3 c4 : Value) (hc : NodeIn w n (.agg #[c0, c1, c2, c3, c4])) :
    Calls Tryd.prog 30 #[.agg #[c0, c1, c2, c3, c4], .string p] w fun e w' => ∃ r : Int, e = .returned (.int .i64 r) ∧ PlaceIs n p r ∧ Below w.heap.size w w' := by
  have hkl : n.keys.length ≤ 65536 := by cases ht; assumption
  have hvl : n.kids.length ≤ 65536 := by cases ht; assumption
  obtain ⟨a3, m3, a4, m4, rfl, rfl, rfl, rfl, rfl, hkk, hvv⟩ := node_parts hc
  obtain ⟨nk, hnk⟩ : ∃ nk, n.keys.length = nk := ⟨_, rfl⟩
  obtain ⟨nv, hnv⟩ : ∃ nv, n.kids.length = nv := ⟨_, rfl⟩
  obtain ⟨k, hkd⟩ : ∃ kd, n.kind = kd := ⟨_, rfl⟩
  obtain ⟨m, hnm⟩ : ∃ nm, n.num = nm := ⟨_, rfl⟩
  obtain ⟨t, htx⟩ : ∃ tx, n.text = tx := ⟨_, rfl⟩
  rw [hnk, hnv, hkd, hnm, htx]
  obtain ⟨W, hW⟩ : ∃ W, (w.alloc (.cells #[.int .i64 k, .int .i64 m, .string t, .slice a3 nk m3, .slice a4 nv m4] 25)) = W := ⟨_, rfl⟩
  have hb0 : Below w.heap.size w W := by rw [← hW]; exact (Below.refl _ w).alloc (Nat.le_refl _) _
  have hA : Bx w.heap.size (.int .i64 k) (.int .i64 m) (.string t) (.slice a3 nk m3) (.slice a4 nv m4) W := by rw [← hW]; exact Bx.made w _ _ _ _ _
  have HKI : Hid (KeysIn W a3 n.keys) := Lib.hid (KeysIn.below (w := w) (fun i hi => hkk i hi) hb0)
  have HB := Lib.hid hb0
  have HE : Hid (EnvP W) := Lib.hid (hE.next hb0)
  obtain ⟨G, hG⟩ : ∃ G, w.heap.size = G := ⟨_, rfl⟩
  rw [hG] at hA
  have HW := Lib.hid hW
  have HA := Lib.hid hA
  have HNK := Lib.hid hnk
  have HNV := Lib.hid hnv
  have HKD := Lib.hid hkd
  have HS := Lib.hid hs
  have p0 := hA.p0
  have p3 := hA.p3
  have p4 := hA.p4
  by_cases h7 : k = 7
  · subst h7
    rcases Classical.em (∃ i, J8.Found n p i) with ⟨i, hf⟩ | hn'
    · have hix := index_yes n.keys p a3 m3 i W HKI.out (by omega) hf.hk hf.eq hf.min
      rw [hnk] at hix
      have HP : Hid (PlaceIs n p (i : Int)) := Lib.hid (place_yes7 hkd hf)
      clear hW hc hkk hvv hb0 hnk hnv hkd hnm htx hA ht hle hs hE hf
      go_enter Tryd.func30, Tryd.ntmps30
      go_upto_region 1 with fail
      rw [HW.out]
      (try rw [hG])
      go_wp2_with fail
      refine hix.mono ?_
      rintro e w1 ⟨rfl, rfl⟩
      go_wp2_with fail
      go_ret
      exact ⟨_, rfl, HP.out, by first | exact HB.out | (rw [← hG]; exact HB.out)⟩
    · have hn : ∀ i, ¬ J8.Found n p i := fun i hi => hn' ⟨i, hi⟩
      clear hn'
      have hix := index_no n.keys p a3 m3 W HKI.out (by omega) (found_none hn hkd (hle hkd))
      rw [hnk] at hix
      have HP : Hid (PlaceIs n p (-1)) := Lib.hid (place_no7 hkd hn)
      clear hW hc hkk hvv hb0 hnk hnv hkd hnm htx hA ht hle hs hE hn
      go_enter Tryd.func30, Tryd.ntmps30
      go_upto_region 1 with fail
      rw [HW.out]
      (try rw [hG])
      go_wp2_with fail
      refine hix.mono ?_
      rintro e w1 ⟨rfl, rfl⟩
      go_wp2_with fail
      go_ret
      exact ⟨_, rfl, HP.out, by first | exact HB.out | (rw [← hG]; exact HB.out)⟩
  have g7 : (k == 7) = false := by rw [beq_eq_false_iff_ne]; exact h7
  by_cases h6 : k = 6
  rotate_left 1
  · have g6 : (k == 6) = false := by rw [beq_eq_false_iff_ne]; exact h6
    have HP : Hid (PlaceIs n p (-1)) := Lib.hid (place_leaf (by rw [hkd]; exact h7) (by rw [hkd]; exact h6))
    clear hW hc hkk hvv hb0 hnk hnv hkd hnm htx hA ht hle hs hE
    go_enter Tryd.func30, Tryd.ntmps30
    go_upto_region 1 with fail
    rw [HW.out]
    (try rw [hG])
    go_wp2_with fail
    go_ret
    exact ⟨_, rfl, HP.out, by first | exact HB.out | (rw [← hG]; exact HB.out)⟩
  subst h6
  have hat := atoi9 p hz W HE.out
  have HPS : Hid (p ≠ starB) := Lib.hid (hs hkd)
  have HVL := Lib.hid hvl
  clear hW hc hkk hvv hb0 hnk hnv hkd hnm htx hA ht hle hs hE g7 h7
  go_enter Tryd.func30, Tryd.ntmps30
  go_upto_region 1 with fail
  rw [HW.out]
  (try rw [hG])
  go_wp2_with fail
  refine hat.mono ?_
  rintro e w1 ⟨hq, hb1⟩
  have HB1 := Lib.hid (HB.out.trans (hb1.mono HB.out.size))
  have hA1 := HA.out.same (hb1.block G HA.out.lt)
  have HE1 : Hid (EnvP w1) := Lib.hid (HE.out.next hb1)
  have v4 := hA1.p4
  clear p0 p3 p4 hb1 hA1 hat
  rcases hq with ⟨v, hv, rfl⟩ | ⟨v, tp, q, hv, rfl⟩
  · have HV := Lib.hid hv
    clear hv
    by_cases h0 : 0 ≤ v
    rotate_left 1
    · have HP : Hid (PlaceIs n p (-1)) := Lib.hid (place_nonum HKD.out HPS.out (fun i hi _ => by
        have h1 := (num_ok hi).1
        rw [HV.out] at h1
        injection h1 with h1
        omega))
      go_wp2_with fail
      go_ret
      exact ⟨_, rfl, HP.out, by first | exact HB1.out | (rw [← hG]; exact HB1.out)⟩
    · by_cases h1 : v < (nv : Int)
      rotate_left 1
      · have HP : Hid (PlaceIs n p (-1)) := Lib.hid (place_nonum HKD.out HPS.out (fun i hi hlt => by
          have h9 := (num_ok hi).1
          rw [HV.out] at h9
          injection h9 with h9
          have := HNV.out
          omega))
        go_wp2_with fail
        go_ret
        exact ⟨_, rfl, HP.out, by first | exact HB1.out | (rw [← hG]; exact HB1.out)⟩
      · have hvi : (nv : Int) ≤ 65536 := by have := HVL.out; have := HNV.out; omega
        have hit := itoa9 v (by omega) (by omega) w1 HE1.out
        obtain ⟨sv, hsv⟩ : ∃ sv : ByteArray, (⟨(Lib.itoa v).toArray⟩ : ByteArray) = sv := ⟨_, rfl⟩
        rw [hsv] at hit
        have HSV := Lib.hid hsv
        clear hsv
        by_cases he : sv = p
        · have HP : Hid (PlaceIs n p v) := Lib.hid (place_num HKD.out HPS.out h0 (by have := HNV.out; omega) HVL.out (HSV.out.trans he))
          subst he
          go_wp2_with fail
          refine hit.mono ?_
          rintro e w2 ⟨rfl, hb2⟩
          have HB2 := Lib.hid (HB1.out.trans (hb2.mono HB1.out.size))
          clear hb2 hit
          go_wp2_with fail
          go_ret
          exact ⟨_, rfl, HP.out, by first | exact HB2.out | (rw [← hG]; exact HB2.out)⟩
        · have ge := text_no he
          have HP : Hid (PlaceIs n p (-1)) := Lib.hid (place_nonum HKD.out HPS.out (fun i hi hlt => by
            obtain ⟨h8, h9⟩ := num_ok hi
            rw [HV.out] at h8
            injection h8 with h8
            exact he (HSV.out.symm.trans (by rw [h8]; exact h9))))
          clear he
          go_wp2_with fail
          refine hit.mono ?_
          rintro e w2 ⟨rfl, hb2⟩
          have HB2 := Lib.hid (HB1.out.trans (hb2.mono HB1.out.size))
          clear hb2 hit
          go_wp2_with fail
          go_ret
          exact ⟨_, rfl, HP.out, by first | exact HB2.out | (rw [← hG]; exact HB2.out)⟩
  · have HP : Hid (PlaceIs n p (-1)) := Lib.hid (place_nonum HKD.out HPS.out (fun i hi _ => hv _ (num_ok hi).1))
    clear hv
    go_wp2_with fail
    go_ret
    exact ⟨_, rfl, HP.out, by first | exact HB1.out | (rw [← hG]; exact HB1.out)⟩
end Go.Proofs.YtoofcclcimkipaaDoor.J9
namespace Go.Proofs.YtoofcclcimkipaaDoor.J9
open Go Go.RowKit Go.Joins Kit J7 Nds J8

def CFollowOk (l : List ByteArray) : Prop := ∀ (P : Nat → Prop) (n : J) (dd : Nat), RightIn dd n → Tame n → cnt n ≤ 2000 → ∀ (w : World) (c0 c1 c2 c3 c4 : Value) (al : Option Addr) (cap : Nat), NodeAt P w n (.agg #[c0, c1, c2, c3, c4]) → KeysIn w al l → (∀ p ∈ l, p.size ≤ 1000) → EnvP w → l.length ≤ 1001 → l.length ≤ cap → cap ≤ 9223372036854775807 →
  Calls Tryd.prog 21 #[.agg #[c0, c1, c2, c3, c4], .slice al l.length cap] w fun e w' => FLeft P (followP num9 l n) w e w'

set_option maxHeartbeats 8000000 in
set_option maxRecDepth 100000 in
theorem cfollow_nil : CFollowOk [] := by
  intro P a dd _ _ _ w c0 c1 c2 c3 c4 al cap hN _ _ _ _ _ _
  obtain ⟨xk, xn, xt, xa, xl, xc, xb, xm, xd, rfl, rfl, rfl, rfl, rfl⟩ := node_forms hN
  obtain ⟨W, hW⟩ : ∃ W, ((w.alloc (.cells #[.int .i64 xk, .int .i64 xn, .string xt, .slice xa xl xc, .slice xb xm xd] 25)).alloc (.cells #[.int .i64 0, .int .i64 0, .string ⟨#[]⟩, .slice none 0 0, .slice none 0 0] 25)) = W := ⟨_, rfl⟩
  have hb0 : Below w.heap.size w W := by rw [← hW]; exact ((Below.refl _ w).alloc (Nat.le_refl _) _).alloc (by simp) _
  have hA : Bx w.heap.size (.int .i64 xk) (.int .i64 xn) (.string xt) (.slice xa xl xc) (.slice xb xm xd) W := by rw [← hW]; exact (Bx.made w _ _ _ _ _).alloc _
  have hR : Bx (w.heap.size + 1) (.int .i64 0) (.int .i64 0) (.string ⟨#[]⟩) (.slice none 0 0) (.slice none 0 0) W := by
    rw [← hW]
    have h9 := Bx.made (w.alloc (.cells #[.int .i64 xk, .int .i64 xn, .string xt, .slice xa xl xc, .slice xb xm xd] 25)) (.int .i64 0) (.int .i64 0) (.string ⟨#[]⟩) (.slice none 0 0) (.slice none 0 0)
    simpa using h9
  have HB := Lib.hid hb0
  have HN := Lib.hid hN
  obtain ⟨G, hG⟩ : ∃ G, w.heap.size = G := ⟨_, rfl⟩
  rw [hG] at hA hR
  have HW := Lib.hid hW
  have HR := Lib.hid hR
  have p0 := hA.p0
  have p1 := hA.p1
  have p2 := hA.p2
  have p3 := hA.p3
  have p4 := hA.p4
  have q0 := hR.p0
  have q1 := hR.p1
  have q2 := hR.p2
  have q3 := hR.p3
  have q4 := hR.p4
  have f0 := hR.free 0
  have f1 := hR.free 1
  have f2 := hR.free 2
  have f3 := hR.free 3
  have f4 := hR.free 4
  clear hN hb0 hW hA hR
  go_enter Tryd.func21, Tryd.ntmps21
  go_upto_region 1 with fail
  rw [HW.out]
  (try rw [hG])
  go_wp2_with fail
  refine bodyPost_ret (find_result rfl _ rfl rfl (HR.out.setAll _ _ _ _ _)) rfl ?_
  have hw : w.heap.size ≤ G + 1 := by rw [hG]; exact Nat.le_succ _
  refine ⟨putN_below HB.out hw _ _ _ _ _, ?_⟩
  rw [followP]
  exact ⟨_, _, _, _, _, _, _, _, _, rfl, (at_put HB.out hw HN.out).keep (kept_mono (fun g hg => Or.inl hg))⟩

set_option maxHeartbeats 8000000 in
set_option maxRecDepth 100000 in
theorem cfollow_place (p : ByteArray) (l : List ByteArray) (ih : CFollowOk l) (P : Nat → Prop) (n : J) (dd : Nat) (hr : RightIn dd n) (ht : Tame n) (hcn : cnt n ≤ 2000) (hstar : n.kind = 6 → p ≠ starB) (w : World) (c0 c1 c2 c3 c4 : Value) (al : Option Addr) (cap : Nat) (hN : NodeAt P w n (.agg #[c0, c1, c2, c3, c4])) (hK : KeysIn w al (p :: l)) (hpz : ∀ q ∈ p :: l, q.size ≤ 1000) (hE : EnvP w) (hl : (p :: l).length ≤ 1001) (hc : (p :: l).length ≤ cap) (hc2 : cap ≤ 9223372036854775807) :
    Calls Tryd.prog 21 #[.agg #[c0, c1, c2, c3, c4], .slice al (p :: l).length cap] w fun e w' => FLeft P (followP num9 (p :: l) n) w e w' := by
  obtain ⟨e0, -, -, -, ⟨a4', m4', e4⟩⟩ := node_cells hN
  obtain ⟨xk, xn, xt, xa, xl, xc, xb, xm, xd, rfl, rfl, rfl, rfl, rfl⟩ := node_forms hN
  obtain ⟨W, hW⟩ : ∃ W, ((w.alloc (.cells #[.int .i64 xk, .int .i64 xn, .string xt, .slice xa xl xc, .slice xb xm xd] 25)).alloc (.cells #[.int .i64 0, .int .i64 0, .string ⟨#[]⟩, .slice none 0 0, .slice none 0 0] 25)) = W := ⟨_, rfl⟩
  have hb0 : Below w.heap.size w W := by rw [← hW]; exact ((Below.refl _ w).alloc (Nat.le_refl _) _).alloc (by simp) _
  have hA : Bx w.heap.size (.int .i64 xk) (.int .i64 xn) (.string xt) (.slice xa xl xc) (.slice xb xm xd) W := by rw [← hW]; exact (Bx.made w _ _ _ _ _).alloc _
  have hR : Bx (w.heap.size + 1) (.int .i64 0) (.int .i64 0) (.string ⟨#[]⟩) (.slice none 0 0) (.slice none 0 0) W := by
    rw [← hW]
    have h9 := Bx.made (w.alloc (.cells #[.int .i64 xk, .int .i64 xn, .string xt, .slice xa xl xc, .slice xb xm xd] 25)) (.int .i64 0) (.int .i64 0) (.string ⟨#[]⟩) (.slice none 0 0) (.slice none 0 0)
    simpa using h9
  obtain ⟨nv, hnv⟩ : ∃ nv, n.kids.length = nv := ⟨_, rfl⟩
  rw [hnv] at e4
  injection e4 with e41 e42 e43
  subst e41 e42 e43
  have HNV := Lib.hid hnv
  have hvl : n.kids.length ≤ 65536 := by cases ht; assumption
  have gnv : (xm : Int) ≤ 65536 := by omega
  have hxk : xk = n.kind := by injection e0
  have hkl : n.kind = 7 → n.keys.length ≤ n.kids.length := fun h7 => by
    obtain ⟨hh, _, _⟩ := right_inv hr
    exact Nat.le_of_eq (hh.a10 h7)
  have hcase : (xk == 6) = false ∨ ((xk == 6) = true ∧ (p.toList == [42]) = false) := by
    by_cases h6 : xk = 6
    · refine Or.inr ⟨by rw [beq_iff_eq]; exact h6, ?_⟩
      have h9 := text_no (hstar (by rw [← hxk]; exact h6))
      rw [show starB.toList = [42] by unfold starB; rw [Lib.toList_data]] at h9
      exact h9
    · exact Or.inl (by rw [beq_eq_false_iff_ne]; exact h6)
  have HB := Lib.hid hb0
  have HN := Lib.hid hN
  have HK := Lib.hid hK
  have HF : Hid (Fine dd n) := Lib.hid ⟨hr, ht, hcn⟩
  obtain ⟨ag, ao, rfl, hp0⟩ := (hK.below hb0) 0 (by simp)
  simp only [Nat.add_zero, List.getElem_cons_zero] at hp0
  have hplc := fun w' (h' : Below W.heap.size W w') => place_any n ht hkl p (hpz p List.mem_cons_self) hstar w' (hE.next (hb0.trans (h'.mono hb0.size))) _ _ _ _ _ (in_of_at (hN.keep (kept_below (hb0.trans (h'.mono hb0.size)))))
  have HPL := Lib.hid hplc
  have HPZ : Hid (∀ q ∈ l, q.size ≤ 1000) := Lib.hid (fun q hq => hpz q (List.mem_cons_of_mem p hq))
  have HE := Lib.hid hE
  obtain ⟨L, hL⟩ : ∃ L, (p :: l).length = L := ⟨_, rfl⟩
  have hL1 : L = l.length + 1 := by rw [← hL]; rfl
  have HL1 := Lib.hid hL1
  rw [hL] at hl hc ⊢
  have g1 : (1 : Int) ≤ (L : Int) := by omega
  have g2 : (L : Int) ≤ (cap : Int) := by omega
  have g3 : (cap : Int) ≤ 9223372036854775807 := by omega
  have g4 : (L : Int) ≤ 1001 := by omega
  have g6 : (0 : Int) < (L : Int) := by omega
  have g7 : 0 < L := by omega
  have g8 : L ≠ 0 := by omega
  have g5 : ((L : Int) == 0) = false := by rw [beq_eq_false_iff_ne]; omega
  have HL2 := Lib.hid hL
  have HW := Lib.hid hW
  have HA := Lib.hid hA
  have HHC := Lib.hid hc
  obtain ⟨G, hG⟩ : ∃ G, w.heap.size = G := ⟨_, rfl⟩
  rw [hG] at hA hR
  have HR := Lib.hid hR
  have HG := Lib.hid hG
  have p0 := hA.p0
  have p1 := hA.p1
  have p2 := hA.p2
  have p3 := hA.p3
  have p4 := hA.p4
  have hGl := hR.lt
  have HAG := Lib.hid hA
  clear hN hb0 hW hA hR hK hL hL1 hc hc2 ht hcn hr e0 hl hvl hnv hplc hpz hE hkl hstar hxk
  have HPLC : Hid (∀ w', Below W.heap.size W w' → Calls Tryd.prog 30 #[.agg #[.int .i64 xk, .int .i64 xn, .string xt, .slice xa xl xc, .slice xb xm xd], .string p] w' fun e w2 => ∃ r : Int, e = .returned (.int .i64 r) ∧ Hid (PlaceIs n p r) ∧ Below w'.heap.size w' w2) := Lib.hid (fun w' h' => (HPL.out w' h').mono fun _ _ ⟨r, h1, h2, h3⟩ => ⟨r, h1, Lib.hid h2, h3⟩)
  clear HPL
  go_enter Tryd.func21, Tryd.ntmps21
  go_upto_region 1 with fail
  rw [HW.out]
  (try rw [hG])
  rcases hcase with g60 | ⟨g60, g61⟩
  all_goals
    go_wp2_with fail
    go_cut [6] from 27 (fun v wx => ∃ r : Int, v = .int .i64 r ∧ Hid (PlaceIs n p r) ∧ Below W.heap.size W wx)
    case first =>
      go_region_with ((refine (HPLC.out (W.drew) ((Below.refl _ W).drew)).mono ?_); rintro e w5 ⟨r, rfl, hpi, hb5⟩)
      all_goals
        go_wp2_with fail
        go_meet
        exact ⟨_, rfl, hpi, ((Below.refl _ W).drew).trans hb5⟩
    case rest =>
      obtain ⟨r, rfl, HPI, hbw⟩ := hcut
      have hR := HR.out.same (hbw.block _ hGl)
      have f0 := hR.free 0
      have f1 := hR.free 1
      have f2 := hR.free 2
      have f3 := hR.free 3
      have f4 := hR.free 4
      have q0 := hR.p0
      have q1 := hR.p1
      have q2 := hR.p2
      have q3 := hR.p3
      have q4 := hR.p4
      have hA2 := HAG.out.same (hbw.block _ HAG.out.lt)
      have v4 := hA2.p4
      have HRX := Lib.hid hR
      have HBW : Hid (Below w.heap.size w wc) := Lib.hid (HB.out.trans (hbw.mono HB.out.size))
      have HGW : Hid (G + 1 < wc.heap.size) := Lib.hid (Nat.lt_of_lt_of_le hGl hbw.size)
      clear hbw hR hA2 p0 p1 p2 p3 p4 hp0
      rcases HPI.out with ⟨rfl, hno⟩ | ⟨i, hi, rfl, hyes⟩
      · have HE : Hid (followP num9 (p :: l) n = none) := Lib.hid (hno l)
        clear hno
        go_wp2_with fail
        refine bodyPost_ret (find_result rfl _ rfl rfl (HRX.out.setAll _ _ _ _ _)) rfl ?_
        rw [HE.out]
        exact ⟨set5_below HBW.out (by rw [hG]; exact Nat.le_succ _) _ _ _ _ _, rfl⟩
      · have HE9 : Hid (followP num9 (p :: l) n = followP num9 l n.kids[i]) := Lib.hid (hyes l)
        have gi : (i : Int) < (xm : Int) := by have := HNV.out; omega
        obtain ⟨bg, bo, bcap, e5, t1⟩ := kid_cells HN.out (fun e => by rw [e] at hi; exact absurd hi (Nat.not_lt_zero i))
        obtain ⟨d0, d1, d2, d3, d4, s0, s1, s2, s3, s4, hat⟩ := t1 i hi
        obtain ⟨k5, n5, t5, a5, l5, m5, b5, o5, q5, rfl, rfl, rfl, rfl, rfl⟩ := node_forms hat
        injection e5 with e51 e52 e53
        clear e52
        subst e51 e53
        have hfine := HF.out.kid i hi
        have bw : ∀ {a v}, w.cell? a = some v → wc.cell? a = some v := fun {a v} h => (HBW.out.cell (p := a) (World.block_lt_of_cell? w _ h)).trans h
        have y0 := bw s0
        rw [show bo + 5 * i = bo + i * 5 by omega] at y0
        have y1 := bw s1
        rw [show bo + (5 * i + 1) = bo + i * 5 + 1 by omega] at y1
        have y2 := bw s2
        rw [show bo + (5 * i + 2) = bo + i * 5 + 2 by omega] at y2
        have y3 := bw s3
        rw [show bo + (5 * i + 3) = bo + i * 5 + 3 by omega] at y3
        have y4 := bw s4
        rw [show bo + (5 * i + 4) = bo + i * 5 + 4 by omega] at y4
        obtain ⟨kd, hkd⟩ : ∃ kd, n.kids[i] = kd := ⟨_, rfl⟩
        rw [hkd] at HE9 hfine hat
        obtain ⟨r, hr⟩ : ∃ r, followP num9 l kd = r := ⟨_, rfl⟩
        have HIH : Hid (∀ (aw : Option Addr) (cw : Nat), (∀ w', Below w.heap.size w w' → KeysIn w' aw l) → l.length ≤ cw → cw ≤ 9223372036854775807 → Calls Tryd.prog 21 #[.agg #[.int .i64 k5, .int .i64 n5, .string t5, .slice a5 l5 m5, .slice b5 o5 q5], .slice aw (L - 1) cw] wc.drew fun e w2 => ∃ k n t a3 n3 m3 a4 n4 m4 b, e = .returned (.tuple #[.agg #[.int .i64 k, .int .i64 n, .string t, .slice a3 n3 m3, .slice a4 n4 m4], .bool b]) ∧ Below wc.heap.size wc w2 ∧ Hid (FLeft P r w (.returned (.tuple #[.agg #[.int .i64 k, .int .i64 n, .string t, .slice a3 n3 m3, .slice a4 n4 m4], .bool b])) (putN w2 (G + 1) (.int .i64 k) (.int .i64 n) (.string t) (.slice a3 n3 m3) (.slice a4 n4 m4)))) := Lib.hid (fun aw cw h1 h2 h3 => by
          have hbd : Below w.heap.size w wc.drew := HBW.out.drew
          have e1 : L - 1 = l.length := by have := HL1.out; omega
          rw [e1]
          refine (ih (fun g => P g ∧ g < w.heap.size) kd (dd + 1) hfine.right hfine.tame hfine.few wc.drew _ _ _ _ _ aw cw ((hat.keep (fun g hg hl => ⟨⟨hg, hl⟩, hbd.block g hl⟩))) (h1 _ hbd) HPZ.out (HE.out.next hbd) (by have := HL1.out; omega) h2 h3).mono ?_
          intro e w2 hl
          rw [hr] at hl
          obtain ⟨k, n, t, a3, n3, m3, a4, n4, m4, b, rfl, hb, hf⟩ := left_put (G := G + 1) hbd (by rw [hG]; exact Nat.le_succ _) HGW.out hl
          exact ⟨_, _, _, _, _, _, _, _, _, _, rfl, ((Below.refl _ wc).drew).trans hb, Lib.hid hf⟩)
        have HRR := Lib.hid hr
        clear hkd hfine hat hr hi t1 bw s0 s1 s2 s3 s4 hyes
        have HKT : Hid (∀ w', Below w.heap.size w w' → KeysIn w' (tailA (some ⟨ag, ao, none⟩) cap) l) := Lib.hid (fun w' h => keys_tail (KeysIn.below HK.out h) (by have := HL2.out; have := HHC.out; omega))
        have HLC : Hid (l.length ≤ cap - 1) := Lib.hid (by have := HL1.out; have := HHC.out; omega)
        by_cases hc1 : cap = 1
        · have HKT2 : Hid (∀ w', Below w.heap.size w w' → KeysIn w' (some ⟨ag, ao, none⟩) l) := Lib.hid (fun w' h => by have h9 := HKT.out w' h; unfold tailA at h9; rw [if_pos hc1] at h9; exact h9)
          have HLC2 : Hid (l.length ≤ 0) := Lib.hid (by have := HLC.out; omega)
          go_wp2_with fail
          go_region_with ((refine (HIH.out _ _ HKT2.out HLC2.out (by decide)).mono ?_); rintro e w2 ⟨k6, n6, t6, a6, l6, m6, b6, o6, q6, bb, rfl, hb6, HFL⟩; (have hR6 := HRX.out.same (hb6.block _ HGW.out)); (have s0 := hR6.free 0); (have s1 := hR6.free 1); (have s2 := hR6.free 2); (have s3 := hR6.free 3); (have s4 := hR6.free 4); (have u0 := hR6.p0); (have u1 := hR6.p1); (have u2 := hR6.p2); (have u3 := hR6.p3); (have u4 := hR6.p4))
          all_goals
            go_wp2_with fail
            refine bodyPost_ret (find_result rfl _ rfl rfl (hR6.setAll _ _ _ _ _)) rfl ?_
            rw [HE9.out, HRR.out]
            exact HFL.out
        · have HKT2 : Hid (∀ w', Below w.heap.size w w' → KeysIn w' (some ⟨ag, ao + 1, none⟩) l) := Lib.hid (fun w' h => by have h9 := HKT.out w' h; unfold tailA at h9; rw [if_neg hc1] at h9; exact h9)
          have HCC : Hid (cap - 1 ≤ 9223372036854775807) := Lib.hid (by omega)
          go_wp2_with fail
          go_region_with ((refine (HIH.out _ _ HKT2.out HLC.out HCC.out).mono ?_); rintro e w2 ⟨k6, n6, t6, a6, l6, m6, b6, o6, q6, bb, rfl, hb6, HFL⟩; (have hR6 := HRX.out.same (hb6.block _ HGW.out)); (have s0 := hR6.free 0); (have s1 := hR6.free 1); (have s2 := hR6.free 2); (have s3 := hR6.free 3); (have s4 := hR6.free 4); (have u0 := hR6.p0); (have u1 := hR6.p1); (have u2 := hR6.p2); (have u3 := hR6.p3); (have u4 := hR6.p4))
          all_goals
            go_wp2_with fail
            refine bodyPost_ret (find_result rfl _ rfl rfl (hR6.setAll _ _ _ _ _)) rfl ?_
            rw [HE9.out, HRR.out]
            exact HFL.out
end Go.Proofs.YtoofcclcimkipaaDoor.J9
namespace Go.Proofs.YtoofcclcimkipaaDoor.J9
open Go Go.RowKit Go.Joins Kit J7 Nds J8

def EachOk (l : List ByteArray) : Prop := ∀ (P : Nat → Prop) (n : J) (dd : Nat), Fine dd n → ∀ (w : World) (c0 c1 c2 c3 : Value) (xb : Option Addr) (xm xd : Nat) (al : Option Addr) (cap : Nat), NodeAt P w n (.agg #[c0, c1, c2, c3, .slice xb xm xd]) → KeysIn w al l → (∀ p ∈ l, p.size ≤ 1000) → EnvP w → l.length ≤ 1001 → l.length ≤ cap → cap ≤ 9223372036854775807 →
  Calls Tryd.prog 29 #[.slice xb xm xd, .slice al l.length cap] w fun e w' => FLeft P ((collect (followP num9 l) n.kids).map arrK) w e w'
/-- What parts led to, beside a variable that was made behind it. -/
theorem left9 {P : Nat → Prop} {G : Nat} {wr w5 : World} {o : Obj} {bb : Bool} {r : Option J} {v d0 d1 d2 d3 d4 : Value} (h : Hid ((bb = true → ∃ x, r = some x ∧ NodeAt (fun g => (P g ∧ g < G) ∨ (wr.alloc o).heap.size ≤ g) w5 x v) ∧ (bb = false → r = none))) :
    Hid ((bb = true → ∃ x, r = some x ∧ NodeAt (fun z => (P z ∧ z < G) ∨ (wr.heap.size ≤ z ∧ z ≠ w5.heap.size)) (w5.alloc (.cells #[d0, d1, d2, d3, d4] 25)) x v) ∧ (bb = false → r = none)) := Lib.hid ⟨fun hbb => by
      obtain ⟨x, hx, hat⟩ := h.out.1 hbb
      refine ⟨x, hx, hat.keep (fun g hg hl => ⟨?_, Below.heap_alloc w5 _ g hl⟩)⟩
      rcases hg with hg | hg
      · exact Or.inl hg
      · exact Or.inr ⟨Nat.le_trans (by simp) hg, by omega⟩, h.out.2⟩
theorem kids_set9 {P PQ : Nat → Prop} {G H : Nat} {v u : Value} {ks : List J} {w : World} (h : KidsQ PQ (H + 1) v ks w) (hP : (fun g => (P g ∧ g < G) ∨ H + 1 ≤ g) = PQ) (hGH : G < H) : KidsQ PQ (H + 1) v ks (w.setCell ⟨H, 4, none⟩ u) :=
  h.same2 (fun g hg _ => Below.heap_setCell _ _ _ _ (by
    rw [← hP] at hg
    rcases hg with (hg | hg) | hg
    · have := hg.2; show g ≠ H; omega
    · show g ≠ H; omega
    · show g ≠ H; omega))
set_option maxHeartbeats 8000000 in
set_option maxRecDepth 100000 in
theorem each9 (l : List ByteArray) (ih : CFollowOk l) : EachOk l := by
  intro P n dd hfn w c0 c1 c2 c3 xb xm xd al cap hN hK hpz hE hl hc hc2
  obtain ⟨-, -, -, -, ⟨a4', m4', e4⟩⟩ := node_cells hN
  obtain ⟨W, hW⟩ : ∃ W, w.alloc (.cells #[.int .i64 0, .int .i64 0, .string ⟨#[]⟩, .slice none 0 0, .slice none 0 0] 25) = W := ⟨_, rfl⟩
  have hb0 : Below w.heap.size w W := by rw [← hW]; exact (Below.refl _ w).alloc (Nat.le_refl _) _
  have hR : Bx w.heap.size (.int .i64 0) (.int .i64 0) (.string ⟨#[]⟩) (.slice none 0 0) (.slice none 0 0) W := by rw [← hW]; exact Bx.made w _ _ _ _ _
  have hzW : W.heap.size = w.heap.size + 1 := by rw [← hW]; simp
  obtain ⟨nv, hnv⟩ : ∃ nv, n.kids.length = nv := ⟨_, rfl⟩
  rw [hnv] at e4
  injection e4 with e41 e42 e43
  subst e41 e42 e43
  have HNV := Lib.hid hnv
  have hvl : n.kids.length ≤ 65536 := by cases hfn.tame; assumption
  have gnv : (xm : Int) ≤ 65536 := by omega
  have HB := Lib.hid hb0
  have HN := Lib.hid hN
  have HK := Lib.hid hK
  have HF : Hid (Fine dd n) := Lib.hid hfn
  have HPZ := Lib.hid hpz
  have HEV := Lib.hid hE
  obtain ⟨L, hL⟩ : ∃ L, l.length = L := ⟨_, rfl⟩
  have HL1 := Lib.hid hL
  rw [hL] at hl hc ⊢
  have HLL := Lib.hid hl
  have HLC := Lib.hid hc
  have HCC := Lib.hid hc2
  have HW := Lib.hid hW
  obtain ⟨G, hG⟩ : ∃ G, w.heap.size = G := ⟨_, rfl⟩
  rw [hG] at hR hzW
  have HR := Lib.hid hR
  have HRX := Lib.hid hR
  have HWS : Hid (w.heap.size = G) := Lib.hid hG
  obtain ⟨H, hH⟩ : ∃ H, W.heap.size = H := ⟨_, rfl⟩
  have hGH : G < H := by omega
  have HHH := Lib.hid hH
  obtain ⟨PQ, hPQ⟩ : ∃ PQ : Nat → Prop, (fun g => (P g ∧ g < G) ∨ H + 1 ≤ g) = PQ := ⟨_, rfl⟩
  have HPQ := Lib.hid hPQ
  have HK0 : Hid (KidsQ PQ (H + 1) (.slice none 0 0) [] (newN W 6)) := Lib.hid (KidsQ.new _ _ _)
  have HB0 : Hid (Below W.heap.size W (newN W 6)) := Lib.hid ((Below.refl _ W).alloc (Nat.le_refl _) _)
  have HX0 : Hid (Bx H (.int .i64 6) (.int .i64 0) (.string { data := #[] }) (.slice none 0 0) (.slice none 0 0) (newN W 6)) := Lib.hid (by rw [← hH]; exact newN_bx W 6)
  have HZ0 : Hid (H + 1 ≤ (newN W 6).heap.size) := Lib.hid (by rw [newN_size, hH]; exact Nat.le_refl _)
  clear hN hb0 hW hR hK hL hl hc hc2 hfn hE hpz hvl hnv hH hPQ hG hzW
  go_enter Tryd.func29, Tryd.ntmps29
  go_upto_region 1 with fail
  rw [HW.out]
  (try rw [HWS.out])
  go_wp2_with fail
  try rw [HHH.out]
  go_loopg [14] (xm + 1) (fun m v wr => ∃ (i : Nat) (v8 : Value) (ks : List J), m = xm + 1 - i ∧ v = .int .i64 i ∧ i ≤ xm ∧ Below W.heap.size W wr ∧ H + 1 ≤ wr.heap.size ∧ Bx H (.int .i64 6) (.int .i64 0) (.string { data := #[] }) (.slice none 0 0) v8 wr ∧ KidsQ PQ (H + 1) v8 ks wr ∧ Hid (collect (followP num9 l) (n.kids.take i) = some ks))
  case atStart => exact ⟨0, _, [], rfl, rfl, Nat.zero_le _, HB0.out, HZ0.out, HX0.out, HK0.out, Lib.hid (by rw [List.take_zero, collect])⟩
  case round =>
    obtain ⟨i, v8, ks, rfl, rfl, hi, hb, hz, hx8, hkq, HC⟩ := hrel
    by_cases hlt : i < xm
    · have gi : (i : Int) < (xm : Int) := by omega
      have hin : i < n.kids.length := by have := HNV.out; omega
      have hbw : Below w.heap.size w wr := HB.out.trans (hb.mono HB.out.size)
      obtain ⟨bg, bo, bcap, e5, tt⟩ := kid_cells HN.out (fun e => by rw [e] at hin; exact absurd hin (Nat.not_lt_zero i))
      obtain ⟨d0, d1, d2, d3, d4, s0, s1, s2, s3, s4, hat⟩ := tt i hin
      obtain ⟨k1, n1, t1, a1, l1, m1, b1, o1, q1, rfl, rfl, rfl, rfl, rfl⟩ := node_forms hat
      injection e5 with e51 e52 e53
      clear e52 tt
      subst e51 e53
      have hfine := HF.out.kid i hin
      have bw : ∀ {a v}, w.cell? a = some v → wr.cell? a = some v := fun {a v} h => (hbw.cell (p := a) (World.block_lt_of_cell? w _ h)).trans h
      have y0 := bw s0
      rw [show bo + 5 * i = bo + i * 5 by omega] at y0
      have y1 := bw s1
      rw [show bo + (5 * i + 1) = bo + i * 5 + 1 by omega] at y1
      have y2 := bw s2
      rw [show bo + (5 * i + 2) = bo + i * 5 + 2 by omega] at y2
      have y3 := bw s3
      rw [show bo + (5 * i + 3) = bo + i * 5 + 3 by omega] at y3
      have y4 := bw s4
      rw [show bo + (5 * i + 4) = bo + i * 5 + 4 by omega] at y4
      have HKM : Hid (n.kids[i] ∈ n.kids) := Lib.hid (List.getElem_mem hin)
      have HNX : Hid (∀ x, followP num9 l n.kids[i] = some x → collect (followP num9 l) (n.kids.take (i + 1)) = some (ks ++ flatJ x)) := Lib.hid (fun x hx => collect_next hin HC.out hx)
      obtain ⟨kd, hkd⟩ : ∃ kd, n.kids[i] = kd := ⟨_, rfl⟩
      rw [hkd] at hfine hat HKM HNX
      have HCALL : Hid (∀ w', Below wr.heap.size wr w' → Calls Tryd.prog 21 #[.agg #[.int .i64 k1, .int .i64 n1, .string t1, .slice a1 l1 m1, .slice b1 o1 q1], .slice al L cap] w' fun e w2 => ∃ k n t a3 n3 m3 a4 n4 m4 b, e = .returned (.tuple #[.agg #[.int .i64 k, .int .i64 n, .string t, .slice a3 n3 m3, .slice a4 n4 m4], .bool b]) ∧ Below w'.heap.size w' w2 ∧ Hid ((b = true → ∃ x, followP num9 l kd = some x ∧ NodeAt (fun g => (P g ∧ g < G) ∨ w'.heap.size ≤ g) w2 x (.agg #[.int .i64 k, .int .i64 n, .string t, .slice a3 n3 m3, .slice a4 n4 m4])) ∧ (b = false → followP num9 l kd = none))) := Lib.hid (fun w' hw' => by
        have hbd : Below w.heap.size w w' := hbw.trans (hw'.mono hbw.size)
        have e1 : L = l.length := HL1.out.symm
        rw [e1]
        refine (ih (fun g => P g ∧ g < G) kd (dd + 1) hfine.right hfine.tame hfine.few w' _ _ _ _ _ al cap ((hat.keep (fun g hg hl => ⟨⟨hg, by rw [← HWS.out]; exact hl⟩, hbd.block g hl⟩))) (KeysIn.below HK.out hbd) HPZ.out (HEV.out.next hbd) (by rw [← e1]; exact HLL.out) (by rw [← e1]; exact HLC.out) HCC.out).mono ?_
        rintro e w2 ⟨hl1, hl2⟩
        cases hr : followP num9 l kd with
        | none =>
          rw [hr] at hl2
          exact ⟨_, _, _, _, _, _, _, _, _, _, hl2, hl1, Lib.hid ⟨fun h => (by cases h), fun _ => rfl⟩⟩
        | some x =>
          rw [hr] at hl2
          obtain ⟨k, m, t, a3, n3, m3, a4, n4, m4, e2, hx⟩ := hl2
          exact ⟨_, _, _, _, _, _, _, _, _, _, e2, hl1, Lib.hid ⟨fun _ => ⟨x, rfl, hx⟩, fun h => (by cases h)⟩⟩)
      have HBW := Lib.hid hbw
      have HBR := Lib.hid hb
      have HX8 := Lib.hid hx8
      have HKQ := Lib.hid hkq
      clear hfine hat hkd bw s0 s1 s2 s3 s4 hbw hb hx8 hkq HC hin
      have HGZ : Hid (G < wr.heap.size) := Lib.hid (by have := HBR.out.size; have := HHH.out; omega)
      go_upto_region 5 with fail
      go_cut [9, 10] from 18 to 42 (fun v b wx => ∃ (g : Nat) (k5 n5 : Int) (t5 : ByteArray) (a5 : Option Addr) (l5 m5 : Nat) (b5 : Option Addr) (o5 q5 : Nat) (bb : Bool), v = .pointer (some ⟨g, 0, none⟩) ∧ b = .bool bb ∧ Below wr.heap.size wr wx ∧ wr.heap.size ≤ g ∧ Bx g (.int .i64 k5) (.int .i64 n5) (.string t5) (.slice a5 l5 m5) (.slice b5 o5 q5) wx ∧ Hid ((bb = true → ∃ x, followP num9 l kd = some x ∧ NodeAt (fun z => (P z ∧ z < G) ∨ (wr.heap.size ≤ z ∧ z ≠ g)) wx x (.agg #[.int .i64 k5, .int .i64 n5, .string t5, .slice a5 l5 m5, .slice b5 o5 q5])) ∧ (bb = false → followP num9 l kd = none)))
      case first =>
        clear y0 y1 y2 y3 y4
        go_wp2_with fail
        refine (HCALL.out (wr.alloc (.cells #[.int .i64 k1, .int .i64 n1, .string t1, .slice a1 l1 m1, .slice b1 o1 q1] 25)) ((Below.refl _ wr).alloc (Nat.le_refl _) _)).mono ?_
        rintro e w5 ⟨k5, n5, t5, a5, l5, m5, b5, o5, q5, bb, rfl, hb5, hat⟩
        have HB5 : Hid (Below wr.heap.size wr w5) := Lib.hid (((Below.refl _ wr).alloc (Nat.le_refl _) _).trans (hb5.mono (by simp)))
        clear hb5
        go_wp2_with fail
        go_meet
        exact ⟨_, _, _, _, _, _, _, _, _, _, _, rfl, rfl, HB5.out.alloc HB5.out.size _, HB5.out.size, Bx.made w5 _ _ _ _ _, left9 hat⟩
      case rest =>
        obtain ⟨g, k5, n5, t5, a5, l5, m5, b5, o5, q5, bb, rfl, rfl, hbw, hgw, hbx, HAT⟩ := hcut
        clear y0 y1 y2 y3 y4
        have hbW := HBR.out.trans (hbw.mono HBR.out.size)
        have HBC : Hid (Below W.heap.size W wc) := Lib.hid hbW
        have v0 := hbx.p0
        have v1 := hbx.p1
        have v2 := hbx.p2
        have v3 := hbx.p3
        have v4 := hbx.p4
        cases bb
        · have HE : Hid ((collect (followP num9 l) n.kids).map arrK = none) := Lib.hid (by rw [collect_none (HAT.out.2 rfl) HKM.out]; rfl)
          have hRx := HRX.out.same (hbW.block _ (by rw [HHH.out]; omega))
          have f0 := hRx.free 0
          have f1 := hRx.free 1
          have f2 := hRx.free 2
          have f3 := hRx.free 3
          have f4 := hRx.free 4
          have z0 := hRx.p0
          have z1 := hRx.p1
          have z2 := hRx.p2
          have z3 := hRx.p3
          have z4 := hRx.p4
          clear hbw hbW hbx
          go_wp2_with fail
          refine bodyPost_ret (find_result rfl _ rfl rfl (hRx.setAll _ _ _ _ _)) rfl ?_
          rw [HE.out]
          exact ⟨set5_below (HB.out.trans (HBC.out.mono HB.out.size)) (by rw [HWS.out]; exact Nat.le_refl _) _ _ _ _ _, rfl⟩
        · obtain ⟨x, hx, hat⟩ := HAT.out.1 rfl
          have hx9 := HX8.out.same (hbw.block _ (by omega))
          have q4 := hx9.p4
          have k4 := hx9.free 4
          have hkq9 := KidsQ.same HKQ.out (fun g hl => hbw.block g hl)
          have HCN : Hid (collect (followP num9 l) (n.kids.take (i + 1)) = some (ks ++ flatJ x)) := Lib.hid (HNX.out x hx)
          have hlen : (ks ++ flatJ x).length ≤ 2000 := by
            have h1 := collect_few HCN.out
            have h2 := cnt_kids n
            have h3 := HF.out.few
            omega
          have hown : ∀ z, v8.ownBlock = some z → H + 1 ≤ z ∧ z < wr.heap.size := fun z hz => KidsQ.own HKQ.out hz
          have hx6 := (node_cells hat).1
          have hk5 : k5 = x.kind := by injection hx6
          have hat2 : NodeAt (fun z => PQ z ∧ v8.ownBlock ≠ some z) wc x (.agg #[.int .i64 k5, .int .i64 n5, .string t5, .slice a5 l5 m5, .slice b5 o5 q5]) := hat.keep (fun z hzz _ => ⟨by
            rw [← HPQ.out]
            rcases hzz with hz1 | hz1
            · exact ⟨Or.inl hz1, fun e => by have := hown z e; have := hz1.2; omega⟩
            · exact ⟨Or.inr (by omega), fun e => by have := hown z e; omega⟩, rfl⟩)
          by_cases h6 : k5 = 6
          · have hfl : flatJ x = x.kids := by unfold flatJ; rw [if_pos (by rw [← hk5]; exact h6)]
            rw [hfl] at hlen HCN
            have g6 : (k5 == 6) = true := by rw [beq_iff_eq]; exact h6
            have HX9 := Lib.hid hx9
            have HZC : Hid (H + 1 ≤ wc.heap.size) := Lib.hid (Nat.le_trans hz hbw.size)
            have HOW := Lib.hid hown
            obtain ⟨-, -, -, -, ⟨a9, m9, e9⟩⟩ := node_cells hat2
            injection e9 with e91 e92 e93
            by_cases hxk : x.kids = []
            · have ho5 : o5 = 0 := by rw [e92, hxk]; rfl
              subst ho5
              obtain ⟨i0, hi0, -, -, -⟩ := info_parts info8N
              obtain ⟨ao8, c8, hv8⟩ := hkq9.form
              subst hv8
              have HQ6 := Lib.hid hkq9
              obtain ⟨cs, hown9, -⟩ := hkq9
              rw [hxk, List.append_nil] at HCN
              clear hbW hbw hbx hx6 hk5 hx9 hat hat2 hx hfl HAT e91 e92 e93 hxk
              go_wp2_with (at_builtin; refine wpList_append_zero rfl _ _ 23 25 rfl i0 5 (H + 1) Tryd.underlying23 hi0 _ _ cs rfl hown9 b5 q5 rfl ?_)
              go_wp2_with fail
              go_roundg (xm + 1 - (i + 1))
              case measure => omega
              case rel => exact ⟨i + 1, _, ks, rfl, by go_num, by omega, HBC.out.setCell (by rw [HHH.out]; exact Nat.le_refl _) _, by simpa [World.setCell] using HZC.out, HX9.out.set4 _, kids_set9 HQ6.out HPQ.out hGH, HCN⟩
            · obtain ⟨ad, news, hb5, ho5, hrow, hcell⟩ := kids_row hat2 hxk
              clear e91 e92 e93
              obtain ⟨KX, hKX⟩ : ∃ KX, x.kids = KX := ⟨_, rfl⟩
              rw [hKX] at hxk ho5 hrow hlen HCN
              subst hb5 ho5
              have hkl : 0 < KX.length := List.length_pos_iff.2 hxk
              have hll : ks.length + KX.length ≤ 65536 := by rw [List.length_append] at hlen; omega
              clear hbW hbw hbx hx6 hk5 hx9 hat hat2 hx hfl HAT hKX hxk
              obtain ⟨ao8, c8, hv8⟩ := hkq9.form
              subst hv8
              go_wp2_with (at_builtin; refine KidsQ.apps rfl _ _ rfl PQ (H + 1) _ _ ks KX news hkq9 hrow ad hcell q5 rfl rfl hkl hll HZC.out ?_)
              intro g6 c6 w6 hkq6 hg6 hat6
              have hb6 : Below W.heap.size W w6 := HBC.out.grown hg6 (by have := HZC.out; rw [HHH.out]; omega) (fun z e => by have := HOW.out z e; rw [HHH.out]; omega)
              have hz6 : H + 1 ≤ w6.heap.size := Nat.le_trans HZC.out hg6.size
              have hx6 := HX9.out.same (hg6.block H (by have := HZC.out; omega) (fun e => by have := HOW.out H e.symm; omega))
              clear q4 k4
              have q4 := hx6.p4
              have k4 := hx6.free 4
              have HQ6 := Lib.hid hkq6
              have HG6 := Lib.hid hb6
              clear hkq9 hrow hcell hkq6 hg6 hat6 hb6 hlen hkl hll
              go_wp2_with fail
              go_roundg (xm + 1 - (i + 1))
              case measure => omega
              case rel => exact ⟨i + 1, _, ks ++ KX, rfl, by go_num, by omega, HG6.out.setCell (by rw [HHH.out]; exact Nat.le_refl _) _, by simpa [World.setCell] using hz6, hx6.set4 _, kids_set9 HQ6.out HPQ.out hGH, HCN⟩
          · have hfl : flatJ x = [x] := by unfold flatJ; rw [if_neg (by rw [← hk5]; exact h6)]
            rw [hfl] at hlen HCN
            have g6 : (k5 == 6) = false := by rw [beq_eq_false_iff_ne]; exact h6
            have HAL : Hid (Below wc.heap.size wc (wc.alloc (.cells #[.int .i64 k5, .int .i64 n5, .string t5, .slice a5 l5 m5, .slice b5 o5 q5] 25))) := Lib.hid ((Below.refl _ wc).alloc (Nat.le_refl _) _)
            have hkq2 := KidsQ.same hkq9 (fun g hl => HAL.out.block g hl)
            have hat3 := hat2.keep (kept_below HAL.out)
            have hat4 : KidsAt (fun z => PQ z ∧ v8.ownBlock ≠ some z) (wc.alloc (.cells #[.int .i64 k5, .int .i64 n5, .string t5, .slice a5 l5 m5, .slice b5 o5 q5] 25)) [x] [.int .i64 k5, .int .i64 n5, .string t5, .slice a5 l5 m5, .slice b5 o5 q5] := kids_snoc hat3 kids_nil
            have HX9 := Lib.hid hx9
            have HZC : Hid (H + 1 ≤ wc.heap.size) := Lib.hid (Nat.le_trans hz hbw.size)
            have HOW := Lib.hid hown
            have HBW9 := Lib.hid hbw
            clear hbW hbw hbx hx6 hk5 hx9 hat hat2 hat3 hx hkq9 hfl h6 HAT
            obtain ⟨ao8, c8, hv8⟩ := hkq2.form
            subst hv8
            go_wp2_with (at_builtin; refine KidsQ.apps rfl _ _ rfl PQ (H + 1) _ _ ks [x] _ hkq2 hat4 ⟨wc.heap.size, 0, none⟩ (fun q u hq => World.news_of_block (Kit.fresh_block wc _ _) q u hq) 1 rfl rfl (by simp) (by simp at hlen ⊢; omega) (by have := HZC.out; simp; omega) ?_)
            intro g6 c6 w6 hkq6 hg6 hat6
            have hb6 : Below W.heap.size W w6 := (HBC.out.trans (HAL.out.mono HBC.out.size)).grown hg6 (by have := HZC.out; have := HAL.out.size; rw [HHH.out]; omega) (fun z e => by have := HOW.out z e; rw [HHH.out]; omega)
            have hz6 : H + 1 ≤ w6.heap.size := Nat.le_trans HZC.out (Nat.le_trans HAL.out.size hg6.size)
            have hx6 := (HX9.out.alloc (.cells #[.int .i64 k5, .int .i64 n5, .string t5, .slice a5 l5 m5, .slice b5 o5 q5] 25)).same (hg6.block H (by have := HZC.out; have := HAL.out.size; omega) (fun e => by have := HOW.out H e.symm; omega))
            clear q4 k4
            have q4 := hx6.p4
            have k4 := hx6.free 4
            have HL6 := Lib.hid hlen
            have HQ6 := Lib.hid hkq6
            have HG6 := Lib.hid hb6
            clear hkq2 hat4 hkq6 hg6 hat6 hb6 hlen
            go_wp2_with fail
            go_roundg (xm + 1 - (i + 1))
            case measure => omega
            case rel => exact ⟨i + 1, _, ks ++ [x], rfl, by go_num, by omega, HG6.out.setCell (by rw [HHH.out]; exact Nat.le_refl _) _, by simpa [World.setCell] using hz6, hx6.set4 _, kids_set9 (by simpa using HQ6.out) HPQ.out hGH, HCN⟩
    · have gi : decide ((i : Int) < (xm : Int)) = false := by rw [decide_eq_false_iff_not]; omega
      have q0 := hx8.p0
      have q1 := hx8.p1
      have q2 := hx8.p2
      have q3 := hx8.p3
      have q4 := hx8.p4
      have hRx := HRX.out.same (hb.block _ (by rw [HHH.out]; omega))
      have f0 := hRx.free 0
      have f1 := hRx.free 1
      have f2 := hRx.free 2
      have f3 := hRx.free 3
      have f4 := hRx.free 4
      have z0 := hRx.p0
      have z1 := hRx.p1
      have z2 := hRx.p2
      have z3 := hRx.p3
      have z4 := hRx.p4
      obtain ⟨ao8, c8, hv8⟩ := hkq.form
      subst hv8
      have HCE : Hid ((collect (followP num9 l) n.kids).map arrK = some (arrK ks)) := Lib.hid (by
        have h9 := HC.out
        rw [List.take_of_length_le (by have := HNV.out; omega)] at h9
        rw [h9]; rfl)
      have HKQ := Lib.hid hkq
      have HBR := Lib.hid hb
      clear hkq hb
      go_wp2_with fail
      refine bodyPost_ret (find_result rfl _ rfl rfl (hRx.setAll _ _ _ _ _)) rfl ?_
      rw [HCE.out]
      have hwW : Below w.heap.size w wr := HB.out.trans (HBR.out.mono HB.out.size)
      refine ⟨set5_below hwW (by rw [HWS.out]; exact Nat.le_refl _) _ _ _ _ _, _, _, _, _, _, _, _, _, _, rfl, (arr_at (P := fun g => (P g ∧ g < G) ∨ H + 1 ≤ g) HKQ.out (fun g hg => by rw [← HPQ.out] at hg; exact hg) (fun g hg => Or.inr hg)).keep (fun g hg hl => ⟨?_, putN_block wr G _ _ _ _ _ g ?_⟩)⟩
      · rcases hg with hg | hg
        · exact Or.inl hg.1
        · exact Or.inr (by rw [HWS.out]; omega)
      · rcases hg with hg | hg
        · have := hg.2; omega
        · omega
end Go.Proofs.YtoofcclcimkipaaDoor.J9
namespace Go.Proofs.YtoofcclcimkipaaDoor.J9
open Go Go.RowKit Go.Joins Kit J7 Nds J8

set_option maxHeartbeats 8000000 in
set_option maxRecDepth 100000 in
theorem cfollow_star (p : ByteArray) (hps : p = starB) (l : List ByteArray) (ih : EachOk l) (P : Nat → Prop) (n : J) (dd : Nat) (hr : RightIn dd n) (ht : Tame n) (hcn : cnt n ≤ 2000) (h6 : n.kind = 6) (w : World) (c0 c1 c2 c3 c4 : Value) (al : Option Addr) (cap : Nat) (hN : NodeAt P w n (.agg #[c0, c1, c2, c3, c4])) (hK : KeysIn w al (p :: l)) (hpz : ∀ q ∈ p :: l, q.size ≤ 1000) (hE : EnvP w) (hl : (p :: l).length ≤ 1001) (hc : (p :: l).length ≤ cap) (hc2 : cap ≤ 9223372036854775807) :
    Calls Tryd.prog 21 #[.agg #[c0, c1, c2, c3, c4], .slice al (p :: l).length cap] w fun e w' => FLeft P (followP num9 (p :: l) n) w e w' := by
  obtain ⟨e0, -, -, -, ⟨a4', m4', e4⟩⟩ := node_cells hN
  obtain ⟨xk, xn, xt, xa, xl, xc, xb, xm, xd, rfl, rfl, rfl, rfl, rfl⟩ := node_forms hN
  obtain ⟨W, hW⟩ : ∃ W, ((w.alloc (.cells #[.int .i64 xk, .int .i64 xn, .string xt, .slice xa xl xc, .slice xb xm xd] 25)).alloc (.cells #[.int .i64 0, .int .i64 0, .string ⟨#[]⟩, .slice none 0 0, .slice none 0 0] 25)) = W := ⟨_, rfl⟩
  have hb0 : Below w.heap.size w W := by rw [← hW]; exact ((Below.refl _ w).alloc (Nat.le_refl _) _).alloc (by simp) _
  have hA : Bx w.heap.size (.int .i64 xk) (.int .i64 xn) (.string xt) (.slice xa xl xc) (.slice xb xm xd) W := by rw [← hW]; exact (Bx.made w _ _ _ _ _).alloc _
  have hR : Bx (w.heap.size + 1) (.int .i64 0) (.int .i64 0) (.string ⟨#[]⟩) (.slice none 0 0) (.slice none 0 0) W := by
    rw [← hW]
    have h9 := Bx.made (w.alloc (.cells #[.int .i64 xk, .int .i64 xn, .string xt, .slice xa xl xc, .slice xb xm xd] 25)) (.int .i64 0) (.int .i64 0) (.string ⟨#[]⟩) (.slice none 0 0) (.slice none 0 0)
    simpa using h9
  obtain ⟨nv, hnv⟩ : ∃ nv, n.kids.length = nv := ⟨_, rfl⟩
  rw [hnv] at e4
  injection e4 with e41 e42 e43
  subst e41 e42 e43
  have HNV := Lib.hid hnv
  have hvl : n.kids.length ≤ 65536 := by cases ht; assumption
  have gnv : (xm : Int) ≤ 65536 := by omega
  have hxk : xk = n.kind := by injection e0
  obtain rfl : xk = 6 := by rw [hxk]; exact h6
  have hps3 : (p.toList == [42]) = true := by
    rw [hps, show (starB : ByteArray).toList = [42] by unfold starB; rw [Lib.toList_data]]
    rfl
  have HPS := Lib.hid hps
  have HK6 := Lib.hid h6
  have HB := Lib.hid hb0
  have HN := Lib.hid hN
  have HK := Lib.hid hK
  have HF : Hid (Fine dd n) := Lib.hid ⟨hr, ht, hcn⟩
  obtain ⟨ag, ao, rfl, hp0⟩ := (hK.below hb0) 0 (by simp)
  simp only [Nat.add_zero, List.getElem_cons_zero] at hp0
  have HPZ : Hid (∀ q ∈ l, q.size ≤ 1000) := Lib.hid (fun q hq => hpz q (List.mem_cons_of_mem p hq))
  have HE := Lib.hid hE
  obtain ⟨L, hL⟩ : ∃ L, (p :: l).length = L := ⟨_, rfl⟩
  have hL1 : L = l.length + 1 := by rw [← hL]; rfl
  have HL1 := Lib.hid hL1
  rw [hL] at hl hc ⊢
  have g1 : (1 : Int) ≤ (L : Int) := by omega
  have g2 : (L : Int) ≤ (cap : Int) := by omega
  have g3 : (cap : Int) ≤ 9223372036854775807 := by omega
  have g4 : (L : Int) ≤ 1001 := by omega
  have g6 : (0 : Int) < (L : Int) := by omega
  have g7 : 0 < L := by omega
  have g8 : L ≠ 0 := by omega
  have g5 : ((L : Int) == 0) = false := by rw [beq_eq_false_iff_ne]; omega
  have HL2 := Lib.hid hL
  have HW := Lib.hid hW
  have HA := Lib.hid hA
  have HHC := Lib.hid hc
  obtain ⟨G, hG⟩ : ∃ G, w.heap.size = G := ⟨_, rfl⟩
  rw [hG] at hA hR
  have HR := Lib.hid hR
  have HG := Lib.hid hG
  have p0 := hA.p0
  have p1 := hA.p1
  have p2 := hA.p2
  have p3 := hA.p3
  have p4 := hA.p4
  have hGl := hR.lt
  have HAG := Lib.hid hA
  clear hN hb0 hW hA hR hK hL hL1 hc hc2 ht hcn hr e0 hl hvl hnv hpz hE hxk hps h6
  have HSF : Hid (followP num9 (p :: l) n = (collect (followP num9 l) n.kids).map arrK) := Lib.hid (by
    rw [HPS.out, star_follow HK6.out]
    cases collect (followP num9 l) n.kids <;> rfl)
  obtain ⟨r, hr⟩ : ∃ r, (collect (followP num9 l) n.kids).map arrK = r := ⟨_, rfl⟩
  have HRR := Lib.hid hr
  have HIH : Hid (∀ (aw : Option Addr) (cw : Nat), (∀ w', Below w.heap.size w w' → KeysIn w' aw l) → l.length ≤ cw → cw ≤ 9223372036854775807 → Calls Tryd.prog 29 #[.slice xb xm xd, .slice aw (L - 1) cw] W.drew fun e w2 => ∃ k n t a3 n3 m3 a4 n4 m4 b, e = .returned (.tuple #[.agg #[.int .i64 k, .int .i64 n, .string t, .slice a3 n3 m3, .slice a4 n4 m4], .bool b]) ∧ Below W.heap.size W w2 ∧ Hid (FLeft P r w (.returned (.tuple #[.agg #[.int .i64 k, .int .i64 n, .string t, .slice a3 n3 m3, .slice a4 n4 m4], .bool b])) (putN w2 (G + 1) (.int .i64 k) (.int .i64 n) (.string t) (.slice a3 n3 m3) (.slice a4 n4 m4)))) := Lib.hid (fun aw cw h1 h2 h3 => by
    have hbd : Below w.heap.size w W.drew := HB.out.drew
    have e1 : L - 1 = l.length := by have := HL1.out; omega
    rw [e1]
    refine (ih (fun g => P g ∧ g < w.heap.size) n dd HF.out W.drew _ _ _ _ xb xm xd aw cw ((HN.out.keep (fun g hg hl => ⟨⟨hg, hl⟩, hbd.block g hl⟩))) (h1 _ hbd) HPZ.out (HE.out.next hbd) (by have := HL1.out; omega) h2 h3).mono ?_
    intro e w2 hl
    rw [hr] at hl
    obtain ⟨k, n, t, a3, n3, m3, a4, n4, m4, b, rfl, hb, hf⟩ := left_put (G := G + 1) hbd (by rw [hG]; exact Nat.le_succ _) hGl hl
    exact ⟨_, _, _, _, _, _, _, _, _, _, rfl, ((Below.refl _ W).drew).trans hb, Lib.hid hf⟩)
  have HRX : Hid (Bx (G + 1) (.int .i64 0) (.int .i64 0) (.string ⟨#[]⟩) (.slice none 0 0) (.slice none 0 0) W) := HR
  have HKT : Hid (∀ w', Below w.heap.size w w' → KeysIn w' (tailA (some ⟨ag, ao, none⟩) cap) l) := Lib.hid (fun w' h => keys_tail (KeysIn.below HK.out h) (by have := HL2.out; have := HHC.out; omega))
  have HLC : Hid (l.length ≤ cap - 1) := Lib.hid (by have := HL1.out; have := HHC.out; omega)
  clear hr
  by_cases hc1 : cap = 1
  · have HKT2 : Hid (∀ w', Below w.heap.size w w' → KeysIn w' (some ⟨ag, ao, none⟩) l) := Lib.hid (fun w' h => by have h9 := HKT.out w' h; unfold tailA at h9; rw [if_pos hc1] at h9; exact h9)
    have HLC2 : Hid (l.length ≤ 0) := Lib.hid (by have := HLC.out; omega)
    go_enter Tryd.func21, Tryd.ntmps21
    go_upto_region 1 with fail
    rw [HW.out]
    (try rw [hG])
    go_wp2_with fail
    go_region_with ((refine (HIH.out _ _ HKT2.out HLC2.out (by decide)).mono ?_); rintro e w2 ⟨k6, n6, t6, a6, l6, m6, b6, o6, q6, bb, rfl, hb6, HFL⟩; (have hR6 := HRX.out.same (hb6.block _ hGl)); (have s0 := hR6.free 0); (have s1 := hR6.free 1); (have s2 := hR6.free 2); (have s3 := hR6.free 3); (have s4 := hR6.free 4); (have u0 := hR6.p0); (have u1 := hR6.p1); (have u2 := hR6.p2); (have u3 := hR6.p3); (have u4 := hR6.p4))
    all_goals
      go_wp2_with fail
      refine bodyPost_ret (find_result rfl _ rfl rfl (hR6.setAll _ _ _ _ _)) rfl ?_
      rw [HSF.out, HRR.out]
      exact HFL.out
  · have HKT2 : Hid (∀ w', Below w.heap.size w w' → KeysIn w' (some ⟨ag, ao + 1, none⟩) l) := Lib.hid (fun w' h => by have h9 := HKT.out w' h; unfold tailA at h9; rw [if_neg hc1] at h9; exact h9)
    have HCC : Hid (cap - 1 ≤ 9223372036854775807) := Lib.hid (by omega)
    go_enter Tryd.func21, Tryd.ntmps21
    go_upto_region 1 with fail
    rw [HW.out]
    (try rw [hG])
    go_wp2_with fail
    go_region_with ((refine (HIH.out _ _ HKT2.out HLC.out HCC.out).mono ?_); rintro e w2 ⟨k6, n6, t6, a6, l6, m6, b6, o6, q6, bb, rfl, hb6, HFL⟩; (have hR6 := HRX.out.same (hb6.block _ hGl)); (have s0 := hR6.free 0); (have s1 := hR6.free 1); (have s2 := hR6.free 2); (have s3 := hR6.free 3); (have s4 := hR6.free 4); (have u0 := hR6.p0); (have u1 := hR6.p1); (have u2 := hR6.p2); (have u3 := hR6.p3); (have u4 := hR6.p4))
    all_goals
      go_wp2_with fail
      refine bodyPost_ret (find_result rfl _ rfl rfl (hR6.setAll _ _ _ _ _)) rfl ?_
      rw [HSF.out, HRR.out]
      exact HFL.out
theorem cfollow_any : ∀ l : List ByteArray, CFollowOk l
  | [] => cfollow_nil
  | p :: l => by
    have ih := cfollow_any l
    intro P n dd hr ht hcn w c0 c1 c2 c3 c4 al cap hN hK hpz hE hl hc hc2
    by_cases h6 : n.kind = 6
    · by_cases hs : p = starB
      · exact cfollow_star p hs l (each9 l ih) P n dd hr ht hcn h6 w c0 c1 c2 c3 c4 al cap hN hK hpz hE hl hc hc2
      · exact cfollow_place p l ih P n dd hr ht hcn (fun _ => hs) w c0 c1 c2 c3 c4 al cap hN hK hpz hE hl hc hc2
    · exact cfollow_place p l ih P n dd hr ht hcn (fun h => absurd h h6) w c0 c1 c2 c3 c4 al cap hN hK hpz hE hl hc hc2
end Go.Proofs.YtoofcclcimkipaaDoor.J9
