/-
  The law FlagSizes returns true, whatever it is handed. Conditions: none.
-/
import Derived.Test.YtggnkpbadfabcaaFgAwake
import Derived.Test.YtggnkpbadfabcaaRfFold
import Derived.Test.YtggnkpbadfabcaaFBools
namespace Go.Proofs.Ytggnkpbadfabcaa.Fg
open Go Go.RowKit Go.Joins Kit

theorem up_fold {c : UInt8} (h1 : 97 ≤ c.toNat) (h2 : c.toNat ≤ 122) : Tx.foldB (c - 32) = Tx.foldB c ∧ (c - 32).toNat = c.toNat - 32 := by
  have e : (c - 32).toNat = c.toNat - 32 := by
    rw [UInt8.toNat_sub_of_le]
    · rfl
    · rw [UInt8.le_iff_toNat_le]; show 32 ≤ _; omega
  refine ⟨?_, e⟩
  have h3 := Tx.foldB_up (c := c - 32) (by omega) (by omega)
  rw [Tx.foldB_low (c := c) (by omega)]
  apply UInt8.toNat_inj.1
  rw [h3, e]
  omega
theorem fold_set {m : List UInt8} {k : Nat} (hk : k < m.length) (h1 : 97 ≤ m[k].toNat) (h2 : m[k].toNat ≤ 122) : Tx.foldL (m.set k (m[k] - 32)) = Tx.foldL m := by
  unfold Tx.foldL
  rw [List.map_set, (up_fold h1 h2).1]
  apply List.ext_getElem
  · simp
  · intro i h3 h4
    rw [List.getElem_set]
    split
    · rename_i e; subst e; simp
    · rfl
theorem key_fold {a b : List UInt8} (h : Tx.foldL a = Tx.foldL b) : keyL a = keyL b := by unfold keyL; rw [h]
theorem keyV_form (o : Option (List UInt8)) : ∃ (T : ByteArray) (b : Bool), keyV o = .tuple #[.string T, .bool b] := by
  cases o with
  | none => exact ⟨_, _, rfl⟩
  | some k => exact ⟨_, _, rfl⟩
theorem list_up {W : World} {A : Option Addr} {bs : List Bool} (h : F0.ListAt W A (bs.map .bool)) (h0 : 0 < bs.length) : ∃ g o, A = some ⟨g, o, none⟩ ∧ g < W.heap.size ∧ ∀ k (hk : k < bs.length), W.cell? ⟨g, o + k, none⟩ = some (.bool bs[k]) := by
  obtain ⟨g, o, h1, h2, _⟩ := h 0 (by rw [List.length_map]; exact h0)
  refine ⟨g, o, h1, h2, fun k hk => ?_⟩
  obtain ⟨g', o', h3, _, h4⟩ := h k (by rw [List.length_map]; exact hk)
  rw [h1] at h3
  cases h3
  rw [h4, List.getElem_map]

set_option maxHeartbeats 4000000 in
set_option maxRecDepth 100000 in
theorem flagSizes_walk (s : ByteArray) (A : Option Addr) (n c : Nat) (bs : List Bool) (w : World) (hl : bs.length = n) (hn : n ≤ 9223372036854775807) (hA : F0.ListAt w A (bs.map .bool)) :
    Calls Try.prog 6 #[.string s, .slice A n c] w fun e w' => e = .returned (.bool true) ∧ Below w.heap.size w w' := by
  subst hl
  by_cases ha : 100 < s.size
  · have g : (100 : Int) < s.size := by omega
    go_enter Try.func6, Try.ntmps6
    go_wp2_with fail
    refine (awake_any w).mono ?_
    rintro e w1 ⟨rfl, hb1⟩
    go_wp2_with fail
    go_ret
    exact ⟨rfl, hb1⟩
  have g : (s.size : Int) ≤ 100 := by omega
  have HUP : Hid (0 < bs.length → ∃ g o, A = some ⟨g, o, none⟩ ∧ g < w.heap.size ∧ ∀ k (hk : k < bs.length), w.cell? ⟨g, o + k, none⟩ = some (.bool bs[k])) := Lib.hid (list_up hA)
  have hfs : (Rf.fold s).size = s.size := by
    rw [Lib.size_eq, Lib.size_eq]
    exact Tx.foldL_length _
  have HFD : Hid ((Rf.fold s).data.toList = Tx.foldL s.data.toList) := Lib.hid rfl
  obtain ⟨F, hF⟩ : ∃ F, Rf.fold s = F := ⟨_, rfl⟩
  have HFC : Hid (Calls Try.prog 23 #[.string s] w fun e w' => e = .returned (.string F) ∧ Below w.heap.size w w') := Lib.hid (by rw [← hF]; exact Rf.fold_call s w (by omega))
  rw [hF] at hfs HFD
  have gF : F.size ≤ 100 := by omega
  obtain ⟨T, bb, hT⟩ := keyV_form (keyL s.data.toList)
  have HKS : Hid (∀ W, Calls Try.prog 10 #[.string s] W fun e w' => e = .returned (.tuple #[.string T, .bool bb]) ∧ Below W.heap.size W w') := Lib.hid (fun W => by rw [← hT]; exact key_any s W (by omega))
  have HKM : Hid (∀ (m : List UInt8) W, m.length ≤ 100 → Tx.foldL m = F.data.toList → Calls Try.prog 10 #[.string ⟨m.toArray⟩] W fun e w' => e = .returned (.tuple #[.string T, .bool bb]) ∧ Below W.heap.size W w') := Lib.hid (fun m W h1 h2 => by
    have h := key_any ⟨m.toArray⟩ W (by rw [Lib.size_eq]; simp only; omega)
    rw [show (ByteArray.mk m.toArray).data.toList = m from rfl, key_fold (a := m) (b := s.data.toList) (by rw [h2, HFD.out]), hT] at h
    exact h)
  have HN1 : Hid (∀ W, Calls Try.prog 10 #[.string ⟨#[92, 82, 101, 99, 101, 110, 116]⟩] W fun e w' => e = .returned (.tuple #[.string ⟨#[]⟩, .bool false]) ∧ Below W.heap.size W w') := Lib.hid (fun W => by
    have h := key_any ⟨#[92, 82, 101, 99, 101, 110, 116]⟩ W (by decide)
    rw [show (ByteArray.mk #[92, 82, 101, 99, 101, 110, 116]).data.toList = [92, 82, 101, 99, 101, 110, 116] from rfl, no_recent] at h
    exact h)
  have HN2 : Hid (∀ W, Calls Try.prog 10 #[.string ⟨#[92]⟩] W fun e w' => e = .returned (.tuple #[.string ⟨#[]⟩, .bool false]) ∧ Below W.heap.size W w') := Lib.hid (fun W => by
    have h := key_any ⟨#[92]⟩ W (by decide)
    rw [show (ByteArray.mk #[92]).data.toList = [92] from rfl, no_sign] at h
    exact h)
  have HFF : Hid (Tx.foldL F.data.toList = F.data.toList) := Lib.hid (by rw [HFD.out, Tx.foldL_twice])
  clear hF hT hfs hA ha
  go_enter Try.func6, Try.ntmps6
  go_wp2_with fail
  refine HFC.out.mono ?_
  rintro e w1 ⟨rfl, hb1⟩
  have hconv := run_bytes_of_string (P := Try.prog) w1 9 41 5 F Try.underlying9 Try.underlying41 Try.underlying5
  have hrow := rowB_made w1 F (grownCap w1 F.size 0 5)
  generalize grownCap w1 F.size 0 5 = cap at hconv hrow
  generalize hC : bytesRow F cap = C at hconv hrow
  have HC := Lib.hid hC
  clear hC
  go_wp2_with fail
  have hbr : Below w.heap.size w (w1.alloc (Obj.cells C 5 (C.size, C.size + 1))).drew := (hb1.alloc hb1.size _).drew
  have hs1 := hb1.size
  clear hconv hb1
  go_loopw [6] (fun i wr => ∃ (k : Nat) (m : List UInt8), (k : Int) ≤ F.size ∧ i = .int .i64 (k : Int) ∧ Hid (m.length = F.size) ∧ Hid (Tx.foldL m = F.data.toList) ∧ RowB wr w1.heap.size m ∧ Below w.heap.size w wr) (fun i _ => F.size - (intOf i).toNat)
  case atStart => exact ⟨0, F.data.toList, by omega, rfl, Lib.hid (Lib.size_eq F).symm, HFF, hrow, hbr⟩
  case round =>
    clear hrow hbr
    obtain ⟨k, m, hk, rfl, hml, hmf, hrow, hb⟩ := hrel
    by_cases hgo : k < F.size ∧ k < bs.length
    · obtain ⟨h1, h2⟩ := hgo
      have g1 : (k : Int) < F.size := by omega
      have g2 : (k : Int) < (bs.length : Int) := by omega
      obtain ⟨ug, uo, rfl, hug, hcell⟩ := HUP.out (by omega)
      have hkm : k < m.length := by rw [hml.out]; exact h1
      have cu : wr.cell? ⟨ug, uo + k, none⟩ = some (.bool bs[k]) := (hb.cell (p := ⟨ug, uo + k, none⟩) hug).trans (hcell k h2)
      have cm := hrow.cell k hkm
      have fm := hrow.free k hkm
      have hc0 := (m[k]).toNat_lt
      have HSET := Lib.hid (hrow.set k (m[k] - 32))
      have HFS : Hid (97 ≤ m[k].toNat → m[k].toNat ≤ 122 → Tx.foldL (m.set k (m[k] - 32)) = F.data.toList ∧ ((m[k] - 32).toNat : Int) = (m[k].toNat : Int) - 32) := Lib.hid (fun a b => ⟨by rw [fold_set hkm a b, hmf.out], by rw [(up_fold a b).2]; omega⟩)
      have HBS : Hid (∀ v, Below w.heap.size w (wr.setCell ⟨w1.heap.size, k, none⟩ v)) := Lib.hid (fun v => hb.setCell (p := ⟨w1.heap.size, k, none⟩) hs1 v)
      have HL : Hid ((m.set k (m[k] - 32)).length = F.size) := Lib.hid (by rw [List.length_set, hml.out])
      have HROW := Lib.hid hrow
      have HB := Lib.hid hb
      obtain ⟨x, hx⟩ : ∃ x, m[k].toNat = x := ⟨_, rfl⟩
      rw [hx] at cm hc0 HFS
      obtain ⟨b, hbk⟩ : ∃ b, bs[k] = b := ⟨_, rfl⟩
      rw [hbk] at cu
      clear hx hbk hcell hrow hb
      cases b
      · go_wp2_with fail
        go_roundw
        case rel => exact ⟨k + 1, m, by omega, by go_num, hml, hmf, HROW.out, HB.out⟩
        case measure => simp [intOf]; omega
      · rcases (show (x : Int) < 97 ∨ ((97 : Int) ≤ x ∧ (x : Int) ≤ 122) ∨ ((97 : Int) ≤ x ∧ 122 < (x : Int)) by omega) with h | ⟨ha, hb'⟩ | ⟨ha, hb'⟩
        · go_wp2_with fail
          go_roundw
          case rel => exact ⟨k + 1, m, by omega, by go_num, hml, hmf, HROW.out, HB.out⟩
          case measure => simp [intOf]; omega
        · have hst := HFS.out (by omega) (by omega)
          have HST := Lib.hid hst
          clear hst
          go_wp2_with fail
          go_roundw
          case rel =>
            refine ⟨k + 1, m.set k (m[k] - 32), by omega, by go_num, HL, Lib.hid HST.out.1, ?_, HBS.out _⟩
            have := HSET.out
            rw [HST.out.2] at this
            exact this
          case measure => simp [intOf]; omega
        · go_wp2_with fail
          go_roundw
          case rel => exact ⟨k + 1, m, by omega, by go_num, hml, hmf, HROW.out, HB.out⟩
          case measure => simp [intOf]; omega
    · have HEND : Hid (m.length ≤ 100) := Lib.hid (by rw [hml.out]; exact gF)
      have HROW := Lib.hid hrow
      clear hrow
      rcases (show ¬ (k : Int) < F.size ∨ ((k : Int) < F.size ∧ ¬ (k : Int) < (bs.length : Int)) by omega) with h | ⟨h, h'⟩
      all_goals
        clear hgo
        go_wp2_with fail
        refine (HKS.out wr).mono ?_
        rintro e w2 ⟨rfl, hb2⟩
        have hst := RowB.string cap (HROW.out.below hb2)
        rw [hml.out] at hst
        replace hb2 := hb.trans (hb2.mono hb.size)
        go_wp2_with fail
        refine (HKM.out m w2 HEND.out hmf.out).mono ?_
        rintro e w3 ⟨rfl, hb3⟩
        replace hb3 := hb2.trans (hb3.mono hb2.size)
        go_wp2_with fail
        refine (HN1.out w3).mono ?_
        rintro e w4 ⟨rfl, hb4⟩
        replace hb4 := hb3.trans (hb4.mono hb3.size)
        go_wp2_with fail
        refine (HN2.out w4).mono ?_
        rintro e w5 ⟨rfl, hb5⟩
        replace hb5 := hb4.trans (hb5.mono hb4.size)
        go_wp2_with fail
        refine (awake_any w5).mono ?_
        rintro e w6 ⟨rfl, hb6⟩
        replace hb6 := hb5.trans (hb6.mono hb5.size)
        go_wp2_with fail
        go_ret
        exact ⟨rfl, hb6⟩
end Go.Proofs.Ytggnkpbadfabcaa.Fg
