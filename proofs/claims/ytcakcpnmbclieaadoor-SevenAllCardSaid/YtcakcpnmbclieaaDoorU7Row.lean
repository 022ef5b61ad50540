/-
  The document's answer for package utf7, as the statements have it: row returns what a row of letters says. Condition: the text has at most 2^20 bytes.
-/
import Derived.Test.YtcakcpnmbclieaaDoorU7Plain
import Derived.Test.YtcakcpnmbclieaaDoorU8Ref
import Derived.Test.YtcakcpnmbclieaaDoorB6RefLoose
import Derived.Test.YtcakcpnmbclieaaDoorBuf2
namespace Go.Proofs.YtcakcpnmbclieaaDoor.U7
open Go Go.RowKit Go.Joins Kit
open U8 (putL sizeN putL_length putB ref_put)
open B6 (looseL)

/-! ### A row of bytes that is written in place -/
def mapTo (f : UInt8 → UInt8) (l : List UInt8) (k : Nat) : List UInt8 := (l.take k).map f ++ l.drop k
theorem mapTo_length (f : UInt8 → UInt8) (l : List UInt8) (k : Nat) : (mapTo f l k).length = l.length := by
  unfold mapTo
  rw [List.length_append, List.length_map, ← List.length_append, List.take_append_drop]
theorem mapTo_at (f : UInt8 → UInt8) (l : List UInt8) (k : Nat) (h : k < l.length) : (mapTo f l k)[k]'(by rw [mapTo_length]; exact h) = l[k] := by
  unfold mapTo
  have hk : ((l.take k).map f).length = k := by rw [List.length_map, List.length_take]; omega
  rw [List.getElem_append_right (by omega)]
  simp only [List.getElem_drop, hk, Nat.sub_self, Nat.add_zero]
theorem set_mid (l : List UInt8) (a b : UInt8) (r : List UInt8) : (l ++ b :: r).set l.length a = l ++ a :: r := by
  induction l with
  | nil => rfl
  | cons x l ih => simp [ih]
theorem mapTo_set (f : UInt8 → UInt8) (l : List UInt8) (k : Nat) (h : k < l.length) : (mapTo f l k).set k (f l[k]) = mapTo f l (k + 1) := by
  unfold mapTo
  have hk : ((l.take k).map f).length = k := by rw [List.length_map, List.length_take]; omega
  rw [List.drop_eq_getElem_cons h]
  have := set_mid ((l.take k).map f) (f l[k]) l[k] (l.drop (k + 1))
  rw [hk] at this
  rw [this, List.take_succ_eq_append_getElem h, List.map_append, List.append_assoc]
  rfl
theorem mapTo_keep (f : UInt8 → UInt8) (l : List UInt8) (k : Nat) (h : k < l.length) (hn : f l[k] = l[k]) : mapTo f l k = mapTo f l (k + 1) := by
  unfold mapTo
  rw [List.take_succ_eq_append_getElem h, List.map_append, List.append_assoc, List.drop_eq_getElem_cons h]
  simp [hn]
theorem mapTo_all (f : UInt8 → UInt8) (l : List UInt8) (k : Nat) (h : l.length ≤ k) : mapTo f l k = l.map f := by
  unfold mapTo
  rw [List.take_of_length_le h, List.drop_of_length_le h, List.append_nil]

/-! ### Steps through UTF-16 -/
def at16 (b : ByteArray) (k : Nat) (h : k + 1 < b.size) : Nat := b[k].toNat * 256 + b[k + 1].toNat
theorem drop_two (b : ByteArray) (k : Nat) (h : k + 1 < b.size) : b.data.toList.drop k = b[k] :: b[k + 1] :: b.data.toList.drop (k + 2) := by
  have h1 : k < b.data.toList.length := by rw [← Lib.size_eq]; omega
  have h2 : k + 1 < b.data.toList.length := by rw [← Lib.size_eq]; omega
  rw [List.drop_eq_getElem_cons h1, List.drop_eq_getElem_cons h2, byte_get b k (by omega), byte_get b (k + 1) h]
theorem un16_short (a b : UInt8) {r : List UInt8} (h : r.length < 2) : un16 (a :: b :: r) = putL ((a.toNat * 256 + b.toNat : Nat) : Int) ++ un16 r := by
  rcases r with _ | ⟨c, _ | ⟨d, r⟩⟩
  · simp [un16]
  · simp [un16]
  · simp only [List.length_cons] at h; omega
theorem un16_end {r : List UInt8} (h : r.length < 2) : un16 r = [] := by
  rcases r with _ | ⟨c, _ | ⟨d, r⟩⟩
  · simp [un16]
  · simp [un16]
  · simp only [List.length_cons] at h; omega
def isHigh (x : Nat) : Prop := 55296 ≤ x ∧ x ≤ 56319
def isLow (x : Nat) : Prop := 56320 ≤ x ∧ x ≤ 57343
theorem step_one (b : ByteArray) (k : Nat) (h : k + 1 < b.size) (hn : ¬ isHigh (at16 b k h) ∨ b.size ≤ k + 3) : un16 (b.data.toList.drop k) = putL ((at16 b k h : Nat) : Int) ++ un16 (b.data.toList.drop (k + 2)) := by
  rw [drop_two b k h]
  rcases hn with hn | hn
  · exact un16_one hn _
  · exact un16_short _ _ (by rw [List.length_drop, ← Lib.size_eq]; omega)
theorem step_not (b : ByteArray) (k : Nat) (h : k + 3 < b.size) (hn : ¬ isLow (at16 b (k + 2) h)) : un16 (b.data.toList.drop k) = putL ((at16 b k (by omega) : Nat) : Int) ++ un16 (b.data.toList.drop (k + 2)) := by
  rw [drop_two b k (by omega), drop_two b (k + 2) h, un16, if_neg (fun e => hn e.2)]
  rfl
theorem step_pair (b : ByteArray) (k : Nat) (h : k + 3 < b.size) (h1 : isHigh (at16 b k (by omega))) (h2 : isLow (at16 b (k + 2) h)) :
    un16 (b.data.toList.drop k) = putL ((65536 + (at16 b k (by omega) - 55296) * 1024 + (at16 b (k + 2) h - 56320) : Nat) : Int) ++ un16 (b.data.toList.drop (k + 4)) := by
  rw [drop_two b k (by omega), drop_two b (k + 2) h, un16, if_pos ⟨h1, h2⟩]
  rfl
theorem put_as {r : Int} {N : Nat} (h : r = (N : Int)) (w : World) :
    Calls Tryd.prog 16 #[.int .i64 r] w fun e w' => e = .returned (.string (putB (N : Int))) ∧ Below w.heap.size w w' := by
  subst h
  exact ref_put _ w
theorem put_len (r : Int) : (putL r).length ≤ 4 := by rw [putL_length]; exact U8.sizeN_le r

set_option maxHeartbeats 4000000 in
set_option maxRecDepth 100000 in
theorem row_any (s : ByteArray) (w : World) (hs : s.size ≤ 16777216) :
    Calls Tryd.prog 28 #[.string s] w fun e w' => e = .returned (.string ⟨(backL s.data.toList).toArray⟩) ∧ Below w.heap.size w w' := by
  have hconv := run_bytes_of_string (P := Tryd.prog) w 9 35 5 s Tryd.underlying9 Tryd.underlying35 Tryd.underlying5
  have hrow := rowB_made w s (grownCap w s.size 0 5)
  generalize grownCap w s.size 0 5 = cap at hconv hrow
  generalize hC : bytesRow s cap = C at hconv hrow
  have hrow0 : RowB (w.alloc (Obj.cells C 5 (C.size, C.size + 1))) w.heap.size (mapTo uncom s.data.toList 0) := by unfold mapTo; simpa using hrow
  have HC := Lib.hid hC
  clear hC hrow
  go_enter Tryd.func28, Tryd.ntmps28
  go_wp2_with fail
  clear hconv
  go_loopw [4] (fun i wr => ∃ k : Nat, k ≤ s.size ∧ i = .int .i64 k ∧ RowB wr w.heap.size (mapTo uncom s.data.toList k) ∧ Below w.heap.size w wr) (fun i _ => s.size - (intOf i).toNat)
  case atStart => exact ⟨0, by omega, rfl, hrow0, ((Below.refl _ w).alloc (Nat.le_refl _) _).drew⟩
  case round =>
    clear hrow0
    obtain ⟨k, hk, rfl, hrow, hb⟩ := hrel
    by_cases hlt : k < s.size
    · have hl : k < s.data.toList.length := by rw [← Lib.size_eq]; exact hlt
      have hlk : k < (mapTo uncom s.data.toList k).length := by rw [mapTo_length]; exact hl
      have hcell := hrow.cell k hlk
      rw [mapTo_at _ _ _ hl, byte_get s k hlt] at hcell
      have hfz := hrow.free k hlk
      have hki : (k : Int) < s.size := by omega
      by_cases h1 : s[k].toNat = 44
      · have hc44 : s[k] = 44 := UInt8.toNat.inj h1
        have hset := hrow.set k 47
        have hfs := mapTo_set uncom _ k hl
        rw [byte_get s k hlt, show uncom s[k] = 47 by rw [uncom, if_pos hc44]] at hfs
        rw [hfs] at hset
        have hb2 := hb.setCell (p := ⟨w.heap.size, k, none⟩) (Nat.le_refl _) (.int .u8 (((47 : UInt8).toNat : Nat) : Int))
        have HSET := Lib.hid hset
        have q1 : ((s[k].toNat : Int) == 44) = true := by rw [beq_iff_eq]; omega
        clear hfs hset h1 hc44
        go_wp2
        go_roundw
        case rel => exact ⟨k + 1, by omega, by go_num, HSET.out, hb2⟩
        case measure => simp [intOf]; omega
      · have hkp := Lib.hid (mapTo_keep uncom s.data.toList k hl (by rw [byte_get s k hlt, uncom, if_neg (fun e => h1 (by rw [e]; rfl))]))
        have q1 : ((s[k].toNat : Int) == 44) = false := by rw [beq_eq_false_iff_ne]; omega
        clear h1
        go_wp2
        go_roundw
        case rel => exact ⟨k + 1, by omega, by go_num, by rw [← hkp.out]; exact hrow, hb⟩
        case measure => simp [intOf]; omega
    · have hall := mapTo_all uncom s.data.toList k (by rw [← Lib.size_eq]; omega)
      rw [hall] at hrow
      have hstr := hrow.string cap
      rw [show ((s.data.toList.map uncom).length) = s.size by rw [List.length_map, ← Lib.size_eq]] at hstr
      have hki : ¬ (k : Int) < s.size := by omega
      clear hrow hall hlt
      obtain ⟨t, ht⟩ : ∃ t : ByteArray, (⟨(s.data.toList.map uncom).toArray⟩ : ByteArray) = t := ⟨_, rfl⟩
      have hts : t.size = s.size := by rw [← ht]; show (s.data.toList.map uncom).toArray.size = _; rw [List.size_toArray, List.length_map, ← Lib.size_eq]
      have hback := Lib.hid (show un16 (looseL t.data.toList) = backL s.data.toList by rw [← ht]; simp [backL])
      rw [ht] at hstr
      clear ht
      go_wp2_with fail
      refine (B6.rloose_any t wr (by omega)).mono ?_
      rintro e w2 ⟨rfl, hb2⟩
      have hbb := hb.trans (hb2.mono hb.size)
      have hlo := B6.loose_length t.data.toList
      obtain ⟨b, hbd⟩ : ∃ b : ByteArray, (⟨(looseL t.data.toList).toArray⟩ : ByteArray) = b := ⟨_, rfl⟩
      have hbs : b.size ≤ s.size := by rw [← hts, Lib.size_eq t, ← hbd]; show (looseL t.data.toList).toArray.size ≤ _; simpa using hlo
      have hst := Lib.hid (show [] ++ un16 (b.data.toList.drop 0) = backL s.data.toList by rw [List.drop_zero, ← hback.out, ← hbd]; simp)
      rw [hbd]
      have hB0 : Buf w (.slice none 0 0) [] w2 := Buf.empty hbb
      clear hbd hlo hb2 hbb hstr hb
      go_wp2_with fail
      go_loopw [6, 7] (fun v i wx => ∃ (k : Nat) (out : List UInt8), k ≤ b.size ∧ out.length ≤ 4 * k ∧ i = .int .i64 k ∧ Hid (out ++ un16 (b.data.toList.drop k) = backL s.data.toList) ∧ Buf w v out wx) (fun _ i _ => b.size - (intOf i).toNat)
      case atStart => exact ⟨0, [], by omega, by simp, rfl, hst, hB0⟩
      case round =>
        clear hst hB0
        obtain ⟨k, out, hk, hol, rfl, hq, hB⟩ := hrel
        by_cases hlt : k + 1 < b.size
        · have g1 : (k : Int) + 1 < b.size := by omega
          have g0 : (k : Int) < b.size := by omega
          have c0 := b[k].toNat_lt
          have c1 := b[k + 1].toNat_lt
          have m1 : IntKind.i64.wrap ((k : Int) + 1) = (k : Int) + 1 := IntWalk.i64_in _ (by omega)
          have m2 : 0 ≤ (k : Int) + 1 := by omega
          have m3 : ((k : Int) + 1).toNat = k + 1 := by omega
          obtain ⟨X, hX⟩ : ∃ X : Nat, at16 b k hlt = X := ⟨_, rfl⟩
          have hX2 : (b[k].toNat : Int) * 256 + b[k + 1].toNat = (X : Int) := by rw [← hX]; unfold at16; omega
          have xl : (X : Int) ≤ 65535 := by omega
          have e1 : bits .or .i64 ((b[k].toNat : Int) * 256) (b[k + 1].toNat : Int) = (X : Int) := by rw [B6.or8 _ _ (by omega) (by omega) (by omega) (by omega) (by omega), hX2]
          have e2 : IntKind.i64.wrap ((b[k].toNat : Int) * 256) = (b[k].toNat : Int) * 256 := IntWalk.i64_in _ (by omega)
          have HX := Lib.hid hX
          clear hX2 hX
          by_cases hh : isHigh X
          · have p1 : 55296 ≤ (X : Int) := by have := hh.1; omega
            have p2 : (X : Int) ≤ 56319 := by have := hh.2; omega
            by_cases hz : k + 3 < b.size
            · have g3 : (k : Int) + 3 < b.size := by omega
              have g2 : (k : Int) + 2 < b.size := by omega
              have c2 := b[k + 2].toNat_lt
              have c3 := b[k + 3].toNat_lt
              have n1 : IntKind.i64.wrap ((k : Int) + 2) = (k : Int) + 2 := IntWalk.i64_in _ (by omega)
              have n2 : 0 ≤ (k : Int) + 2 := by omega
              have n3 : ((k : Int) + 2).toNat = k + 2 := by omega
              have n4 : IntKind.i64.wrap ((k : Int) + 3) = (k : Int) + 3 := IntWalk.i64_in _ (by omega)
              have n5 : 0 ≤ (k : Int) + 3 := by omega
              have n6 : ((k : Int) + 3).toNat = k + 3 := by omega
              obtain ⟨Y, hY⟩ : ∃ Y : Nat, at16 b (k + 2) hz = Y := ⟨_, rfl⟩
              have hY2 : (b[k + 2].toNat : Int) * 256 + b[k + 3].toNat = (Y : Int) := by have h16 : at16 b (k + 2) hz = b[k + 2].toNat * 256 + b[k + 3].toNat := rfl; omega
              have yl : (Y : Int) ≤ 65535 := by omega
              have e3 : bits .or .i64 ((b[k + 2].toNat : Int) * 256) (b[k + 3].toNat : Int) = (Y : Int) := by rw [B6.or8 _ _ (by omega) (by omega) (by omega) (by omega) (by omega), hY2]
              have e4 : IntKind.i64.wrap ((b[k + 2].toNat : Int) * 256) = (b[k + 2].toNat : Int) * 256 := IntWalk.i64_in _ (by omega)
              have HY := Lib.hid hY
              clear hY2 hY
              by_cases hw : isLow Y
              · have hstep := (show un16 (b.data.toList.drop k) = putL ((65536 + (X - 55296) * 1024 + (Y - 56320) : Nat) : Int) ++ un16 (b.data.toList.drop (k + 4)) by rw [step_pair b k hz (by rw [HX.out]; exact hh) (by rw [HY.out]; exact hw), HX.out, HY.out])
                have r1 : 56320 ≤ (Y : Int) := by have := hw.1; omega
                have r2 : (Y : Int) ≤ 57343 := by have := hw.2; omega
                obtain ⟨N, hN⟩ : ∃ N : Nat, 65536 + (X - 55296) * 1024 + (Y - 56320) = N := ⟨_, rfl⟩
                rw [hN] at hstep
                replace hstep := Lib.hid hstep
                have hNi : 65536 + ((X : Int) - 55296) * 1024 + Y - 56320 = (N : Int) := by omega
                clear hw hh hN
                go_wp2_with fail
                refine wp_region_any (by kernel_rfl) ?_
                try (change wpAny _ _ _ _ _ _ _ (World.drew _))
                refine wpAny_take (i := 0) (v := ?_) rfl (by kernel_rfl) (by kernel_rfl) (by kernel_rfl) (fun _ _ _ h => h) (Or.inl ⟨by rfl, ?_⟩) ?_
                rotate_left 1
                · (intro w; go_simp) <;> with_reducible rfl
                refine wpAny_take (i := 1) (v := ?_) rfl (by kernel_rfl) (by kernel_rfl) (by kernel_rfl) (fun _ _ _ h => h) (Or.inl ⟨by rfl, ?_⟩) ?_
                rotate_left 1
                · (intro w; go_simp) <;> with_reducible rfl
                refine wpAny_take (i := 2) (v := ?_) rfl (by kernel_rfl) (by kernel_rfl) (by kernel_rfl) (fun _ _ _ h => h) (Or.inl ⟨by rfl, ?_⟩) ?_
                rotate_left 1
                · (intro w; go_simp) <;> with_reducible rfl
                refine wpAny_take (i := 3) (v := ?_) rfl (by kernel_rfl) (by kernel_rfl) (by kernel_rfl) (fun _ _ _ h => h) (Or.inl ⟨by rfl, ?_⟩) ?_
                rotate_left 1
                · (intro w; go_simp) <;> with_reducible rfl
                refine wpAny_take (i := 4) (v := ?_) rfl (by kernel_rfl) (by kernel_rfl) (by kernel_rfl) (fun _ _ _ h => h) (Or.inl ⟨by rfl, ?_⟩) ?_
                rotate_left 1
                · (intro w; go_simp) <;> with_reducible rfl
                refine wpAny_take (i := 5) (v := ?_) rfl (by kernel_rfl) (by kernel_rfl) (by kernel_rfl) (fun _ _ _ h => h) (Or.inl ⟨by rfl, ?_⟩) ?_
                rotate_left 1
                · (intro w; go_simp) <;> with_reducible rfl
                refine wpAny_take (i := 6) (v := ?_) rfl (by kernel_rfl) (by kernel_rfl) (by kernel_rfl) (fun _ _ _ h => h) (Or.inl ⟨by rfl, ?_⟩) ?_
                rotate_left 1
                · (intro w; go_simp) <;> with_reducible rfl
                refine wpAny_take (i := 7) (v := ?_) rfl (by kernel_rfl) (by kernel_rfl) (by kernel_rfl) (fun _ _ _ h => h) (Or.inl ⟨by rfl, ?_⟩) ?_
                rotate_left 1
                · (intro w; go_simp) <;> with_reducible rfl
                refine wpAny_take (i := 8) (v := ?_) rfl (by kernel_rfl) (by kernel_rfl) (by kernel_rfl) (fun _ _ _ h => h) (Or.inl ⟨by rfl, ?_⟩) ?_
                rotate_left 1
                · (intro w; go_simp) <;> with_reducible rfl
                refine wpAny_take (i := 9) (v := ?_) rfl (by kernel_rfl) (by kernel_rfl) (by kernel_rfl) (fun _ _ _ h => h) (Or.inl ⟨by rfl, ?_⟩) ?_
                rotate_left 1
                · (intro w; go_simp) <;> with_reducible rfl
                refine wpAny_take (i := 10) (v := ?_) rfl (by kernel_rfl) (by kernel_rfl) (by kernel_rfl) (fun _ _ _ h => h) (Or.inl ⟨by rfl, ?_⟩) ?_
                rotate_left 1
                · (intro w; go_simp) <;> with_reducible rfl
                refine wpAny_take (i := 11) (v := ?_) rfl (by kernel_rfl) (by kernel_rfl) (by kernel_rfl) (fun _ _ _ h => h) (Or.inl ⟨by rfl, ?_⟩) ?_
                rotate_left 1
                · (intro w; go_simp) <;> with_reducible rfl
                refine wpAny_done (by kernel_rfl) ?_ _
                go_wp2_with fail
                refine wp_region_any (by kernel_rfl) ?_
                try (change wpAny _ _ _ _ _ _ _ (World.drew _))
                refine wpAny_take (i := 0) (v := ?_) rfl (by kernel_rfl) (by kernel_rfl) (by kernel_rfl) (fun _ _ _ h => h) (Or.inl ⟨by rfl, ?_⟩) ?_
                rotate_left 1
                · (intro w; go_simp) <;> with_reducible rfl
                refine wpAny_take (i := 1) (v := ?_) rfl (by kernel_rfl) (by kernel_rfl) (by kernel_rfl) (fun _ _ _ h => h) (Or.inl ⟨by rfl, ?_⟩) ?_
                rotate_left 1
                · (intro w; go_simp) <;> with_reducible rfl
                refine wpAny_take (i := 2) (v := ?_) rfl (by kernel_rfl) (by kernel_rfl) (by kernel_rfl) (fun _ _ _ h => h) (Or.inl ⟨by rfl, ?_⟩) ?_
                rotate_left 1
                · (intro w; go_simp) <;> with_reducible rfl
                refine wpAny_take (i := 3) (v := ?_) rfl (by kernel_rfl) (by kernel_rfl) (by kernel_rfl) (fun _ _ _ h => h) (Or.inl ⟨by rfl, ?_⟩) ?_
                rotate_left 1
                · (intro w; go_simp) <;> with_reducible rfl
                refine wpAny_take (i := 4) (v := ?_) rfl (by kernel_rfl) (by kernel_rfl) (by kernel_rfl) (fun _ _ _ h => h) (Or.inl ⟨by rfl, ?_⟩) ?_
                rotate_left 1
                · (intro w; go_simp) <;> with_reducible rfl
                refine wpAny_take (i := 5) (v := ?_) rfl (by kernel_rfl) (by kernel_rfl) (by kernel_rfl) (fun _ _ _ h => h) (Or.inl ⟨by rfl, ?_⟩) ?_
                rotate_left 1
                · (intro w; go_simp) <;> with_reducible rfl
                refine wpAny_take (i := 6) (v := ?_) rfl (by kernel_rfl) (by kernel_rfl) (by kernel_rfl) (fun _ _ _ h => h) (Or.inl ⟨by rfl, ?_⟩) ?_
                rotate_left 1
                · (intro w; go_simp) <;> with_reducible rfl
                refine wpAny_take (i := 7) (v := ?_) rfl (by kernel_rfl) (by kernel_rfl) (by kernel_rfl) (fun _ _ _ h => h) (Or.inl ⟨by rfl, ?_⟩) ?_
                rotate_left 1
                · (intro w; go_simp) <;> with_reducible rfl
                refine wpAny_take (i := 8) (v := ?_) rfl (by kernel_rfl) (by kernel_rfl) (by kernel_rfl) (fun _ _ _ h => h) (Or.inl ⟨by rfl, ?_⟩) ?_
                rotate_left 1
                · (intro w; go_simp) <;> with_reducible rfl
                refine wpAny_take (i := 9) (v := ?_) rfl (by kernel_rfl) (by kernel_rfl) (by kernel_rfl) (fun _ _ _ h => h) (Or.inl ⟨by rfl, ?_⟩) ?_
                rotate_left 1
                · (intro w; go_simp) <;> with_reducible rfl
                refine wpAny_take (i := 10) (v := ?_) rfl (by kernel_rfl) (by kernel_rfl) (by kernel_rfl) (fun _ _ _ h => h) (Or.inl ⟨by rfl, ?_⟩) ?_
                rotate_left 1
                · (intro w; go_simp) <;> with_reducible rfl
                refine wpAny_take (i := 11) (v := ?_) rfl (by kernel_rfl) (by kernel_rfl) (by kernel_rfl) (fun _ _ _ h => h) (Or.inl ⟨by rfl, ?_⟩) ?_
                rotate_left 1
                · (intro w; go_simp) <;> with_reducible rfl
                refine wpAny_take (i := 12) (v := ?_) rfl (by kernel_rfl) (by kernel_rfl) (by kernel_rfl) (fun _ _ _ h => h) (Or.inl ⟨by rfl, ?_⟩) ?_
                rotate_left 1
                · (intro w; go_simp) <;> with_reducible rfl
                refine wpAny_done (by kernel_rfl) ?_ _
                have hBx := hB.drewB.drewB
                go_wp2_with fail
                refine (put_as (N := N) (by omega) _).mono ?_
                rintro e w5 ⟨rfl, hb5⟩
                have hB5 := hBx.next hb5
                obtain ⟨u, hu⟩ : ∃ u, putB ((N : Nat) : Int) = u := ⟨_, rfl⟩
                have hul : u.size ≤ 4 := by rw [← hu, Lib.size_eq]; exact put_len _
                have hst2 := Lib.hid (show (out ++ u.data.toList) ++ un16 (b.data.toList.drop (k + 4)) = backL s.data.toList by rw [← hu, List.append_assoc, ← hq.out, hstep.out]; rfl)
                rw [hu]
                clear hu
                go_wp2_with (at_builtin; refine Buf.app_text rfl _ _ rfl w _ _ out hB5 u rfl rfl ?rooma ?_)
                case rooma => omega
                intro v6 w6 hB6
                have hl6 : (out ++ u.data.toList).length ≤ out.length + 4 := by rw [List.length_append, ← Lib.size_eq]; omega
                generalize out ++ u.data.toList = L6 at hB6 hst2 hl6
                go_wp2
                go_roundw
                case rel => exact ⟨k + 4, L6, by omega, by omega, by go_num, hst2, hB6⟩
                case measure => simp [intOf]; omega
              · have hstep := Lib.hid (show un16 (b.data.toList.drop k) = putL ((X : Nat) : Int) ++ un16 (b.data.toList.drop (k + 2)) by rw [step_not b k hz (by rw [HY.out]; exact hw), HX.out])
                rcases (show Y < 56320 ∨ 57343 < Y by unfold isLow at hw; omega) with hy | hy
                · have r1 : (Y : Int) ≤ 56319 := by omega
                  clear hw hh hy
                  go_wp2_with fail
                  refine wp_region_any (by kernel_rfl) ?_
                  try (change wpAny _ _ _ _ _ _ _ (World.drew _))
                  refine wpAny_take (i := 0) (v := ?_) rfl (by kernel_rfl) (by kernel_rfl) (by kernel_rfl) (fun _ _ _ h => h) (Or.inl ⟨by rfl, ?_⟩) ?_
                  rotate_left 1
                  · (intro w; go_simp) <;> with_reducible rfl
                  refine wpAny_take (i := 1) (v := ?_) rfl (by kernel_rfl) (by kernel_rfl) (by kernel_rfl) (fun _ _ _ h => h) (Or.inl ⟨by rfl, ?_⟩) ?_
                  rotate_left 1
                  · (intro w; go_simp) <;> with_reducible rfl
                  refine wpAny_take (i := 2) (v := ?_) rfl (by kernel_rfl) (by kernel_rfl) (by kernel_rfl) (fun _ _ _ h => h) (Or.inl ⟨by rfl, ?_⟩) ?_
                  rotate_left 1
                  · (intro w; go_simp) <;> with_reducible rfl
                  refine wpAny_take (i := 3) (v := ?_) rfl (by kernel_rfl) (by kernel_rfl) (by kernel_rfl) (fun _ _ _ h => h) (Or.inl ⟨by rfl, ?_⟩) ?_
                  rotate_left 1
                  · (intro w; go_simp) <;> with_reducible rfl
                  refine wpAny_take (i := 4) (v := ?_) rfl (by kernel_rfl) (by kernel_rfl) (by kernel_rfl) (fun _ _ _ h => h) (Or.inl ⟨by rfl, ?_⟩) ?_
                  rotate_left 1
                  · (intro w; go_simp) <;> with_reducible rfl
                  refine wpAny_take (i := 5) (v := ?_) rfl (by kernel_rfl) (by kernel_rfl) (by kernel_rfl) (fun _ _ _ h => h) (Or.inl ⟨by rfl, ?_⟩) ?_
                  rotate_left 1
                  · (intro w; go_simp) <;> with_reducible rfl
                  refine wpAny_take (i := 6) (v := ?_) rfl (by kernel_rfl) (by kernel_rfl) (by kernel_rfl) (fun _ _ _ h => h) (Or.inl ⟨by rfl, ?_⟩) ?_
                  rotate_left 1
                  · (intro w; go_simp) <;> with_reducible rfl
                  refine wpAny_take (i := 7) (v := ?_) rfl (by kernel_rfl) (by kernel_rfl) (by kernel_rfl) (fun _ _ _ h => h) (Or.inl ⟨by rfl, ?_⟩) ?_
                  rotate_left 1
                  · (intro w; go_simp) <;> with_reducible rfl
                  refine wpAny_take (i := 8) (v := ?_) rfl (by kernel_rfl) (by kernel_rfl) (by kernel_rfl) (fun _ _ _ h => h) (Or.inl ⟨by rfl, ?_⟩) ?_
                  rotate_left 1
                  · (intro w; go_simp) <;> with_reducible rfl
                  refine wpAny_take (i := 9) (v := ?_) rfl (by kernel_rfl) (by kernel_rfl) (by kernel_rfl) (fun _ _ _ h => h) (Or.inl ⟨by rfl, ?_⟩) ?_
                  rotate_left 1
                  · (intro w; go_simp) <;> with_reducible rfl
                  refine wpAny_take (i := 10) (v := ?_) rfl (by kernel_rfl) (by kernel_rfl) (by kernel_rfl) (fun _ _ _ h => h) (Or.inl ⟨by rfl, ?_⟩) ?_
                  rotate_left 1
                  · (intro w; go_simp) <;> with_reducible rfl
                  refine wpAny_take (i := 11) (v := ?_) rfl (by kernel_rfl) (by kernel_rfl) (by kernel_rfl) (fun _ _ _ h => h) (Or.inl ⟨by rfl, ?_⟩) ?_
                  rotate_left 1
                  · (intro w; go_simp) <;> with_reducible rfl
                  refine wpAny_done (by kernel_rfl) ?_ _
                  go_wp2_with fail
                  refine wp_region_any (by kernel_rfl) ?_
                  try (change wpAny _ _ _ _ _ _ _ (World.drew _))
                  refine wpAny_take (i := 0) (v := ?_) rfl (by kernel_rfl) (by kernel_rfl) (by kernel_rfl) (fun _ _ _ h => h) (Or.inl ⟨by rfl, ?_⟩) ?_
                  rotate_left 1
                  · (intro w; go_simp) <;> with_reducible rfl
                  refine wpAny_take (i := 1) (v := ?_) rfl (by kernel_rfl) (by kernel_rfl) (by kernel_rfl) (fun _ _ _ h => h) (Or.inl ⟨by rfl, ?_⟩) ?_
                  rotate_left 1
                  · (intro w; go_simp) <;> with_reducible rfl
                  refine wpAny_take (i := 2) (v := ?_) rfl (by kernel_rfl) (by kernel_rfl) (by kernel_rfl) (fun _ _ _ h => h) (Or.inl ⟨by rfl, ?_⟩) ?_
                  rotate_left 1
                  · (intro w; go_simp) <;> with_reducible rfl
                  refine wpAny_take (i := 3) (v := ?_) rfl (by kernel_rfl) (by kernel_rfl) (by kernel_rfl) (fun _ _ _ h => h) (Or.inl ⟨by rfl, ?_⟩) ?_
                  rotate_left 1
                  · (intro w; go_simp) <;> with_reducible rfl
                  refine wpAny_take (i := 4) (v := ?_) rfl (by kernel_rfl) (by kernel_rfl) (by kernel_rfl) (fun _ _ _ h => h) (Or.inl ⟨by rfl, ?_⟩) ?_
                  rotate_left 1
                  · (intro w; go_simp) <;> with_reducible rfl
                  refine wpAny_take (i := 5) (v := ?_) rfl (by kernel_rfl) (by kernel_rfl) (by kernel_rfl) (fun _ _ _ h => h) (Or.inl ⟨by rfl, ?_⟩) ?_
                  rotate_left 1
                  · (intro w; go_simp) <;> with_reducible rfl
                  refine wpAny_take (i := 6) (v := ?_) rfl (by kernel_rfl) (by kernel_rfl) (by kernel_rfl) (fun _ _ _ h => h) (Or.inl ⟨by rfl, ?_⟩) ?_
                  rotate_left 1
                  · (intro w; go_simp) <;> with_reducible rfl
                  refine wpAny_take (i := 7) (v := ?_) rfl (by kernel_rfl) (by kernel_rfl) (by kernel_rfl) (fun _ _ _ h => h) (Or.inl ⟨by rfl, ?_⟩) ?_
                  rotate_left 1
                  · (intro w; go_simp) <;> with_reducible rfl
                  refine wpAny_take (i := 8) (v := ?_) rfl (by kernel_rfl) (by kernel_rfl) (by kernel_rfl) (fun _ _ _ h => h) (Or.inl ⟨by rfl, ?_⟩) ?_
                  rotate_left 1
                  · (intro w; go_simp) <;> with_reducible rfl
                  refine wpAny_take (i := 9) (v := ?_) rfl (by kernel_rfl) (by kernel_rfl) (by kernel_rfl) (fun _ _ _ h => h) (Or.inl ⟨by rfl, ?_⟩) ?_
                  rotate_left 1
                  · (intro w; go_simp) <;> with_reducible rfl
                  refine wpAny_take (i := 10) (v := ?_) rfl (by kernel_rfl) (by kernel_rfl) (by kernel_rfl) (fun _ _ _ h => h) (Or.inl ⟨by rfl, ?_⟩) ?_
                  rotate_left 1
                  · (intro w; go_simp) <;> with_reducible rfl
                  refine wpAny_take (i := 11) (v := ?_) rfl (by kernel_rfl) (by kernel_rfl) (by kernel_rfl) (fun _ _ _ h => h) (Or.inl ⟨by rfl, ?_⟩) ?_
                  rotate_left 1
                  · (intro w; go_simp) <;> with_reducible rfl
                  refine wpAny_take (i := 12) (v := ?_) rfl (by kernel_rfl) (by kernel_rfl) (by kernel_rfl) (fun _ _ _ h => h) (Or.inl ⟨by rfl, ?_⟩) ?_
                  rotate_left 1
                  · (intro w; go_simp) <;> with_reducible rfl
                  refine wpAny_done (by kernel_rfl) ?_ _
                  have hBx := hB.drewB.drewB
                  go_wp2_with fail
                  refine (put_as (N := X) (by omega) _).mono ?_
                  rintro e w5 ⟨rfl, hb5⟩
                  have hB5 := hBx.next hb5
                  obtain ⟨u, hu⟩ : ∃ u, putB ((X : Nat) : Int) = u := ⟨_, rfl⟩
                  have hul : u.size ≤ 4 := by rw [← hu, Lib.size_eq]; exact put_len _
                  have hst2 := Lib.hid (show (out ++ u.data.toList) ++ un16 (b.data.toList.drop (k + 2)) = backL s.data.toList by rw [← hu, List.append_assoc, ← hq.out, hstep.out]; rfl)
                  rw [hu]
                  clear hu
                  go_wp2_with (at_builtin; refine Buf.app_text rfl _ _ rfl w _ _ out hB5 u rfl rfl ?roomb ?_)
                  case roomb => omega
                  intro v6 w6 hB6
                  have hl6 : (out ++ u.data.toList).length ≤ out.length + 4 := by rw [List.length_append, ← Lib.size_eq]; omega
                  generalize out ++ u.data.toList = L6 at hB6 hst2 hl6
                  go_wp2
                  go_roundw
                  case rel => exact ⟨k + 2, L6, by omega, by omega, by go_num, hst2, hB6⟩
                  case measure => simp [intOf]; omega
                · have r1 : 57343 < (Y : Int) := by omega
                  clear hw hh hy
                  go_wp2_with fail
                  refine wp_region_any (by kernel_rfl) ?_
                  try (change wpAny _ _ _ _ _ _ _ (World.drew _))
                  refine wpAny_take (i := 0) (v := ?_) rfl (by kernel_rfl) (by kernel_rfl) (by kernel_rfl) (fun _ _ _ h => h) (Or.inl ⟨by rfl, ?_⟩) ?_
                  rotate_left 1
                  · (intro w; go_simp) <;> with_reducible rfl
                  refine wpAny_take (i := 1) (v := ?_) rfl (by kernel_rfl) (by kernel_rfl) (by kernel_rfl) (fun _ _ _ h => h) (Or.inl ⟨by rfl, ?_⟩) ?_
                  rotate_left 1
                  · (intro w; go_simp) <;> with_reducible rfl
                  refine wpAny_take (i := 2) (v := ?_) rfl (by kernel_rfl) (by kernel_rfl) (by kernel_rfl) (fun _ _ _ h => h) (Or.inl ⟨by rfl, ?_⟩) ?_
                  rotate_left 1
                  · (intro w; go_simp) <;> with_reducible rfl
                  refine wpAny_take (i := 3) (v := ?_) rfl (by kernel_rfl) (by kernel_rfl) (by kernel_rfl) (fun _ _ _ h => h) (Or.inl ⟨by rfl, ?_⟩) ?_
                  rotate_left 1
                  · (intro w; go_simp) <;> with_reducible rfl
                  refine wpAny_take (i := 4) (v := ?_) rfl (by kernel_rfl) (by kernel_rfl) (by kernel_rfl) (fun _ _ _ h => h) (Or.inl ⟨by rfl, ?_⟩) ?_
                  rotate_left 1
                  · (intro w; go_simp) <;> with_reducible rfl
                  refine wpAny_take (i := 5) (v := ?_) rfl (by kernel_rfl) (by kernel_rfl) (by kernel_rfl) (fun _ _ _ h => h) (Or.inl ⟨by rfl, ?_⟩) ?_
                  rotate_left 1
                  · (intro w; go_simp) <;> with_reducible rfl
                  refine wpAny_take (i := 6) (v := ?_) rfl (by kernel_rfl) (by kernel_rfl) (by kernel_rfl) (fun _ _ _ h => h) (Or.inl ⟨by rfl, ?_⟩) ?_
                  rotate_left 1
                  · (intro w; go_simp) <;> with_reducible rfl
                  refine wpAny_take (i := 7) (v := ?_) rfl (by kernel_rfl) (by kernel_rfl) (by kernel_rfl) (fun _ _ _ h => h) (Or.inl ⟨by rfl, ?_⟩) ?_
                  rotate_left 1
                  · (intro w; go_simp) <;> with_reducible rfl
                  refine wpAny_take (i := 8) (v := ?_) rfl (by kernel_rfl) (by kernel_rfl) (by kernel_rfl) (fun _ _ _ h => h) (Or.inl ⟨by rfl, ?_⟩) ?_
                  rotate_left 1
                  · (intro w; go_simp) <;> with_reducible rfl
                  refine wpAny_take (i := 9) (v := ?_) rfl (by kernel_rfl) (by kernel_rfl) (by kernel_rfl) (fun _ _ _ h => h) (Or.inl ⟨by rfl, ?_⟩) ?_
                  rotate_left 1
                  · (intro w; go_simp) <;> with_reducible rfl
                  refine wpAny_take (i := 10) (v := ?_) rfl (by kernel_rfl) (by kernel_rfl) (by kernel_rfl) (fun _ _ _ h => h) (Or.inl ⟨by rfl, ?_⟩) ?_
                  rotate_left 1
                  · (intro w; go_simp) <;> with_reducible rfl
                  refine wpAny_take (i := 11) (v := ?_) rfl (by kernel_rfl) (by kernel_rfl) (by kernel_rfl) (fun _ _ _ h => h) (Or.inl ⟨by rfl, ?_⟩) ?_
                  rotate_left 1
                  · (intro w; go_simp) <;> with_reducible rfl
                  refine wpAny_done (by kernel_rfl) ?_ _
                  go_wp2_with fail
                  refine wp_region_any (by kernel_rfl) ?_
                  try (change wpAny _ _ _ _ _ _ _ (World.drew _))
                  refine wpAny_take (i := 0) (v := ?_) rfl (by kernel_rfl) (by kernel_rfl) (by kernel_rfl) (fun _ _ _ h => h) (Or.inl ⟨by rfl, ?_⟩) ?_
                  rotate_left 1
                  · (intro w; go_simp) <;> with_reducible rfl
                  refine wpAny_take (i := 1) (v := ?_) rfl (by kernel_rfl) (by kernel_rfl) (by kernel_rfl) (fun _ _ _ h => h) (Or.inl ⟨by rfl, ?_⟩) ?_
                  rotate_left 1
                  · (intro w; go_simp) <;> with_reducible rfl
                  refine wpAny_take (i := 2) (v := ?_) rfl (by kernel_rfl) (by kernel_rfl) (by kernel_rfl) (fun _ _ _ h => h) (Or.inl ⟨by rfl, ?_⟩) ?_
                  rotate_left 1
                  · (intro w; go_simp) <;> with_reducible rfl
                  refine wpAny_take (i := 3) (v := ?_) rfl (by kernel_rfl) (by kernel_rfl) (by kernel_rfl) (fun _ _ _ h => h) (Or.inl ⟨by rfl, ?_⟩) ?_
                  rotate_left 1
                  · (intro w; go_simp) <;> with_reducible rfl
                  refine wpAny_take (i := 4) (v := ?_) rfl (by kernel_rfl) (by kernel_rfl) (by kernel_rfl) (fun _ _ _ h => h) (Or.inl ⟨by rfl, ?_⟩) ?_
                  rotate_left 1
                  · (intro w; go_simp) <;> with_reducible rfl
                  refine wpAny_take (i := 5) (v := ?_) rfl (by kernel_rfl) (by kernel_rfl) (by kernel_rfl) (fun _ _ _ h => h) (Or.inl ⟨by rfl, ?_⟩) ?_
                  rotate_left 1
                  · (intro w; go_simp) <;> with_reducible rfl
                  refine wpAny_take (i := 6) (v := ?_) rfl (by kernel_rfl) (by kernel_rfl) (by kernel_rfl) (fun _ _ _ h => h) (Or.inl ⟨by rfl, ?_⟩) ?_
                  rotate_left 1
                  · (intro w; go_simp) <;> with_reducible rfl
                  refine wpAny_take (i := 7) (v := ?_) rfl (by kernel_rfl) (by kernel_rfl) (by kernel_rfl) (fun _ _ _ h => h) (Or.inl ⟨by rfl, ?_⟩) ?_
                  rotate_left 1
                  · (intro w; go_simp) <;> with_reducible rfl
                  refine wpAny_take (i := 8) (v := ?_) rfl (by kernel_rfl) (by kernel_rfl) (by kernel_rfl) (fun _ _ _ h => h) (Or.inl ⟨by rfl, ?_⟩) ?_
                  rotate_left 1
                  · (intro w; go_simp) <;> with_reducible rfl
                  refine wpAny_take (i := 9) (v := ?_) rfl (by kernel_rfl) (by kernel_rfl) (by kernel_rfl) (fun _ _ _ h => h) (Or.inl ⟨by rfl, ?_⟩) ?_
                  rotate_left 1
                  · (intro w; go_simp) <;> with_reducible rfl
                  refine wpAny_take (i := 10) (v := ?_) rfl (by kernel_rfl) (by kernel_rfl) (by kernel_rfl) (fun _ _ _ h => h) (Or.inl ⟨by rfl, ?_⟩) ?_
                  rotate_left 1
                  · (intro w; go_simp) <;> with_reducible rfl
                  refine wpAny_take (i := 11) (v := ?_) rfl (by kernel_rfl) (by kernel_rfl) (by kernel_rfl) (fun _ _ _ h => h) (Or.inl ⟨by rfl, ?_⟩) ?_
                  rotate_left 1
                  · (intro w; go_simp) <;> with_reducible rfl
                  refine wpAny_take (i := 12) (v := ?_) rfl (by kernel_rfl) (by kernel_rfl) (by kernel_rfl) (fun _ _ _ h => h) (Or.inl ⟨by rfl, ?_⟩) ?_
                  rotate_left 1
                  · (intro w; go_simp) <;> with_reducible rfl
                  refine wpAny_done (by kernel_rfl) ?_ _
                  have hBx := hB.drewB.drewB
                  go_wp2_with fail
                  refine (put_as (N := X) (by omega) _).mono ?_
                  rintro e w5 ⟨rfl, hb5⟩
                  have hB5 := hBx.next hb5
                  obtain ⟨u, hu⟩ : ∃ u, putB ((X : Nat) : Int) = u := ⟨_, rfl⟩
                  have hul : u.size ≤ 4 := by rw [← hu, Lib.size_eq]; exact put_len _
                  have hst2 := Lib.hid (show (out ++ u.data.toList) ++ un16 (b.data.toList.drop (k + 2)) = backL s.data.toList by rw [← hu, List.append_assoc, ← hq.out, hstep.out]; rfl)
                  rw [hu]
                  clear hu
                  go_wp2_with (at_builtin; refine Buf.app_text rfl _ _ rfl w _ _ out hB5 u rfl rfl ?roomc ?_)
                  case roomc => omega
                  intro v6 w6 hB6
                  have hl6 : (out ++ u.data.toList).length ≤ out.length + 4 := by rw [List.length_append, ← Lib.size_eq]; omega
                  generalize out ++ u.data.toList = L6 at hB6 hst2 hl6
                  go_wp2
                  go_roundw
                  case rel => exact ⟨k + 2, L6, by omega, by omega, by go_num, hst2, hB6⟩
                  case measure => simp [intOf]; omega
            · have hstep := Lib.hid (show un16 (b.data.toList.drop k) = putL ((X : Nat) : Int) ++ un16 (b.data.toList.drop (k + 2)) by rw [step_one b k hlt (Or.inr (by omega)), HX.out])
              have g3 : ¬ (k : Int) + 3 < b.size := by omega
              clear hh hz
              go_wp2_with fail
              refine wp_region_any (by kernel_rfl) ?_
              try (change wpAny _ _ _ _ _ _ _ (World.drew _))
              refine wpAny_take (i := 0) (v := ?_) rfl (by kernel_rfl) (by kernel_rfl) (by kernel_rfl) (fun _ _ _ h => h) (Or.inl ⟨by rfl, ?_⟩) ?_
              rotate_left 1
              · (intro w; go_simp) <;> with_reducible rfl
              refine wpAny_take (i := 1) (v := ?_) rfl (by kernel_rfl) (by kernel_rfl) (by kernel_rfl) (fun _ _ _ h => h) (Or.inl ⟨by rfl, ?_⟩) ?_
              rotate_left 1
              · (intro w; go_simp) <;> with_reducible rfl
              refine wpAny_take (i := 2) (v := ?_) rfl (by kernel_rfl) (by kernel_rfl) (by kernel_rfl) (fun _ _ _ h => h) (Or.inl ⟨by rfl, ?_⟩) ?_
              rotate_left 1
              · (intro w; go_simp) <;> with_reducible rfl
              refine wpAny_take (i := 3) (v := ?_) rfl (by kernel_rfl) (by kernel_rfl) (by kernel_rfl) (fun _ _ _ h => h) (Or.inl ⟨by rfl, ?_⟩) ?_
              rotate_left 1
              · (intro w; go_simp) <;> with_reducible rfl
              refine wpAny_take (i := 4) (v := ?_) rfl (by kernel_rfl) (by kernel_rfl) (by kernel_rfl) (fun _ _ _ h => h) (Or.inl ⟨by rfl, ?_⟩) ?_
              rotate_left 1
              · (intro w; go_simp) <;> with_reducible rfl
              refine wpAny_take (i := 5) (v := ?_) rfl (by kernel_rfl) (by kernel_rfl) (by kernel_rfl) (fun _ _ _ h => h) (Or.inl ⟨by rfl, ?_⟩) ?_
              rotate_left 1
              · (intro w; go_simp) <;> with_reducible rfl
              refine wpAny_take (i := 6) (v := ?_) rfl (by kernel_rfl) (by kernel_rfl) (by kernel_rfl) (fun _ _ _ h => h) (Or.inl ⟨by rfl, ?_⟩) ?_
              rotate_left 1
              · (intro w; go_simp) <;> with_reducible rfl
              refine wpAny_take (i := 7) (v := ?_) rfl (by kernel_rfl) (by kernel_rfl) (by kernel_rfl) (fun _ _ _ h => h) (Or.inl ⟨by rfl, ?_⟩) ?_
              rotate_left 1
              · (intro w; go_simp) <;> with_reducible rfl
              refine wpAny_take (i := 8) (v := ?_) rfl (by kernel_rfl) (by kernel_rfl) (by kernel_rfl) (fun _ _ _ h => h) (Or.inl ⟨by rfl, ?_⟩) ?_
              rotate_left 1
              · (intro w; go_simp) <;> with_reducible rfl
              refine wpAny_take (i := 9) (v := ?_) rfl (by kernel_rfl) (by kernel_rfl) (by kernel_rfl) (fun _ _ _ h => h) (Or.inl ⟨by rfl, ?_⟩) ?_
              rotate_left 1
              · (intro w; go_simp) <;> with_reducible rfl
              refine wpAny_take (i := 10) (v := ?_) rfl (by kernel_rfl) (by kernel_rfl) (by kernel_rfl) (fun _ _ _ h => h) (Or.inl ⟨by rfl, ?_⟩) ?_
              rotate_left 1
              · (intro w; go_simp) <;> with_reducible rfl
              refine wpAny_take (i := 11) (v := ?_) rfl (by kernel_rfl) (by kernel_rfl) (by kernel_rfl) (fun _ _ _ h => h) (Or.inl ⟨by rfl, ?_⟩) ?_
              rotate_left 1
              · (intro w; go_simp) <;> with_reducible rfl
              refine wpAny_done (by kernel_rfl) ?_ _
              have hBx := hB.drewB
              go_wp2_with fail
              refine (put_as (N := X) (by omega) _).mono ?_
              rintro e w5 ⟨rfl, hb5⟩
              have hB5 := hBx.next hb5
              obtain ⟨u, hu⟩ : ∃ u, putB ((X : Nat) : Int) = u := ⟨_, rfl⟩
              have hul : u.size ≤ 4 := by rw [← hu, Lib.size_eq]; exact put_len _
              have hst2 := Lib.hid (show (out ++ u.data.toList) ++ un16 (b.data.toList.drop (k + 2)) = backL s.data.toList by rw [← hu, List.append_assoc, ← hq.out, hstep.out]; rfl)
              rw [hu]
              clear hu
              go_wp2_with (at_builtin; refine Buf.app_text rfl _ _ rfl w _ _ out hB5 u rfl rfl ?roomd ?_)
              case roomd => omega
              intro v6 w6 hB6
              have hl6 : (out ++ u.data.toList).length ≤ out.length + 4 := by rw [List.length_append, ← Lib.size_eq]; omega
              generalize out ++ u.data.toList = L6 at hB6 hst2 hl6
              go_wp2
              go_roundw
              case rel => exact ⟨k + 2, L6, by omega, by omega, by go_num, hst2, hB6⟩
              case measure => simp [intOf]; omega
          · have hstep := Lib.hid (show un16 (b.data.toList.drop k) = putL ((X : Nat) : Int) ++ un16 (b.data.toList.drop (k + 2)) by rw [step_one b k hlt (Or.inl (by rw [HX.out]; exact hh)), HX.out])
            rcases (show X < 55296 ∨ 56319 < X by unfold isHigh at hh; omega) with hy | hy
            · have p1 : (X : Int) ≤ 55295 := by omega
              clear hh hy
              go_wp2_with fail
              refine wp_region_any (by kernel_rfl) ?_
              try (change wpAny _ _ _ _ _ _ _ (World.drew _))
              refine wpAny_take (i := 0) (v := ?_) rfl (by kernel_rfl) (by kernel_rfl) (by kernel_rfl) (fun _ _ _ h => h) (Or.inl ⟨by rfl, ?_⟩) ?_
              rotate_left 1
              · (intro w; go_simp) <;> with_reducible rfl
              refine wpAny_take (i := 1) (v := ?_) rfl (by kernel_rfl) (by kernel_rfl) (by kernel_rfl) (fun _ _ _ h => h) (Or.inl ⟨by rfl, ?_⟩) ?_
              rotate_left 1
              · (intro w; go_simp) <;> with_reducible rfl
              refine wpAny_take (i := 2) (v := ?_) rfl (by kernel_rfl) (by kernel_rfl) (by kernel_rfl) (fun _ _ _ h => h) (Or.inl ⟨by rfl, ?_⟩) ?_
              rotate_left 1
              · (intro w; go_simp) <;> with_reducible rfl
              refine wpAny_take (i := 3) (v := ?_) rfl (by kernel_rfl) (by kernel_rfl) (by kernel_rfl) (fun _ _ _ h => h) (Or.inl ⟨by rfl, ?_⟩) ?_
              rotate_left 1
              · (intro w; go_simp) <;> with_reducible rfl
              refine wpAny_take (i := 4) (v := ?_) rfl (by kernel_rfl) (by kernel_rfl) (by kernel_rfl) (fun _ _ _ h => h) (Or.inl ⟨by rfl, ?_⟩) ?_
              rotate_left 1
              · (intro w; go_simp) <;> with_reducible rfl
              refine wpAny_take (i := 5) (v := ?_) rfl (by kernel_rfl) (by kernel_rfl) (by kernel_rfl) (fun _ _ _ h => h) (Or.inl ⟨by rfl, ?_⟩) ?_
              rotate_left 1
              · (intro w; go_simp) <;> with_reducible rfl
              refine wpAny_take (i := 6) (v := ?_) rfl (by kernel_rfl) (by kernel_rfl) (by kernel_rfl) (fun _ _ _ h => h) (Or.inl ⟨by rfl, ?_⟩) ?_
              rotate_left 1
              · (intro w; go_simp) <;> with_reducible rfl
              refine wpAny_take (i := 7) (v := ?_) rfl (by kernel_rfl) (by kernel_rfl) (by kernel_rfl) (fun _ _ _ h => h) (Or.inl ⟨by rfl, ?_⟩) ?_
              rotate_left 1
              · (intro w; go_simp) <;> with_reducible rfl
              refine wpAny_take (i := 8) (v := ?_) rfl (by kernel_rfl) (by kernel_rfl) (by kernel_rfl) (fun _ _ _ h => h) (Or.inl ⟨by rfl, ?_⟩) ?_
              rotate_left 1
              · (intro w; go_simp) <;> with_reducible rfl
              refine wpAny_take (i := 9) (v := ?_) rfl (by kernel_rfl) (by kernel_rfl) (by kernel_rfl) (fun _ _ _ h => h) (Or.inl ⟨by rfl, ?_⟩) ?_
              rotate_left 1
              · (intro w; go_simp) <;> with_reducible rfl
              refine wpAny_take (i := 10) (v := ?_) rfl (by kernel_rfl) (by kernel_rfl) (by kernel_rfl) (fun _ _ _ h => h) (Or.inl ⟨by rfl, ?_⟩) ?_
              rotate_left 1
              · (intro w; go_simp) <;> with_reducible rfl
              refine wpAny_take (i := 11) (v := ?_) rfl (by kernel_rfl) (by kernel_rfl) (by kernel_rfl) (fun _ _ _ h => h) (Or.inl ⟨by rfl, ?_⟩) ?_
              rotate_left 1
              · (intro w; go_simp) <;> with_reducible rfl
              refine wpAny_done (by kernel_rfl) ?_ _
              have hBx := hB.drewB
              go_wp2_with fail
              refine (put_as (N := X) (by omega) _).mono ?_
              rintro e w5 ⟨rfl, hb5⟩
              have hB5 := hBx.next hb5
              obtain ⟨u, hu⟩ : ∃ u, putB ((X : Nat) : Int) = u := ⟨_, rfl⟩
              have hul : u.size ≤ 4 := by rw [← hu, Lib.size_eq]; exact put_len _
              have hst2 := Lib.hid (show (out ++ u.data.toList) ++ un16 (b.data.toList.drop (k + 2)) = backL s.data.toList by rw [← hu, List.append_assoc, ← hq.out, hstep.out]; rfl)
              rw [hu]
              clear hu
              go_wp2_with (at_builtin; refine Buf.app_text rfl _ _ rfl w _ _ out hB5 u rfl rfl ?roome ?_)
              case roome => omega
              intro v6 w6 hB6
              have hl6 : (out ++ u.data.toList).length ≤ out.length + 4 := by rw [List.length_append, ← Lib.size_eq]; omega
              generalize out ++ u.data.toList = L6 at hB6 hst2 hl6
              go_wp2
              go_roundw
              case rel => exact ⟨k + 2, L6, by omega, by omega, by go_num, hst2, hB6⟩
              case measure => simp [intOf]; omega
            · have p1 : 56319 < (X : Int) := by omega
              clear hh hy
              go_wp2_with fail
              refine wp_region_any (by kernel_rfl) ?_
              try (change wpAny _ _ _ _ _ _ _ (World.drew _))
              refine wpAny_take (i := 0) (v := ?_) rfl (by kernel_rfl) (by kernel_rfl) (by kernel_rfl) (fun _ _ _ h => h) (Or.inl ⟨by rfl, ?_⟩) ?_
              rotate_left 1
              · (intro w; go_simp) <;> with_reducible rfl
              refine wpAny_take (i := 1) (v := ?_) rfl (by kernel_rfl) (by kernel_rfl) (by kernel_rfl) (fun _ _ _ h => h) (Or.inl ⟨by rfl, ?_⟩) ?_
              rotate_left 1
              · (intro w; go_simp) <;> with_reducible rfl
              refine wpAny_take (i := 2) (v := ?_) rfl (by kernel_rfl) (by kernel_rfl) (by kernel_rfl) (fun _ _ _ h => h) (Or.inl ⟨by rfl, ?_⟩) ?_
              rotate_left 1
              · (intro w; go_simp) <;> with_reducible rfl
              refine wpAny_take (i := 3) (v := ?_) rfl (by kernel_rfl) (by kernel_rfl) (by kernel_rfl) (fun _ _ _ h => h) (Or.inl ⟨by rfl, ?_⟩) ?_
              rotate_left 1
              · (intro w; go_simp) <;> with_reducible rfl
              refine wpAny_take (i := 4) (v := ?_) rfl (by kernel_rfl) (by kernel_rfl) (by kernel_rfl) (fun _ _ _ h => h) (Or.inl ⟨by rfl, ?_⟩) ?_
              rotate_left 1
              · (intro w; go_simp) <;> with_reducible rfl
              refine wpAny_take (i := 5) (v := ?_) rfl (by kernel_rfl) (by kernel_rfl) (by kernel_rfl) (fun _ _ _ h => h) (Or.inl ⟨by rfl, ?_⟩) ?_
              rotate_left 1
              · (intro w; go_simp) <;> with_reducible rfl
              refine wpAny_take (i := 6) (v := ?_) rfl (by kernel_rfl) (by kernel_rfl) (by kernel_rfl) (fun _ _ _ h => h) (Or.inl ⟨by rfl, ?_⟩) ?_
              rotate_left 1
              · (intro w; go_simp) <;> with_reducible rfl
              refine wpAny_take (i := 7) (v := ?_) rfl (by kernel_rfl) (by kernel_rfl) (by kernel_rfl) (fun _ _ _ h => h) (Or.inl ⟨by rfl, ?_⟩) ?_
              rotate_left 1
              · (intro w; go_simp) <;> with_reducible rfl
              refine wpAny_take (i := 8) (v := ?_) rfl (by kernel_rfl) (by kernel_rfl) (by kernel_rfl) (fun _ _ _ h => h) (Or.inl ⟨by rfl, ?_⟩) ?_
              rotate_left 1
              · (intro w; go_simp) <;> with_reducible rfl
              refine wpAny_take (i := 9) (v := ?_) rfl (by kernel_rfl) (by kernel_rfl) (by kernel_rfl) (fun _ _ _ h => h) (Or.inl ⟨by rfl, ?_⟩) ?_
              rotate_left 1
              · (intro w; go_simp) <;> with_reducible rfl
              refine wpAny_take (i := 10) (v := ?_) rfl (by kernel_rfl) (by kernel_rfl) (by kernel_rfl) (fun _ _ _ h => h) (Or.inl ⟨by rfl, ?_⟩) ?_
              rotate_left 1
              · (intro w; go_simp) <;> with_reducible rfl
              refine wpAny_take (i := 11) (v := ?_) rfl (by kernel_rfl) (by kernel_rfl) (by kernel_rfl) (fun _ _ _ h => h) (Or.inl ⟨by rfl, ?_⟩) ?_
              rotate_left 1
              · (intro w; go_simp) <;> with_reducible rfl
              refine wpAny_done (by kernel_rfl) ?_ _
              have hBx := hB.drewB
              go_wp2_with fail
              refine (put_as (N := X) (by omega) _).mono ?_
              rintro e w5 ⟨rfl, hb5⟩
              have hB5 := hBx.next hb5
              obtain ⟨u, hu⟩ : ∃ u, putB ((X : Nat) : Int) = u := ⟨_, rfl⟩
              have hul : u.size ≤ 4 := by rw [← hu, Lib.size_eq]; exact put_len _
              have hst2 := Lib.hid (show (out ++ u.data.toList) ++ un16 (b.data.toList.drop (k + 2)) = backL s.data.toList by rw [← hu, List.append_assoc, ← hq.out, hstep.out]; rfl)
              rw [hu]
              clear hu
              go_wp2_with (at_builtin; refine Buf.app_text rfl _ _ rfl w _ _ out hB5 u rfl rfl ?roomf ?_)
              case roomf => omega
              intro v6 w6 hB6
              have hl6 : (out ++ u.data.toList).length ≤ out.length + 4 := by rw [List.length_append, ← Lib.size_eq]; omega
              generalize out ++ u.data.toList = L6 at hB6 hst2 hl6
              go_wp2
              go_roundw
              case rel => exact ⟨k + 2, L6, by omega, by omega, by go_num, hst2, hB6⟩
              case measure => simp [intOf]; omega
        · have hend := Lib.hid (show out = backL s.data.toList by rw [← hq.out, un16_end (by rw [List.length_drop, ← Lib.size_eq]; omega), List.append_nil])
          have g1 : ¬ (k : Int) + 1 < b.size := by omega
          have hbl := hB.below
          have hrun := hB.string
          clear hB
          go_wp2
          go_ret
          exact ⟨ret_str hend.out, hbl⟩
end Go.Proofs.YtcakcpnmbclieaaDoor.U7
