/-
  The document's answer for package quoted, as the statements have it: Plain returns what Decode does. Condition: the text has at most 2^30 bytes.
-/
import Derived.Test.YtlckhhdkjjfijaaDoorQ4Half
namespace Go.Proofs.YtlckhhdkjjfijaaDoor.Q4
open Go Go.RowKit Go.Joins Kit Srch

theorem rhalf_some {c : UInt8} {v : Nat} (h : hx c = some v) (w : World) :
    Calls Tryd.prog 58 #[.int .u8 (c.toNat : Int)] w fun e w' => e = .returned (.int .i64 (v : Int)) ∧ w = w' := by
  have := half_any c w
  rwa [hv_some h] at this
theorem rhalf_none {c : UInt8} (h : hx c = none) (w : World) :
    Calls Tryd.prog 58 #[.int .u8 (c.toNat : Int)] w fun e w' => e = .returned (.int .i64 (-1)) ∧ w = w' := by
  have := half_any c w
  rwa [hv_none h] at this
theorem drop_at (s : ByteArray) (k : Nat) (h : k < s.size) : s.data.toList.drop k = s[k] :: s.data.toList.drop (k + 1) := by
  have hl : k < s.data.toList.length := by rw [← Lib.size_eq]; exact h
  rw [List.drop_eq_getElem_cons hl, byte_get s k h]
theorem plain_stay {r : List UInt8} (h : nextL r = ([61], r)) : plainL (61 :: r) = 61 :: plainL r := by rw [plain_eq, h]; rfl
theorem next_one {x : UInt8} (h : x ≠ 10) : nextL [x] = ([61], [x]) := by
  rw [nextL_short (by simp)]
  unfold soft
  rw [if_neg (by simpa using h), if_neg (by simp)]
theorem soft_no {x y : UInt8} {r : List UInt8} (h : x ≠ 10) (h2 : ¬ (x = 13 ∧ y = 10)) : soft (x :: y :: r) = ([61], x :: y :: r) := by
  unfold soft
  rw [if_neg (by simpa using h), if_neg]
  intro e
  simp only [List.take_succ_cons, List.take_zero, List.cons.injEq, and_true] at e
  exact h2 e
theorem next_no1 {x y : UInt8} {r : List UInt8} (hx : hx x = none) (h : x ≠ 10) (h2 : ¬ (x = 13 ∧ y = 10)) : nextL (x :: y :: r) = ([61], x :: y :: r) := by
  rw [nextL_no1 hx, soft_no h h2]
theorem next_no2 {x y : UInt8} {r : List UInt8} (hy : hx y = none) (h : x ≠ 10) (h2 : x ≠ 13) : nextL (x :: y :: r) = ([61], x :: y :: r) := by
  rw [nextL_no2 hy, soft_no h (fun e => h2 e.1)]
theorem hx_not {c : UInt8} {v : Nat} (h : hx c = some v) : c.toNat ≠ 10 ∧ c.toNat ≠ 13 := by
  constructor
  · intro e
    unfold hx at h
    rw [e] at h
    rw [show hxN 10 = none from by decide] at h
    cases h
  · intro e
    unfold hx at h
    rw [e] at h
    rw [show hxN 13 = none from by decide] at h
    cases h

set_option maxHeartbeats 4000000 in
set_option maxRecDepth 100000 in
theorem plain_any (s : ByteArray) (w : World) (hs : s.size ≤ 1099511627) :
    Calls Tryd.prog 39 #[.string s] w fun e w' => e = .returned (.string (plainB s)) ∧ Below w.heap.size w w' := by
  have hB0 : Buf w (.slice none 0 0) [] w := Buf.empty (Below.refl _ w)
  go_enter Tryd.func39, Tryd.ntmps39
  go_wp2_with fail
  go_loopw [3, 4] (fun v i wr => ∃ (k : Nat) (out : List UInt8), k ≤ s.size ∧ out.length ≤ k ∧ i = .int .i64 k ∧ Hid (out ++ plainL (s.data.toList.drop k) = plainL s.data.toList) ∧ Buf w v out wr) (fun _ i _ => s.size - (intOf i).toNat)
  case atStart => exact ⟨0, [], by omega, Nat.le_refl _, rfl, rfl, hB0⟩
  case round =>
    clear hB0
    obtain ⟨k, out, hk, hol, rfl, hq, hB⟩ := hrel
    by_cases hlt : k < s.size
    · have g1 : (k : Int) < s.size := by omega
      have hc0 := s[k].toNat_lt
      have hd0 := drop_at s k hlt
      by_cases h61 : s[k].toNat = 61
      · have hk61 : s[k] = 61 := UInt8.toNat.inj h61
        rcases (show s.size ≤ k + 1 ∨ (k + 1 < s.size ∧ s.size ≤ k + 2) ∨ k + 2 < s.size by omega) with hz | ⟨hz, hz2⟩ | hz
        · have hnx : Hid (out ++ s[k] :: plainL (s.data.toList.drop (k + 1)) = plainL s.data.toList) := by
            show _ = _
            rw [← hq.out, hd0, hk61, List.drop_of_length_le (by rw [← Lib.size_eq]; omega), plain_stay rfl]
          have f1 : ((s[k].toNat : Int) == 61) = true := by rw [beq_iff_eq]; omega
          have f2 : ¬ (k : Int) + 1 < s.size := by omega
          have f3 : ¬ (k : Int) + 2 < s.size := by omega
          clear hd0 h61 hk61
          go_wp2_with (at_builtin; refine Buf.app rfl _ _ rfl w _ _ _ hB _ [s[k]] 1 1 rfl rfl rfl rfl ?room ?_)
          case room => omega
          intro v2 w2 hB2
          obtain ⟨L, hL⟩ : ∃ L, out ++ [s[k]] = L := ⟨_, rfl⟩
          rw [hL] at hB2
          have hLl : L.length = out.length + 1 := by rw [← hL, List.length_append]; rfl
          have hnx2 := Lib.hid (show L ++ plainL (s.data.toList.drop (k + 1)) = plainL s.data.toList by rw [← hL, List.append_assoc]; exact hnx.out)
          clear hL
          go_wp2
          go_roundw
          case rel => exact ⟨k + 1, L, by omega, by omega, by go_num, hnx2, hB2⟩
          case measure => simp [intOf]; omega
        · have hc1 := s[k + 1].toNat_lt
          have hd1 := drop_at s (k + 1) hz
          have he2 : s.data.toList.drop (k + 1 + 1) = [] := List.drop_of_length_le (by rw [← Lib.size_eq]; omega)
          by_cases h10 : s[k + 1].toNat = 10
          · have hnx : Hid (out ++ plainL (s.data.toList.drop (k + 2)) = plainL s.data.toList) := by
              show _ = _
              rw [← hq.out, hd0, hk61, hd1, show s[k + 1] = 10 from UInt8.toNat.inj h10, plain_lf]
            have f1 : ((s[k].toNat : Int) == 61) = true := by rw [beq_iff_eq]; omega
            have f2 : (k : Int) + 1 < s.size := by omega
            have f3 : ¬ (k : Int) + 2 < s.size := by omega
            have f4 : ((s[k + 1].toNat : Int) == 10) = true := by rw [beq_iff_eq]; omega
            clear hd0 hd1 h61 hk61 h10 he2
            go_wp2
            go_roundw
            case rel => exact ⟨k + 2, out, by omega, by omega, by go_num, hnx, hB⟩
            case measure => simp [intOf]; omega
          · have hnx : Hid (out ++ s[k] :: plainL (s.data.toList.drop (k + 1)) = plainL s.data.toList) := by
              show _ = _
              rw [← hq.out, hd0, hk61, hd1, he2, plain_stay (next_one (fun e => h10 (by rw [e]; rfl)))]
            have f1 : ((s[k].toNat : Int) == 61) = true := by rw [beq_iff_eq]; omega
            have f2 : (k : Int) + 1 < s.size := by omega
            have f3 : ¬ (k : Int) + 2 < s.size := by omega
            have f4 : ((s[k + 1].toNat : Int) == 10) = false := by rw [beq_eq_false_iff_ne]; omega
            clear hd0 hd1 h61 hk61 h10 he2
            go_wp2_with (at_builtin; refine Buf.app rfl _ _ rfl w _ _ _ hB _ [s[k]] 1 1 rfl rfl rfl rfl ?room ?_)
            case room => omega
            intro v2 w2 hB2
            obtain ⟨L, hL⟩ : ∃ L, out ++ [s[k]] = L := ⟨_, rfl⟩
            rw [hL] at hB2
            have hLl : L.length = out.length + 1 := by rw [← hL, List.length_append]; rfl
            have hnx2 := Lib.hid (show L ++ plainL (s.data.toList.drop (k + 1)) = plainL s.data.toList by rw [← hL, List.append_assoc]; exact hnx.out)
            clear hL
            go_wp2
            go_roundw
            case rel => exact ⟨k + 1, L, by omega, by omega, by go_num, hnx2, hB2⟩
            case measure => simp [intOf]; omega
        · have hz1 : k + 1 < s.size := by omega
          have hc1 := s[k + 1].toNat_lt
          have hc2 := s[k + 2].toNat_lt
          have hd1 := drop_at s (k + 1) hz1
          have hd2 := drop_at s (k + 2) hz
          have y1 : (k : Int) + 1 < s.size := by omega
          have y2 : (k : Int) + 2 < s.size := by omega
          cases hx1 : hx s[k + 1] with
          | none =>
            have HV1 := Lib.hid hx1
            by_cases h10 : s[k + 1].toNat = 10
            · have hnx : Hid (out ++ plainL (s.data.toList.drop (k + 2)) = plainL s.data.toList) := by
                show _ = _
                rw [← hq.out, hd0, hk61, hd1, show s[k + 1] = 10 from UInt8.toNat.inj h10, plain_lf]
              have f1 : ((s[k].toNat : Int) == 61) = true := by rw [beq_iff_eq]; omega
              have Z := Lib.hid h10
              clear hd0 hd1 hd2 h61 hk61 h10 hx1
              go_wp2_with fail
              refine (rhalf_none HV1.out _).mono ?_
              rintro e w' ⟨rfl, rfl⟩
              have f9 : ((s[k + 1].toNat : Int) == 10) = true := by rw [beq_iff_eq, Z.out]; rfl
              go_wp2
              go_roundw
              case rel => exact ⟨k + 2, out, by omega, by omega, by go_num, hnx, hB⟩
              case measure => simp [intOf]; omega
            · by_cases h13 : s[k + 1].toNat = 13 ∧ s[k + 2].toNat = 10
              · have hnx : Hid (out ++ plainL (s.data.toList.drop (k + 3)) = plainL s.data.toList) := by
                  show _ = _
                  rw [← hq.out, hd0, hk61, hd1, hd2, show s[k + 1] = 13 from UInt8.toNat.inj h13.1, show s[k + 2] = 10 from UInt8.toNat.inj h13.2, plain_crlf]
                have f1 : ((s[k].toNat : Int) == 61) = true := by rw [beq_iff_eq]; omega
                have Z := Lib.hid h13
                clear hd0 hd1 hd2 h61 hk61 h10 h13 hx1
                go_wp2_with fail
                refine (rhalf_none HV1.out _).mono ?_
                rintro e w' ⟨rfl, rfl⟩
                have f9 : ((s[k + 1].toNat : Int) == 10) = false := by rw [Z.out.1]; rfl
                have f8 : ((s[k + 1].toNat : Int) == 13) = true := by rw [beq_iff_eq, Z.out.1]; rfl
                have f7 : ((s[k + 2].toNat : Int) == 10) = true := by rw [beq_iff_eq, Z.out.2]; rfl
                go_wp2
                go_roundw
                case rel => exact ⟨k + 3, out, by omega, by omega, by go_num, hnx, hB⟩
                case measure => simp [intOf]; omega
              · have hnx : Hid (out ++ s[k] :: plainL (s.data.toList.drop (k + 1)) = plainL s.data.toList) := by
                  show _ = _
                  rw [← hq.out, hd0, hk61, hd1, hd2, plain_stay (next_no1 hx1 (fun e => h10 (by rw [e]; rfl)) (fun e => h13 ⟨by rw [e.1]; rfl, by rw [e.2]; rfl⟩))]
                by_cases h13a : s[k + 1].toNat = 13
                · have f1 : ((s[k].toNat : Int) == 61) = true := by rw [beq_iff_eq]; omega
                  have f2 : ((s[k + 2].toNat : Int) == 10) = false := by rw [beq_eq_false_iff_ne]; omega
                  have Z := Lib.hid h13a
                  clear hd0 hd1 hd2 h61 hk61 h10 h13 hx1 h13a
                  go_wp2_with fail
                  refine (rhalf_none HV1.out _).mono ?_
                  rintro e w' ⟨rfl, rfl⟩
                  have f9 : ((s[k + 1].toNat : Int) == 10) = false := by rw [Z.out]; rfl
                  have f8 : ((s[k + 1].toNat : Int) == 13) = true := by rw [beq_iff_eq, Z.out]; rfl
                  go_wp2_with (at_builtin; refine Buf.app rfl _ _ rfl w _ _ _ hB _ [s[k]] 1 1 rfl rfl rfl rfl ?room ?_)
                  case room => omega
                  intro v2 w2 hB2
                  obtain ⟨L, hL⟩ : ∃ L, out ++ [s[k]] = L := ⟨_, rfl⟩
                  rw [hL] at hB2
                  have hLl : L.length = out.length + 1 := by rw [← hL, List.length_append]; rfl
                  have hnx2 := Lib.hid (show L ++ plainL (s.data.toList.drop (k + 1)) = plainL s.data.toList by rw [← hL, List.append_assoc]; exact hnx.out)
                  clear hL
                  go_wp2
                  go_roundw
                  case rel => exact ⟨k + 1, L, by omega, by omega, by go_num, hnx2, hB2⟩
                  case measure => simp [intOf]; omega
                · have f1 : ((s[k].toNat : Int) == 61) = true := by rw [beq_iff_eq]; omega
                  have f2 : ((s[k + 1].toNat : Int) == 10) = false := by rw [beq_eq_false_iff_ne]; omega
                  have f3 : ((s[k + 1].toNat : Int) == 13) = false := by rw [beq_eq_false_iff_ne]; omega
                  clear hd0 hd1 hd2 h61 hk61 h10 h13 hx1 h13a
                  go_wp2_with fail
                  refine (rhalf_none HV1.out _).mono ?_
                  rintro e w' ⟨rfl, rfl⟩
                  go_wp2_with (at_builtin; refine Buf.app rfl _ _ rfl w _ _ _ hB _ [s[k]] 1 1 rfl rfl rfl rfl ?room ?_)
                  case room => omega
                  intro v2 w2 hB2
                  obtain ⟨L, hL⟩ : ∃ L, out ++ [s[k]] = L := ⟨_, rfl⟩
                  rw [hL] at hB2
                  have hLl : L.length = out.length + 1 := by rw [← hL, List.length_append]; rfl
                  have hnx2 := Lib.hid (show L ++ plainL (s.data.toList.drop (k + 1)) = plainL s.data.toList by rw [← hL, List.append_assoc]; exact hnx.out)
                  clear hL
                  go_wp2
                  go_roundw
                  case rel => exact ⟨k + 1, L, by omega, by omega, by go_num, hnx2, hB2⟩
                  case measure => simp [intOf]; omega
          | some a =>
            have HV1 := Lib.hid hx1
            have a16 := hx_lt hx1
            cases hx2 : hx s[k + 2] with
            | none =>
              have HV2 := Lib.hid hx2
              have hnt := hx_not hx1
              have hnx : Hid (out ++ s[k] :: plainL (s.data.toList.drop (k + 1)) = plainL s.data.toList) := by
                show _ = _
                rw [← hq.out, hd0, hk61, hd1, hd2, plain_stay (next_no2 hx2 (fun e => hnt.1 (by rw [e]; rfl)) (fun e => hnt.2 (by rw [e]; rfl)))]
              have f1 : ((s[k].toNat : Int) == 61) = true := by rw [beq_iff_eq]; omega
              have f2 : ((s[k + 1].toNat : Int) == 10) = false := by rw [beq_eq_false_iff_ne]; omega
              have f3 : ((s[k + 1].toNat : Int) == 13) = false := by rw [beq_eq_false_iff_ne]; omega
              clear hd0 hd1 hd2 h61 hk61 hx1 hx2 hnt
              go_wp2_with fail
              refine (rhalf_some HV1.out _).mono ?_
              rintro e w' ⟨rfl, rfl⟩
              go_wp2_with fail
              refine (rhalf_none HV2.out _).mono ?_
              rintro e w' ⟨rfl, rfl⟩
              go_wp2_with (at_builtin; refine Buf.app rfl _ _ rfl w _ _ _ hB _ [s[k]] 1 1 rfl rfl rfl rfl ?room ?_)
              case room => omega
              intro v2 w2 hB2
              obtain ⟨L, hL⟩ : ∃ L, out ++ [s[k]] = L := ⟨_, rfl⟩
              rw [hL] at hB2
              have hLl : L.length = out.length + 1 := by rw [← hL, List.length_append]; rfl
              have hnx2 := Lib.hid (show L ++ plainL (s.data.toList.drop (k + 1)) = plainL s.data.toList by rw [← hL, List.append_assoc]; exact hnx.out)
              clear hL
              go_wp2
              go_roundw
              case rel => exact ⟨k + 1, L, by omega, by omega, by go_num, hnx2, hB2⟩
              case measure => simp [intOf]; omega
            | some b =>
              have HV2 := Lib.hid hx2
              have b16 := hx_lt hx2
              have hnx : Hid ((out ++ [UInt8.ofNat (a * 16 + b)]) ++ plainL (s.data.toList.drop (k + 3)) = plainL s.data.toList) := by
                show _ = _
                rw [← hq.out, hd0, hk61, hd1, hd2, plain_hex hx1 hx2, List.append_assoc]
                rfl
              have f1 : ((s[k].toNat : Int) == 61) = true := by rw [beq_iff_eq]; omega
              clear hd0 hd1 hd2 h61 hk61 hx1 hx2
              go_wp2_with fail
              refine (rhalf_some HV1.out _).mono ?_
              rintro e w' ⟨rfl, rfl⟩
              go_wp2_with fail
              refine (rhalf_some HV2.out _).mono ?_
              rintro e w' ⟨rfl, rfl⟩
              have n1 : IntKind.i64.wrap ((k : Int) + 1) = (k : Int) + 1 := IntWalk.i64_in _ (by omega)
              have n2 : IntKind.i64.wrap ((k : Int) + 2) = (k : Int) + 2 := IntWalk.i64_in _ (by omega)
              have n3 : IntKind.i64.wrap (16 * (a : Int)) = 16 * (a : Int) := IntWalk.i64_in _ (by omega)
              have n4 : IntKind.i64.wrap (16 * (a : Int) + b) = 16 * (a : Int) + b := IntWalk.i64_in _ (by omega)
              have n5 : IntKind.u8.wrap (16 * (a : Int) + b) = 16 * (a : Int) + b := IntWalk.u8_in _ (by omega)
              have n6 : 0 ≤ (k : Int) + 1 := by omega
              have n7 : 0 ≤ (k : Int) + 2 := by omega
              have n8 : ((k : Int) + 1).toNat = k + 1 := by omega
              have n9 : ((k : Int) + 2).toNat = k + 2 := by omega
              go_wp2_with fail
              refine wp_region_any (by kernel_rfl) ?_
              try (change wpAny _ _ _ _ _ _ _ (World.drew _))
              refine wpAny_take (i := 0) (v := ?_) rfl (by kernel_rfl) (by kernel_rfl) (by kernel_rfl) (fun _ _ _ h => h) (Or.inl ⟨by rfl, ?_⟩) ?_
              rotate_left 1
              · (intro w; go_simp) <;> with_reducible rfl
              refine wpAny_take (i := 1) (v := ?_) rfl (by kernel_rfl) (by kernel_rfl) (by kernel_rfl) (fun _ _ _ h => h) (Or.inl ⟨by rfl, ?_⟩) ?_
              rotate_left 1
              · (intro w; go_simp) <;> with_reducible rfl
              refine wpAny_take (i := 2) (v := ?_) rfl (by kernel_rfl) (by kernel_rfl) (by kernel_rfl) (fun _ _ _ h => h) (Or.inl ⟨by rfl, ?_⟩) ?_
              rotate_left 1
              · (intro w; go_simp) <;> with_reducible rfl
              refine wpAny_take (i := 3) (v := ?_) rfl (by kernel_rfl) (by kernel_rfl) (by kernel_rfl) (fun _ _ _ h => h) (Or.inl ⟨by rfl, ?_⟩) ?_
              rotate_left 1
              · (intro w; go_simp) <;> with_reducible rfl
              refine wpAny_take (i := 4) (v := ?_) rfl (by kernel_rfl) (by kernel_rfl) (by kernel_rfl) (fun _ _ _ h => h) (Or.inl ⟨by rfl, ?_⟩) ?_
              rotate_left 1
              · (intro w; go_simp) <;> with_reducible rfl
              refine wpAny_take (i := 7) (v := ?_) rfl (by kernel_rfl) (by kernel_rfl) (by kernel_rfl) (fun _ _ _ h => h) (Or.inl ⟨by rfl, ?_⟩) ?_
              rotate_left 1
              · (intro w; go_simp) <;> with_reducible rfl
              refine wpAny_take (i := 8) (v := ?_) rfl (by kernel_rfl) (by kernel_rfl) (by kernel_rfl) (fun _ _ _ h => h) (Or.inl ⟨by rfl, ?_⟩) ?_
              rotate_left 1
              · (intro w; go_simp) <;> with_reducible rfl
              refine wpAny_take (i := 9) (v := ?_) rfl (by kernel_rfl) (by kernel_rfl) (by kernel_rfl) (fun _ _ _ h => h) (Or.inl ⟨by rfl, ?_⟩) ?_
              rotate_left 1
              · (intro w; go_simp) <;> with_reducible rfl
              refine wpAny_take (i := 10) (v := ?_) rfl (by kernel_rfl) (by kernel_rfl) (by kernel_rfl) (fun _ _ _ h => h) (Or.inl ⟨by rfl, ?_⟩) ?_
              rotate_left 1
              · (intro w; go_simp) <;> with_reducible rfl
              refine wpAny_ready (rs := [5]) (by kernel_rfl) (by simp) ?_
              refine AllReady.cons rfl (fun K hK => ?_) AllReady.nil
              go_simp
              go_wp2_with fail
              refine (rhalf_some HV1.out _).mono ?_
              rintro e w' ⟨rfl, rfl⟩
              go_wp2_with fail
              refine wpAny_take (i := 6) (v := ?_) rfl (by kernel_rfl) (by kernel_rfl) (by kernel_rfl) (fun _ _ _ h => h) (Or.inl ⟨by rfl, ?_⟩) ?_
              rotate_left 1
              · (intro w; go_simp) <;> with_reducible rfl
              refine wpAny_ready (rs := [11]) (by kernel_rfl) (by simp) ?_
              refine AllReady.cons rfl (fun K hK => ?_) AllReady.nil
              go_simp
              go_wp2_with fail
              refine (rhalf_some HV2.out _).mono ?_
              rintro e w' ⟨rfl, rfl⟩
              go_wp2_with fail
              refine wpAny_take (i := 12) (v := ?_) rfl (by kernel_rfl) (by kernel_rfl) (by kernel_rfl) (fun _ _ _ h => h) (Or.inl ⟨by rfl, ?_⟩) ?_
              rotate_left 1
              · (intro w; go_simp) <;> with_reducible rfl
              refine wpAny_take (i := 13) (v := ?_) rfl (by kernel_rfl) (by kernel_rfl) (by kernel_rfl) (fun _ _ _ h => h) (Or.inl ⟨by rfl, ?_⟩) ?_
              rotate_left 1
              · (intro w; go_simp) <;> with_reducible rfl
              refine wpAny_ready (rs := [14]) (by kernel_rfl) (by simp) ?_
              refine AllReady.cons rfl (fun K hK => ?_) AllReady.nil
              go_simp
              refine hK _ _ ?_
              clear hK K
              refine wpAny_ready (rs := [15]) (by kernel_rfl) (by simp) ?_
              refine AllReady.cons rfl (fun K hK => ?_) AllReady.nil
              refine Buf.step rfl (.tmp 45) (.tmp 59) rfl w _ _ out (hB.allocB _).drewB [UInt8.ofNat (a * 16 + b)] 1 1 wr.heap.size _ (0, 0) rfl (by decide) ?_ (Kit.fresh_block wr _ _) (by first | rfl | simp [Act.eval, Act.put]) (by first | rfl | simp [Act.eval, Act.put]) ?_ ?_
              · show [Value.int .u8 _] = [Value.int .u8 ((UInt8.ofNat (a * 16 + b)).toNat : Int)]
                rw [byte_of a16 b16]
                exact congrArg (fun x => [Value.int .u8 x]) (by omega)
              · omega
              intro g3 c3 w3 hB3 _ _ hbb
              refine hK _ _ ?_
              clear hK K
              refine wpAny_take (i := 16) (v := ?_) rfl (by kernel_rfl) (by kernel_rfl) (by kernel_rfl) (fun _ _ _ h => h) (Or.inl ⟨by rfl, ?_⟩) ?_
              rotate_left 1
              · (intro w; go_simp) <;> with_reducible rfl
              refine wpAny_done (by kernel_rfl) ?_ _
              go_wp2
              go_roundw
              case rel => exact ⟨k + 3, _, by omega, by rw [List.length_append]; show out.length + 1 ≤ _; omega, by go_num, hnx, hB3⟩
              case measure => simp [intOf]; omega
      · have hnx : Hid (out ++ s[k] :: plainL (s.data.toList.drop (k + 1)) = plainL s.data.toList) := by
          show _ = _
          rw [← hq.out, hd0, plain_ne (fun e => h61 (by rw [e]; rfl))]
        have f1 : ((s[k].toNat : Int) == 61) = false := by rw [beq_eq_false_iff_ne]; omega
        clear hd0 h61
        go_wp2_with (at_builtin; refine Buf.app rfl _ _ rfl w _ _ _ hB _ [s[k]] 1 1 rfl rfl rfl rfl ?room ?_)
        case room => omega
        intro v2 w2 hB2
        obtain ⟨L, hL⟩ : ∃ L, out ++ [s[k]] = L := ⟨_, rfl⟩
        rw [hL] at hB2
        have hLl : L.length = out.length + 1 := by rw [← hL, List.length_append]; rfl
        have hnx2 := Lib.hid (show L ++ plainL (s.data.toList.drop (k + 1)) = plainL s.data.toList by rw [← hL, List.append_assoc]; exact hnx.out)
        clear hL
        go_wp2
        go_roundw
        case rel => exact ⟨k + 1, L, by omega, by omega, by go_num, hnx2, hB2⟩
        case measure => simp [intOf]; omega
    · have hend := Lib.hid (show out = (plainB s).data.toList by rw [plainB_data, ← hq.out, List.drop_of_length_le (by rw [← Lib.size_eq]; omega), plain_nil, List.append_nil])
      have g1 : ¬ (k : Int) < s.size := by omega
      have hb := hB.below
      have hrun := hB.string
      clear hB
      go_wp2
      go_ret
      exact ⟨ret_string (Kit.bytes_ext (by rw [← hend.out])), hb⟩
end Go.Proofs.YtlckhhdkjjfijaaDoor.Q4
