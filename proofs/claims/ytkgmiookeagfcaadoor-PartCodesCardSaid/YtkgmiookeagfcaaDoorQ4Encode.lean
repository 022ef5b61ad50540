/-
  quoted.Encode returns a text's quoted-printable. Condition: the text has at most 2^40 bytes.
-/
import Derived.Test.YtkgmiookeagfcaaDoorQ4Enc
namespace Go.Proofs.YtkgmiookeagfcaaDoor.Q4
open Go Go.RowKit Go.Joins Kit

theorem quo_step (s : ByteArray) (k n : Nat) (h : k < s.size) (out full : List UInt8) (p : List UInt8) (hp : pieceL s[k] (decide (k + 1 = s.size)) = p) (hq : out ++ quoL n (s.data.toList.drop k) = full) :
    (out ++ (brk n p.length ++ p)) ++ quoL (fill n p.length) (s.data.toList.drop (k + 1)) = full := by
  have hl : k < s.data.toList.length := by rw [← Lib.size_eq]; exact h
  have he : (s.data.toList.drop (k + 1)).isEmpty = decide (k + 1 = s.size) := by
    rw [Lib.size_eq] at h ⊢
    rcases Nat.lt_or_ge (k + 1) s.data.toList.length with h1 | h1
    · rw [List.drop_eq_getElem_cons h1]
      simp only [List.isEmpty_cons]
      symm
      rw [decide_eq_false_iff_not]
      omega
    · rw [List.drop_of_length_le h1]
      simp only [List.isEmpty_nil]
      symm
      rw [decide_eq_true_eq]
      omega
  rw [← hq, List.drop_eq_getElem_cons hl, byte_get s k h, quoL, he, hp, List.append_assoc, List.append_assoc]
theorem put_len (out : List UInt8) (n : Nat) (p : List UInt8) : (out ++ (brk n p.length ++ p)).length ≤ out.length + 3 + p.length := by
  have := brk_len n p.length
  rw [List.length_append, List.length_append]
  omega
theorem piece_flat {c : UInt8} (b : Bool) (h : flatB c.toNat = true) : pieceL c b = [c] := by rw [pieceL, h]; rfl
theorem piece_blank {c : UInt8} (h : c.toNat = 32) : pieceL c false = [c] := by
  have : c = 32 := UInt8.toNat.inj h
  subst this
  rfl
theorem piece_hex {c : UInt8} {b : Bool} (h : flatB c.toNat = false) (h2 : c.toNat ≠ 32 ∨ b = true) : pieceL c b = [61, dg (c.toNat / 16), dg (c.toNat % 16)] := by
  rw [pieceL, h, if_neg]
  rcases h2 with h2 | h2
  · have : ¬ c = 32 := fun e => h2 (by rw [e]; rfl)
    simp [this]
  · simp [h2]
theorem dig_get (k : Nat) (h : k < (ByteArray.mk #[48, 49, 50, 51, 52, 53, 54, 55, 56, 57, 65, 66, 67, 68, 69, 70]).size) : (ByteArray.mk #[48, 49, 50, 51, 52, 53, 54, 55, 56, 57, 65, 66, 67, 68, 69, 70])[k]'h = dg k := by
  have hk : k < 16 := h
  rw [← byte_get]
  unfold dg
  rw [List.getD_eq_getElem?_getD, List.getElem?_eq_getElem (show k < digL.length from hk), Option.getD_some]
  rfl
theorem one_piece (s : ByteArray) (k : Nat) (h : k < s.size) : (s.extract k (k + 1)).data.toList = [s[k]] := by
  have hl : k < s.data.toList.length := by rw [← Lib.size_eq]; exact h
  rw [← Lib.toList_data, Lib.extract_toList, List.drop_eq_getElem_cons hl, byte_get s k h, show k + 1 - k = 1 by omega]
  rfl

theorem conv_hex (W : World) (x y : Nat) (hx : x < (ByteArray.mk #[48, 49, 50, 51, 52, 53, 54, 55, 56, 57, 65, 66, 67, 68, 69, 70]).size) (hy : y < (ByteArray.mk #[48, 49, 50, 51, 52, 53, 54, 55, 56, 57, 65, 66, 67, 68, 69, 70]).size) :
    (convert 39 9 (.slice (some ⟨W.heap.size, 0, none⟩) 3 3)).run Tryd.prog (W.alloc (Obj.cells #[Value.int .u8 61, Value.int .u8 (((ByteArray.mk #[48, 49, 50, 51, 52, 53, 54, 55, 56, 57, 65, 66, 67, 68, 69, 70])[x]'hx).toNat : Int), Value.int .u8 (((ByteArray.mk #[48, 49, 50, 51, 52, 53, 54, 55, 56, 57, 65, 66, 67, 68, 69, 70])[y]'hy).toNat : Int)] 5)).drew
      = .ok (.string ⟨[61, dg x, dg y].toArray⟩) (W.alloc (Obj.cells #[Value.int .u8 61, Value.int .u8 (((ByteArray.mk #[48, 49, 50, 51, 52, 53, 54, 55, 56, 57, 65, 66, 67, 68, 69, 70])[x]'hx).toNat : Int), Value.int .u8 (((ByteArray.mk #[48, 49, 50, 51, 52, 53, 54, 55, 56, 57, 65, 66, 67, 68, 69, 70])[y]'hy).toNat : Int)] 5)).drew := by
  rw [dig_get x hx, dig_get y hy]
  exact Bld.lit [61, dg x, dg y] #[Value.int .u8 61, Value.int .u8 ((dg x).toNat : Int), Value.int .u8 ((dg y).toNat : Int)] W.drew 3 3 rfl rfl
theorem put_hex {B b f : Nat} (hB : B ≤ f) (hfb : f ≠ b) {l : List UInt8} {n : Nat} (hn : n ≤ 75) (hl : l.length ≤ 8796093022208) (x y : UInt8) (w : World) (h : Held B b f l n w) :
    Calls Tryd.prog 37 #[.string ⟨[61, x, y].toArray⟩, .pointer (some ⟨f, 0, none⟩), .pointer (some ⟨b, 0, none⟩)] w fun e w' => e = .returned (.tuple #[]) ∧ (Held B b f (l ++ (brk n [61, x, y].length ++ [61, x, y])) (fill n [61, x, y].length) w' ∧ Below B w w') :=
  put_any B b f hB hfb l n ⟨[61, x, y].toArray⟩ w h hn (by show 3 ≤ 3; decide) hl

set_option maxHeartbeats 1000000 in
set_option maxRecDepth 100000 in
theorem encode_any (s : ByteArray) (w : World) (hs : s.size ≤ 1099511627776) :
    Calls Tryd.prog 21 #[.string s] w fun e w' => e = .returned (.string ⟨(quoL 0 s.data.toList).toArray⟩) ∧ Below w.heap.size w w' := by
  go_enter Tryd.func21, Tryd.ntmps21
  go_wp2_with fail
  refine (Tryd.Builder_Grow_fresh w.heap.size w.heap.size s.size _ (Nat.le_refl _) (fresh_block w _ _) (by simp) (by omega)).mono ?_
  rintro e w1 ⟨rfl, hI, hb1⟩
  have hb0 : Below w.heap.size w w1 := ((Below.refl _ w).alloc (Nat.le_refl _) _).trans hb1
  have hne : w.heap.size < w1.heap.size := Nat.lt_of_lt_of_le (lt_alloc w _) hb1.size
  have hB : Lib.IsBuilderF 57 5 w.heap.size w.heap.size (Lib.byteCells []) w1 := Lib.IsBuilderF.of (Or.inr hI)
  clear hI hb1
  have H0 : Held w.heap.size w.heap.size w1.heap.size [] 0 (w1.alloc (.cells #[.int .i64 0] 3)) := ⟨hB.alloc _, Bld.new_one w1 _ _, Nat.le_of_lt (Nat.lt_trans hne (lt_alloc w1 _))⟩
  have hb2 : Below w.heap.size w (w1.alloc (.cells #[.int .i64 0] 3)) := hb0.alloc (Nat.le_of_lt hne) _
  have hfb : w1.heap.size ≠ w.heap.size := by omega
  have hBf : w.heap.size ≤ w1.heap.size := by omega
  go_wp2_with fail
  clear hne hb0 hB
  generalize w1.alloc (.cells #[.int .i64 0] 3) = w2 at H0 hb2 ⊢
  generalize w1.heap.size = f at H0 hfb hBf ⊢
  go_loopw [13] (fun i wr => ∃ (k n : Nat) (out : List UInt8), k ≤ s.size ∧ n ≤ 75 ∧ out.length ≤ 6 * k ∧ i = .int .i64 k ∧ Hid (out ++ quoL n (s.data.toList.drop k) = quoL 0 s.data.toList) ∧ Held w.heap.size w.heap.size f out n wr ∧ Below w.heap.size w wr) (fun i _ => s.size - (intOf i).toNat)
  case atStart => exact ⟨0, 0, [], Nat.zero_le _, Nat.zero_le _, Nat.le_refl _, rfl, rfl, H0, hb2⟩
  case round =>
    clear H0 hb2
    obtain ⟨k, n, out, hk, hn, hol, rfl, hq, H, hb⟩ := hrel
    by_cases hlt : k < s.size
    · have g1 : (k : Int) < s.size := by omega
      have hc8 := s[k].toNat_lt
      cases hf : flatB s[k].toNat with
      | true =>
        have HF := Lib.hid hf
        have hst := Lib.hid (quo_step s k n hlt out _ [s[k]] (piece_flat _ hf) hq.out)
        have hp1 := Lib.hid (one_piece s k hlt)
        clear hf
        go_wp2_with fail
        refine (isPlain_any s[k] wr).mono ?_
        rintro e w3 ⟨rfl, rfl⟩
        rw [HF.out]
        go_wp2_with fail
        refine (put_any w.heap.size w.heap.size f hBf hfb out n _ wr H hn (by rw [Lib.size_eq, hp1.out]; show 1 ≤ 3; decide) (by omega)).mono ?_
        rintro e w4 ⟨rfl, H4, hb4⟩
        rw [Lib.size_eq, hp1.out] at H4
        go_wp2
        go_roundw
        case rel => exact ⟨k + 1, _, _, by omega, fill_le (by show 1 ≤ 3; decide), by have := put_len out n [s[k]]; have e3 : [s[k]].length = 1 := rfl; omega, by go_num, hst, H4, hb.trans hb4⟩
        case measure => simp [intOf]; omega
      | false =>
        have HF := Lib.hid hf
        by_cases hbl : s[k].toNat = 32 ∧ k + 1 < s.size
        · have hst := Lib.hid (quo_step s k n hlt out _ [s[k]] (by rw [show decide (k + 1 = s.size) = false by rw [decide_eq_false_iff_not]; omega]; exact piece_blank hbl.1) hq.out)
          have hp1 := Lib.hid (one_piece s k hlt)
          have g2 : ((s[k].toNat : Int) == 32) = true := by rw [beq_iff_eq]; omega
          have g3 : (k : Int) + 1 < s.size := by omega
          clear hf hbl
          go_wp2_with fail
          refine (isPlain_any s[k] wr).mono ?_
          rintro e w3 ⟨rfl, rfl⟩
          rw [HF.out]
          go_wp2_with fail
          refine (put_any w.heap.size w.heap.size f hBf hfb out n _ wr H hn (by rw [Lib.size_eq, hp1.out]; show 1 ≤ 3; decide) (by omega)).mono ?_
          rintro e w4 ⟨rfl, H4, hb4⟩
          rw [Lib.size_eq, hp1.out] at H4
          go_wp2
          go_roundw
          case rel => exact ⟨k + 1, _, _, by omega, fill_le (by show 1 ≤ 3; decide), by have := put_len out n [s[k]]; have e3 : [s[k]].length = 1 := rfl; omega, by go_num, hst, H4, hb.trans hb4⟩
          case measure => simp [intOf]; omega
        · have hst := Lib.hid (quo_step s k n hlt out _ [61, dg ((s[k].toNat : Int) / 16).toNat, dg ((s[k].toNat : Int) % 16).toNat] (by rw [show ((s[k].toNat : Int) / 16).toNat = s[k].toNat / 16 by omega, show ((s[k].toNat : Int) % 16).toNat = s[k].toNat % 16 by omega]; exact piece_hex hf (by rw [decide_eq_true_eq]; omega)) hq.out)
          have e1 := u8_and15 (x := (s[k].toNat : Int)) (by omega) (by omega)
          have i1 : 0 ≤ (s[k].toNat : Int) / 16 := by omega
          have i2 : (s[k].toNat : Int) / 16 < 16 := by omega
          have i3 : 0 ≤ (s[k].toNat : Int) % 16 := by omega
          have i4 : (s[k].toNat : Int) % 16 < 16 := by omega
          have hconv := conv_hex wr ((s[k].toNat : Int) / 16).toNat ((s[k].toNat : Int) % 16).toNat (by show _ < 16; omega) (by show _ < 16; omega)
          have HP := Lib.hid (fun x y W => put_hex hBf hfb hn (show out.length ≤ 8796093022208 by omega) x y W)
          by_cases hb32 : s[k].toNat = 32
          · have g2 : ((s[k].toNat : Int) == 32) = true := by rw [beq_iff_eq]; omega
            have g3 : ¬ (k : Int) + 1 < s.size := by omega
            clear hf hbl hb32
            go_wp2_with fail
            refine (isPlain_any s[k] wr).mono ?_
            rintro e w3 ⟨rfl, rfl⟩
            rw [HF.out]
            go_wp2_with fail
            refine wp_region_any (by kernel_rfl) ?_
            try (change wpAny _ _ _ _ _ _ _ (World.drew _))
            refine wpAny_take (i := 0) (v := ?_) rfl (by kernel_rfl) (by kernel_rfl) (by kernel_rfl) (fun _ _ _ h => h) (Or.inl ⟨by rfl, ?_⟩) ?_
            rotate_left 1
            · (intro w; go_simp) <;> with_reducible rfl
            refine wpAny_take (i := 1) (v := ?_) rfl (by kernel_rfl) (by kernel_rfl) (by kernel_rfl) (fun _ _ _ h => h) (Or.inl ⟨by rfl, ?_⟩) ?_
            rotate_left 1
            · (intro w; go_simp) <;> with_reducible rfl
            refine wpAny_take (i := 2) (v := ?_) rfl (by kernel_rfl) (by kernel_rfl) (by kernel_rfl) (fun _ _ _ h => h) (Or.inl ⟨by rfl, ?_⟩) ?_
            rotate_left 1
            · (intro w; go_simp) <;> with_reducible rfl
            refine wpAny_take (i := 3) (v := ?_) rfl (by kernel_rfl) (by kernel_rfl) (by kernel_rfl) (fun _ _ _ h => h) (Or.inl ⟨by rfl, ?_⟩) ?_
            rotate_left 1
            · (intro w; go_simp) <;> with_reducible rfl
            refine wpAny_take (i := 4) (v := ?_) rfl (by kernel_rfl) (by kernel_rfl) (by kernel_rfl) (fun _ _ _ h => h) (Or.inl ⟨by rfl, ?_⟩) ?_
            rotate_left 1
            · (intro w; go_simp) <;> with_reducible rfl
            refine wpAny_take (i := 5) (v := ?_) rfl (by kernel_rfl) (by kernel_rfl) (by kernel_rfl) (fun _ _ _ h => h) (Or.inl ⟨by rfl, ?_⟩) ?_
            rotate_left 1
            · (intro w; go_simp) <;> with_reducible rfl
            refine wpAny_take (i := 6) (v := ?_) rfl (by kernel_rfl) (by kernel_rfl) (by kernel_rfl) (fun _ _ _ h => h) (Or.inl ⟨by rfl, ?_⟩) ?_
            rotate_left 1
            · (intro w; go_simp) <;> with_reducible rfl
            refine wpAny_take (i := 7) (v := ?_) rfl (by kernel_rfl) (by kernel_rfl) (by kernel_rfl) (fun _ _ _ h => h) (Or.inl ⟨by rfl, ?_⟩) ?_
            rotate_left 1
            · (intro w; go_simp) <;> with_reducible rfl
            refine wpAny_take (i := 8) (v := ?_) rfl (by kernel_rfl) (by kernel_rfl) (by kernel_rfl) (fun _ _ _ h => h) (Or.inl ⟨by rfl, ?_⟩) ?_
            rotate_left 1
            · (intro w; go_simp) <;> with_reducible rfl
            refine wpAny_take (i := 9) (v := ?_) rfl (by kernel_rfl) (by kernel_rfl) (by kernel_rfl) (fun _ _ _ h => h) (Or.inl ⟨by rfl, ?_⟩) ?_
            rotate_left 1
            · (intro w; go_simp) <;> with_reducible rfl
            refine wpAny_take (i := 10) (v := ?_) rfl (by kernel_rfl) (by kernel_rfl) (by kernel_rfl) (fun _ _ _ h => h) (Or.inl ⟨by rfl, ?_⟩) ?_
            rotate_left 1
            · (intro w; go_simp) <;> with_reducible rfl
            refine wpAny_ready (rs := [11]) (by kernel_rfl) (by simp) ?_
            refine AllReady.cons rfl (fun K hK => ?_) AllReady.nil
            go_simp
            refine hK _ _ ?_
            clear hK K
            refine wpAny_ready (rs := [12]) (by kernel_rfl) (by simp) ?_
            refine AllReady.cons rfl (fun K hK => ?_) AllReady.nil
            go_simp
            refine hK _ _ ?_
            clear hK K
            refine wpAny_ready (rs := [13]) (by kernel_rfl) (by simp) ?_
            refine AllReady.cons rfl (fun K hK => ?_) AllReady.nil
            go_simp
            go_wp2_with fail
            refine (HP.out _ _ _ (H.alloc _).drew).mono ?_
            rintro e w4 ⟨rfl, H4, hb4⟩
            go_wp2_with fail
            refine wpAny_done (by kernel_rfl) ?_ _
            go_wp2
            go_roundw
            case rel => exact ⟨k + 1, _, _, by omega, fill_le (by show 3 ≤ 3; decide), by have := put_len out n [61, dg ((s[k].toNat : Int) / 16).toNat, dg ((s[k].toNat : Int) % 16).toNat]; have e3 : [61, dg ((s[k].toNat : Int) / 16).toNat, dg ((s[k].toNat : Int) % 16).toNat].length = 3 := rfl; omega, by go_num, hst, H4, hb.trans ((((Below.refl _ wr).alloc H.room _).drew).trans hb4)⟩
            case measure => simp [intOf]; omega
          · have g2 : ((s[k].toNat : Int) == 32) = false := by rw [beq_eq_false_iff_ne]; omega
            clear hf hbl hb32
            go_wp2_with fail
            refine (isPlain_any s[k] wr).mono ?_
            rintro e w3 ⟨rfl, rfl⟩
            rw [HF.out]
            go_wp2_with fail
            refine wp_region_any (by kernel_rfl) ?_
            try (change wpAny _ _ _ _ _ _ _ (World.drew _))
            refine wpAny_take (i := 0) (v := ?_) rfl (by kernel_rfl) (by kernel_rfl) (by kernel_rfl) (fun _ _ _ h => h) (Or.inl ⟨by rfl, ?_⟩) ?_
            rotate_left 1
            · (intro w; go_simp) <;> with_reducible rfl
            refine wpAny_take (i := 1) (v := ?_) rfl (by kernel_rfl) (by kernel_rfl) (by kernel_rfl) (fun _ _ _ h => h) (Or.inl ⟨by rfl, ?_⟩) ?_
            rotate_left 1
            · (intro w; go_simp) <;> with_reducible rfl
            refine wpAny_take (i := 2) (v := ?_) rfl (by kernel_rfl) (by kernel_rfl) (by kernel_rfl) (fun _ _ _ h => h) (Or.inl ⟨by rfl, ?_⟩) ?_
            rotate_left 1
            · (intro w; go_simp) <;> with_reducible rfl
            refine wpAny_take (i := 3) (v := ?_) rfl (by kernel_rfl) (by kernel_rfl) (by kernel_rfl) (fun _ _ _ h => h) (Or.inl ⟨by rfl, ?_⟩) ?_
            rotate_left 1
            · (intro w; go_simp) <;> with_reducible rfl
            refine wpAny_take (i := 4) (v := ?_) rfl (by kernel_rfl) (by kernel_rfl) (by kernel_rfl) (fun _ _ _ h => h) (Or.inl ⟨by rfl, ?_⟩) ?_
            rotate_left 1
            · (intro w; go_simp) <;> with_reducible rfl
            refine wpAny_take (i := 5) (v := ?_) rfl (by kernel_rfl) (by kernel_rfl) (by kernel_rfl) (fun _ _ _ h => h) (Or.inl ⟨by rfl, ?_⟩) ?_
            rotate_left 1
            · (intro w; go_simp) <;> with_reducible rfl
            refine wpAny_take (i := 6) (v := ?_) rfl (by kernel_rfl) (by kernel_rfl) (by kernel_rfl) (fun _ _ _ h => h) (Or.inl ⟨by rfl, ?_⟩) ?_
            rotate_left 1
            · (intro w; go_simp) <;> with_reducible rfl
            refine wpAny_take (i := 7) (v := ?_) rfl (by kernel_rfl) (by kernel_rfl) (by kernel_rfl) (fun _ _ _ h => h) (Or.inl ⟨by rfl, ?_⟩) ?_
            rotate_left 1
            · (intro w; go_simp) <;> with_reducible rfl
            refine wpAny_take (i := 8) (v := ?_) rfl (by kernel_rfl) (by kernel_rfl) (by kernel_rfl) (fun _ _ _ h => h) (Or.inl ⟨by rfl, ?_⟩) ?_
            rotate_left 1
            · (intro w; go_simp) <;> with_reducible rfl
            refine wpAny_take (i := 9) (v := ?_) rfl (by kernel_rfl) (by kernel_rfl) (by kernel_rfl) (fun _ _ _ h => h) (Or.inl ⟨by rfl, ?_⟩) ?_
            rotate_left 1
            · (intro w; go_simp) <;> with_reducible rfl
            refine wpAny_take (i := 10) (v := ?_) rfl (by kernel_rfl) (by kernel_rfl) (by kernel_rfl) (fun _ _ _ h => h) (Or.inl ⟨by rfl, ?_⟩) ?_
            rotate_left 1
            · (intro w; go_simp) <;> with_reducible rfl
            refine wpAny_ready (rs := [11]) (by kernel_rfl) (by simp) ?_
            refine AllReady.cons rfl (fun K hK => ?_) AllReady.nil
            go_simp
            refine hK _ _ ?_
            clear hK K
            refine wpAny_ready (rs := [12]) (by kernel_rfl) (by simp) ?_
            refine AllReady.cons rfl (fun K hK => ?_) AllReady.nil
            go_simp
            refine hK _ _ ?_
            clear hK K
            refine wpAny_ready (rs := [13]) (by kernel_rfl) (by simp) ?_
            refine AllReady.cons rfl (fun K hK => ?_) AllReady.nil
            go_simp
            go_wp2_with fail
            refine (HP.out _ _ _ (H.alloc _).drew).mono ?_
            rintro e w4 ⟨rfl, H4, hb4⟩
            go_wp2_with fail
            refine wpAny_done (by kernel_rfl) ?_ _
            go_wp2
            go_roundw
            case rel => exact ⟨k + 1, _, _, by omega, fill_le (by show 3 ≤ 3; decide), by have := put_len out n [61, dg ((s[k].toNat : Int) / 16).toNat, dg ((s[k].toNat : Int) % 16).toNat]; have e3 : [61, dg ((s[k].toNat : Int) / 16).toNat, dg ((s[k].toNat : Int) % 16).toNat].length = 3 := rfl; omega, by go_num, hst, H4, hb.trans ((((Below.refl _ wr).alloc H.room _).drew).trans hb4)⟩
            case measure => simp [intOf]; omega
    · have hend := Lib.hid (show out = quoL 0 s.data.toList by rw [← hq.out, List.drop_of_length_le (by rw [← Lib.size_eq]; omega), quoL, List.append_nil])
      have g1 : ¬ (k : Int) < s.size := by omega
      go_wp2_with fail
      refine (Tryd.Builder_String_any_k w.heap.size w.heap.size out _ H.bld H.room).mono ?_
      rintro e w4 ⟨rfl, _, hb4, _⟩
      go_wp2
      go_ret
      exact ⟨ret_str hend.out, hb.trans hb4⟩
end Go.Proofs.YtkgmiookeagfcaaDoor.Q4
