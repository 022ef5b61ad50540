/-
  utf7.isPlain tells what a row doesn't take; appendUnit, appendPoint put a unit, a code point behind a row of the caller's own: what else there is stays as it was. Conditions: the code point is one, the row has at most 2^40 bytes.
-/
import Derived.Test.YtcakcpnmbclieaaDoorBuf2
import Derived.Test.YtcakcpnmbclieaaDoorU7Plain
import Derived.Test.YtcakcpnmbclieaaDoorU8Kit
import Derived.Test.YtcakcpnmbclieaaDoorB6Kit
namespace Go.Proofs.YtcakcpnmbclieaaDoor.U7C
open Go Go.RowKit Go.Joins Kit
open U7 (u16 plainP ofNat_u8)

/-- A slice of the call's own becomes another one: in its own block, or in a new one; the other blocks stay. -/
structure Grown (w w' : World) (v v' : Value) : Prop where
  keep : ∀ k, k < w.heap.size → v.ownBlock ≠ some k → w'.heap[k]? = w.heap[k]?
  own : ∀ g, v'.ownBlock = some g → v.ownBlock = some g ∨ w.heap.size ≤ g
  size : w.heap.size ≤ w'.heap.size
theorem Grown.trans {w w1 w2 : World} {v v1 v2 : Value} (h : Grown w w1 v v1) (k : Grown w1 w2 v1 v2) : Grown w w2 v v2 where
  keep := fun i hi hv => by
    rw [k.keep i (by have := h.size; omega) (fun e => by rcases h.own i e with h' | h'; exact hv h'; omega), h.keep i hi hv]
  own := fun g hg => by
    rcases k.own g hg with h' | h'
    · exact h.own g h'
    · exact Or.inr (by have := h.size; omega)
  size := by have := h.size; have := k.size; omega
theorem grown_app {w w' : World} {v : Value} {o : Obj} {g n c : Nat} (hg : (w.alloc o).grownBy w' v.ownBlock) (hat : v.ownBlock = some g ∨ g = w.heap.size + 1) : Grown w w' v (.slice (some ⟨g, 0, none⟩) n c) where
  keep := fun k hk hv => by
    rw [hg.block k (by simp; omega) (fun e => hv e.symm), Lib.alloc_old w o k hk]
  own := fun x hx => by
    have hxg : g = x := by simpa [Value.ownBlock] using hx
    subst hxg
    rcases hat with h | h
    · exact Or.inl h
    · exact Or.inr (by omega)
  size := by
    have := hg.size
    simp at this
    omega
theorem form {W0 w : World} {v : Value} {l : List UInt8} (h : Buf W0 v l w) : ∃ ao n cap, v = .slice ao n cap := by
  obtain ⟨ao, cap, h⟩ := h.form
  exact ⟨ao, _, cap, h⟩
theorem cell_u8 {x : Nat} (h : x < 256) : Value.int .u8 ((UInt8.ofNat x).toNat : Int) = .int .u8 (x : Int) := by rw [ofNat_u8 h]

/-- A code point between 32 and 126. -/
theorem plain_any (r : Nat) (hr : r ≤ 1114111) (w : World) :
    Calls Tryd.prog 19 #[.int .i32 r] w fun e w' => e = .returned (.bool (plainP r)) ∧ w' = w := by
  have hp : plainP r = (decide ((32 : Int) ≤ r) && decide ((r : Int) ≤ 126)) := by
    unfold plainP
    congr 1 <;> (apply decide_eq_decide.2; omega)
  rw [hp]
  go_enter Tryd.func19, Tryd.ntmps19
  by_cases h1 : (32 : Int) ≤ r
  · by_cases h2 : (r : Int) ≤ 126
    · go_wp2
      go_ret
      exact ⟨by simp [h1, h2], rfl⟩
    · go_wp2
      go_ret
      exact ⟨by simp [h2], rfl⟩
  · go_wp2
    go_ret
    exact ⟨by simp; omega, rfl⟩

set_option maxHeartbeats 1000000 in
set_option maxRecDepth 100000 in
theorem unit_any (W0 w : World) (v : Value) (l : List UInt8) (hB : Buf W0 v l w) (hl : l.length ≤ 1099511627776) (u : Nat) (hu : (u : Int) ≤ 65535) :
    Calls Tryd.prog 32 #[v, .int .i64 u] w fun e w' => ∃ v', e = .returned v' ∧ Buf W0 v' (l ++ [UInt8.ofNat (u / 256), UInt8.ofNat (u % 256)]) w' ∧ Grown w w' v v' := by
  have e1 : IntKind.u8.wrap ((u : Int) / 256) = (u : Int) / 256 := IntWalk.u8_in _ (by omega)
  have e2 : IntKind.u8.wrap (u : Int) = (u : Int) % 256 := by rw [IntKind.wrap_u8]
  obtain ⟨ao, cap, rfl⟩ := hB.form
  go_enter Tryd.func32, Tryd.ntmps32
  go_wp2_with (at_builtin; refine Buf.app_at rfl _ _ rfl W0 _ _ _ (hB.allocB _) [UInt8.ofNat (u / 256), UInt8.ofNat (u % 256)] 2 2 w.heap.size _ (0, 0) rfl (by decide) ?ca (Kit.fresh_block _ _ _) rfl rfl ?cb ?_)
  case ca =>
    show _ = [Value.int .u8 ((UInt8.ofNat (u / 256)).toNat : Int), .int .u8 ((UInt8.ofNat (u % 256)).toNat : Int)]
    rw [cell_u8 (by omega), cell_u8 (by omega)]
    first | rfl | (congr 2 <;> omega)
  case cb => omega
  intro g c w' hB' hg hat
  go_wp2
  go_ret
  exact ⟨_, rfl, hB', grown_app hg hat⟩

theorem mask10 (r : Int) (h0 : 0 ≤ r) (h1 : r < 4611686018427387904) : bits .and .i64 r 1023 = r % 1024 := bits_mask .i64 62 (by decide) U8.wraps_i64 10 (by decide) r h0 (by omega)
theorem or10 (x y : Int) (h0 : 0 ≤ x) (h1 : x < 4611686018427387904) (h2 : x % 1024 = 0) (h3 : 0 ≤ y) (h4 : y < 1024) : bits .or .i64 x y = x + y :=
  bits_join .i64 62 (by decide) U8.wraps_i64 10 x y h0 h2 (by omega) h3 h4 (by omega)

set_option maxHeartbeats 1000000 in
set_option maxRecDepth 100000 in
theorem point_any (W0 w : World) (v : Value) (l : List UInt8) (hB : Buf W0 v l w) (hl : l.length ≤ 1099511600000) (r : Nat) (hr : (r : Int) ≤ 1114111) :
    Calls Tryd.prog 20 #[v, .int .i64 r] w fun e w' => ∃ v', e = .returned v' ∧ Buf W0 v' (l ++ u16 r) w' ∧ Grown w w' v v' := by
  obtain ⟨ao, n, cap, rfl⟩ := form hB
  go_enter Tryd.func20, Tryd.ntmps20
  by_cases h : (r : Int) < 65536
  · have hu : u16 r = [UInt8.ofNat (r / 256), UInt8.ofNat (r % 256)] := by rw [u16, if_neg (by omega)]
    have HU := Lib.hid hu
    clear hu
    go_wp2_with fail
    refine (unit_any W0 _ _ l hB (by omega) r (by omega)).mono ?_
    rintro e w1 ⟨v1, rfl, h1, g1⟩
    rw [← HU.out] at h1
    obtain ⟨ao1, n1, cap1, rfl⟩ := form h1
    go_wp2
    go_ret
    exact ⟨_, rfl, h1, g1⟩
  · obtain ⟨hi, hhi⟩ : ∃ hi : Nat, hi = 55296 + (r - 65536) / 1024 := ⟨_, rfl⟩
    obtain ⟨lo, hlo⟩ : ∃ lo : Nat, lo = 56320 + (r - 65536) % 1024 := ⟨_, rfl⟩
    have hu : u16 r = [UInt8.ofNat (hi / 256), UInt8.ofNat (hi % 256)] ++ [UInt8.ofNat (lo / 256), UInt8.ofNat (lo % 256)] := by
      rw [u16, if_pos (by omega), hhi, hlo]
      rfl
    have HU := Lib.hid hu
    clear hu
    have b1 : (hi : Int) = 55296 + ((r : Int) - 65536) / 1024 := by omega
    have b2 : (lo : Int) = 56320 + ((r : Int) - 65536) % 1024 := by omega
    have e1 : bits .or .i64 55296 (((r : Int) - 65536) / 1024) = (hi : Int) := by rw [or10 _ _ (by omega) (by omega) (by omega) (by omega) (by omega), b1]
    have e2 : bits .and .i64 ((r : Int) - 65536) 1023 = ((r : Int) - 65536) % 1024 := mask10 _ (by omega) (by omega)
    have e3 : bits .or .i64 56320 (((r : Int) - 65536) % 1024) = (lo : Int) := by rw [or10 _ _ (by omega) (by omega) (by omega) (by omega) (by omega), b2]
    have c1 : (hi : Int) ≤ 65535 := by omega
    have c2 : (lo : Int) ≤ 65535 := by omega
    clear b1 b2 hhi hlo
    go_wp2_with fail
    refine (unit_any W0 _ _ l hB (by omega) hi c1).mono ?_
    rintro e w1 ⟨v1, rfl, h1, g1⟩
    obtain ⟨ao1, n1, cap1, rfl⟩ := form h1
    obtain ⟨L, hL⟩ : ∃ L, l ++ [UInt8.ofNat (hi / 256), UInt8.ofNat (hi % 256)] = L := ⟨_, rfl⟩
    rw [hL] at h1
    have hl1 : L.length ≤ 1099511627776 := by rw [← hL, List.length_append]; show l.length + 2 ≤ _; omega
    have HU2 := Lib.hid (show L ++ [UInt8.ofNat (lo / 256), UInt8.ofNat (lo % 256)] = l ++ u16 r by rw [HU.out, ← hL, List.append_assoc])
    clear hL
    go_wp2_with fail
    refine (unit_any W0 _ _ L h1 hl1 lo c2).mono ?_
    rintro e w2 ⟨v2, rfl, h2, g2⟩
    rw [HU2.out] at h2
    obtain ⟨ao2, n2, cap2, rfl⟩ := form h2
    go_wp2
    go_ret
    exact ⟨_, rfl, h2, g1.trans g2⟩
end Go.Proofs.YtcakcpnmbclieaaDoor.U7C
