/-
  What Parse leaves, in one form for both of its ends; eight blanks and their beginnings. Conditions: none.
-/
import Derived.Test.YtpnffmimpkimeaaJ7ErrP
import Derived.Test.YtpnffmimpkimeaaJ7BlP
import Derived.Test.YtpnffmimpkimeaaApm
namespace Go.Proofs.Ytpnffmimpkimeaa.J7
open Go Go.RowKit Go.Joins Kit

def J0 : J := .mk 0 0 ⟨#[]⟩ [] []
def jO : Except Nat J → J
  | .ok j => j
  | .error _ => J0
def cO : Except Nat J → Nat
  | .ok _ => 0
  | .error e => e
theorem parse_one {w0 w : World} {o : Except Nat J} {e' : Ending} (h : ParseLeft w0 o e' w) : Below w0.heap.size w0 w ∧ ∃ x1 x2 a3 l3 m3 a4 l4 m4, e' = .returned (.tuple #[.agg #[.int .i64 (jO o).kind, .int .i64 x1, .string x2, .slice a3 l3 m3, .slice a4 l4 m4], .int .i64 (cO o : Int)]) ∧
    NodeAt (fun g => w0.heap.size ≤ g) w (jO o) (.agg #[.int .i64 (jO o).kind, .int .i64 x1, .string x2, .slice a3 l3 m3, .slice a4 l4 m4]) := by
  obtain ⟨hb, x0, x1, x2, a3, l3, m3, a4, l4, m4, c, he, hm⟩ := parse_forms h
  cases o with
  | ok j =>
    obtain ⟨hc, hn⟩ := hm
    have hk : x0 = j.kind := by
      cases j with
      | mk k n t keys kids =>
        have hn' := hn
        rw [NodeAt] at hn'
        obtain ⟨kv, vv, hv, _⟩ := hn'
        injection hv with hv
        injection hv with hv
        injection hv with h1 _
        injection h1
    subst hk hc
    exact ⟨hb, _, _, _, _, _, _, _, _, he, hn⟩
  | error e =>
    obtain ⟨hc, hz⟩ := hm
    have hz' := hz
    unfold zeroN at hz'
    injection hz' with hz'
    injection hz' with hz'
    injection hz' with h1 _
    injection h1 with _ h1
    subst h1 hc
    refine ⟨hb, _, _, _, _, _, _, _, _, he, ?_⟩
    show NodeAt _ _ J0 _
    rw [show (Value.agg #[.int .i64 (jO (.error e)).kind, .int .i64 x1, .string x2, .slice a3 l3 m3, .slice a4 l4 m4]) = zeroN from hz]
    exact node_plain _ _ 0 0 ⟨#[]⟩
theorem same_one (l : List UInt8) : SameOk (jO (parseG numC l)) := by
  cases ho : parseG numC l with
  | error e => exact same_of _ (fun i hi => absurd hi (Nat.not_lt_zero i)) (by show (0 : Nat) ≤ 1000000; omega) (by show (0 : Nat) ≤ 1000000; omega)
  | ok j => exact same_any 24 j (parse_right ho).1
theorem code_one (l : List UInt8) : cO (parseG numC l) = 0 ↔ ∃ j, parseG numC l = .ok j := by
  cases ho : parseG numC l with
  | error e =>
    refine ⟨fun h => ?_, fun ⟨j, h⟩ => by cases h⟩
    have := parse_noz l
    rw [ho] at this
    exact absurd (by rw [show e = 0 from h]) this
  | ok j => exact ⟨fun _ => ⟨j, rfl⟩, fun _ => rfl⟩
theorem at_of {w : World} {v : Value} {l : List UInt8} (h : BytesAt w v l) : Apm.At w v l := h
theorem of_at {w : World} {v : Value} {l : List UInt8} (h : Apm.At w v l) : BytesAt w v l := h
def bs8 : List UInt8 := [32, 9, 10, 13, 32, 10, 9, 13]
theorem bs8_all : ∀ c ∈ bs8, blank c = true := by decide
theorem bs8_bl (k : Nat) : Bl (bs8.take k) := fun c h => bs8_all c (List.mem_of_mem_take h)
theorem bs8_take (k : Nat) (h : k ≤ 8) : ((ByteArray.mk #[32, 9, 10, 13, 32, 10, 9, 13]).extract 0 k).data.toList = bs8.take k := by
  have : ∀ k : Fin 9, ((ByteArray.mk #[32, 9, 10, 13, 32, 10, 9, 13]).extract 0 k.1).data.toList = bs8.take k.1 := by decide +kernel
  exact this ⟨k, by omega⟩
theorem bs8_len (k : Nat) : (bs8.take k).length ≤ 8 := by rw [List.length_take]; exact Nat.min_le_right _ _
theorem blank_byte {c : UInt8} (h : blank c = false) : (c.toNat : Int) ≠ 32 ∧ (c.toNat : Int) ≠ 9 ∧ (c.toNat : Int) ≠ 10 ∧ (c.toNat : Int) ≠ 13 := by
  have hc : ∀ d : UInt8, (c.toNat : Int) = (d.toNat : Int) → c = d := fun d hd => byte_eq hd
  refine ⟨fun e => ?_, fun e => ?_, fun e => ?_, fun e => ?_⟩
  · obtain rfl := hc 32 e; cases h
  · obtain rfl := hc 9 e; cases h
  · obtain rfl := hc 10 e; cases h
  · obtain rfl := hc 13 e; cases h
end Go.Proofs.Ytpnffmimpkimeaa.J7
