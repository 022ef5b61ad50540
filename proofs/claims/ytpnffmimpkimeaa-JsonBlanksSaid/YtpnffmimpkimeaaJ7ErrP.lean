/-
  Plain facts on JSON texts: the number of an error is not 0. No program in this text. Conditions: none.
-/
import Derived.Test.YtpnffmimpkimeaaJ7RiteV
namespace Go.Proofs.Ytpnffmimpkimeaa.J7
open Go Go.RowKit Go.Joins Kit Dg

/-- No error has the number 0. -/
def NoZ {α : Type} (o : Except Nat α) : Prop := o ≠ .error 0
theorem noz_ok {α : Type} (a : α) : NoZ (.ok a : Except Nat α) := fun h => by cases h
theorem noz_err {α : Type} {e : Nat} (h : e ≠ 0) : NoZ (.error e : Except Nat α) := fun h' => by injection h' with h'; exact h h'
theorem noz_pass {α β : Type} {o : Except Nat α} {e : Nat} (h : NoZ o) (ho : o = .error e) : NoZ (.error e : Except Nat β) := noz_err fun h0 => h (by rw [ho, h0])
theorem hexF_noz : ∀ (k v : Nat) (l : List UInt8), NoZ (hexF k v l)
  | 0, v, l => by rw [hexF]; exact noz_ok _
  | k + 1, v, [] => by rw [hexF]; exact noz_err (by decide)
  | k + 1, v, c :: u => by
    rw [hexF]
    split
    · exact noz_err (by decide)
    · exact hexF_noz k _ u
theorem lowL_noz (v : Nat) (l : List UInt8) : NoZ (lowL v l) := by
  unfold lowL
  split
  · exact noz_err (by decide)
  · split
    · exact noz_err (by decide)
    · split
      · rename_i e he; exact noz_pass (hexF_noz 4 0 _) he
      · split
        · exact noz_ok _
        · exact noz_err (by decide)
theorem unitL_noz (l : List UInt8) : NoZ (unitL l) := by
  unfold unitL
  split
  · rename_i e he; exact noz_pass (hexF_noz 4 0 _) he
  · split
    · exact lowL_noz _ _
    · split
      · exact noz_err (by decide)
      · exact noz_ok _
theorem escapeL_noz (l : List UInt8) : NoZ (escapeL l) := by
  cases l with
  | nil => exact noz_err (by decide)
  | cons c u =>
    rw [escapeL]
    split
    · exact noz_ok _
    · split
      · exact unitL_noz _
      · exact noz_err (by decide)
theorem textF_noz : ∀ (f : Nat) (out l : List UInt8), NoZ (textF f out l)
  | 0, _, _ => by rw [textF]; exact noz_err (by decide)
  | f + 1, out, [] => by rw [textF]; exact noz_err (by decide)
  | f + 1, out, c :: u => by
    rw [textF]
    split
    · exact noz_ok _
    · split
      · split
        · rename_i e he; exact noz_pass (escapeL_noz _) he
        · exact textF_noz f _ _
      · split
        · exact noz_err (by decide)
        · split
          · exact noz_err (by decide)
          · exact textF_noz f _ _
theorem textL_noz (l : List UInt8) : NoZ (textL l) := textF_noz _ _ _
theorem digC_noz (l : List UInt8) : NoZ (digC l) := by
  cases l with
  | nil => exact noz_err (by decide)
  | cons c u =>
    rw [digC]
    split
    · exact noz_ok _
    · split
      · exact noz_err (by decide)
      · exact noz_ok _
theorem numC_noz (l : List UInt8) : NoZ (numC l) := by
  unfold numC
  split
  · split
    · rename_i e he; exact noz_pass (digC_noz _) he
    · split
      · exact noz_err (by decide)
      · exact noz_ok _
  · split
    · rename_i e he; exact noz_pass (digC_noz _) he
    · exact noz_ok _
theorem keyO_noz (obj : Bool) (keys : List ByteArray) (l : List UInt8) : NoZ (keyO obj keys l) := by
  cases obj with
  | false => exact noz_ok (keys, l)
  | true =>
    show NoZ (keyL keys l)
    unfold keyL
    split
    · exact noz_err (by decide)
    · split
      · rename_i e he; exact noz_pass (textL_noz _) he
      · split
        · exact noz_err (by decide)
        · unfold colonL
          split
          · exact noz_err (by decide)
          · exact noz_ok _
theorem items_noz {val : List UInt8 → Out J} (hv : ∀ l, NoZ (val l)) (obj : Bool) : ∀ (f : Nat) (keys : List ByteArray) (kids : List J) (l : List UInt8), NoZ (itemsG val obj f keys kids l)
  | 0, _, _, _ => by rw [itemsG]; exact noz_err (by decide)
  | f + 1, keys, kids, l => by
    rw [itemsG]
    split
    · rename_i e he; exact noz_pass (keyO_noz _ _ _) he
    · split
      · rename_i e he; exact noz_pass (hv _) he
      · split
        · exact noz_ok _
        · split
          · exact items_noz hv obj f _ _ _
          · exact noz_err (by decide)
theorem list_noz {val : List UInt8 → Out J} (hv : ∀ l, NoZ (val l)) (obj : Bool) (l : List UInt8) : NoZ (listG val obj l) := by
  unfold listG
  split
  · exact noz_ok _
  · exact items_noz hv _ _ _ _ _
theorem word_noz (w : List UInt8) (k : Int) (l : List UInt8) : NoZ (wordJ w k l) := by
  unfold wordJ
  split
  · exact noz_err (by decide)
  · exact noz_ok _
theorem valueH_noz {lst : Bool → List UInt8 → Out J} (hl : ∀ obj l, NoZ (lst obj l)) (l : List UInt8) : NoZ (valueH numC lst l) := by
  unfold valueH
  split
  · exact noz_err (by decide)
  · split
    · exact word_noz _ _ _
    split
    · exact word_noz _ _ _
    split
    · exact word_noz _ _ _
    split
    · unfold textJ
      split
      · rename_i e he; exact noz_pass (textL_noz _) he
      · exact noz_ok _
    split
    · exact hl _ _
    split
    · exact hl _ _
    · exact numC_noz _
theorem valueG_noz : ∀ (d : Nat) (l : List UInt8), NoZ (valueG numC d l)
  | 0, l => by rw [valueG_eq]; exact valueH_noz (lst := lstG numC 0) (fun _ _ => noz_err (by decide)) l
  | d + 1, l => by rw [valueG_eq]; exact valueH_noz (lst := lstG numC (d + 1)) (fun obj l => list_noz (valueG_noz d) obj l) l
theorem parse_noz (l : List UInt8) : NoZ (parseG numC l) := by
  unfold parseG
  split
  · exact noz_err (by decide)
  · split
    · rename_i e he; exact noz_pass (valueG_noz _ _) he
    · split
      · exact noz_ok _
      · exact noz_err (by decide)
/-- Two readings of what is right are the same to Same. -/
theorem same_any : ∀ (d : Nat) (j : J), RightJ d j → SameOk j
  | d, .mk k n t keys kids, h => by
    rcases right_cases d k n t keys kids h with ⟨rfl, rfl, _⟩ | ⟨d', rfl, rfl, rfl, _, ih, h18, h17, _⟩
    · exact same_of _ (fun i hi => absurd hi (Nat.not_lt_zero i)) (by show (0 : Nat) ≤ 1000000; omega) (by show (0 : Nat) ≤ 1000000; omega)
    · exact same_of _ (fun i hi => same_any d' _ (ih i hi)) (by show keys.length ≤ 1000000; omega) (by show kids.length ≤ 1000000; omega)
end Go.Proofs.Ytpnffmimpkimeaa.J7
