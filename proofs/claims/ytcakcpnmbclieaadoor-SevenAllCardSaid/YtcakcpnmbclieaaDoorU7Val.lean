/-
  What Encode and Decode of package utf7 return, as values. No function of the project in this text. Conditions: none.
-/
import Derived.Test.YtcakcpnmbclieaaDoorU7Plain
import Derived.Test.YtcakcpnmbclieaaDoorKit
namespace Go.Proofs.YtcakcpnmbclieaaDoor.U7
open Go Go.RowKit Go.Joins Kit

def encV (l : List UInt8) : Value := match encU l with
  | some x => .tuple #[.string ⟨x.toArray⟩, .int .i64 0]
  | none => .tuple #[.string ⟨#[]⟩, .int .i64 3]
theorem encV_some {l x : List UInt8} (h : encU l = some x) : encV l = .tuple #[.string ⟨x.toArray⟩, .int .i64 0] := by rw [encV, h]
theorem encV_none {l : List UInt8} (h : encU l = none) : encV l = .tuple #[.string ⟨#[]⟩, .int .i64 3] := by rw [encV, h]
def decV (l : List UInt8) : Value := match decU l with
  | some x => .tuple #[.string ⟨x.toArray⟩, .int .i64 0]
  | none => .tuple #[.string ⟨#[]⟩, .int .i64 3]
theorem decV_some {l x : List UInt8} (h : decU l = some x) : decV l = .tuple #[.string ⟨x.toArray⟩, .int .i64 0] := by rw [decV, h]
theorem decV_none {l : List UInt8} (h : decU l = none) : decV l = .tuple #[.string ⟨#[]⟩, .int .i64 3] := by rw [decV, h]
/-- A value's text, its number. -/
def etext (l : List UInt8) : ByteArray := match encU l with | some x => ⟨x.toArray⟩ | none => ⟨#[]⟩
def eerr (l : List UInt8) : Int := match encU l with | some _ => 0 | none => 3
def dtext (l : List UInt8) : ByteArray := match decU l with | some x => ⟨x.toArray⟩ | none => ⟨#[]⟩
def derr (l : List UInt8) : Int := match decU l with | some _ => 0 | none => 3
theorem encV_eq (l : List UInt8) : encV l = .tuple #[.string (etext l), .int .i64 (eerr l)] := by
  unfold encV etext eerr
  cases encU l <;> rfl
theorem decV_eq (l : List UInt8) : decV l = .tuple #[.string (dtext l), .int .i64 (derr l)] := by
  unfold decV dtext derr
  cases decU l <;> rfl
theorem mk_data (s : ByteArray) {l : List UInt8} (h : l = s.data.toList) : (⟨l.toArray⟩ : ByteArray) = s := Kit.bytes_ext (by simpa using h)
theorem encV_to {s t : ByteArray} (h : encU s.data.toList = some t.data.toList) : encV s.data.toList = .tuple #[.string t, .int .i64 0] := by rw [encV_some h, mk_data t rfl]
theorem decV_to {s t : ByteArray} (h : decU s.data.toList = some t.data.toList) : decV s.data.toList = .tuple #[.string t, .int .i64 0] := by rw [decV_some h, mk_data t rfl]
/-- A valid text's name. -/
def nameB (s : ByteArray) : ByteArray := ⟨(nameP [] (ptsL s.data.toList)).toArray⟩
theorem nameB_data (s : ByteArray) : (nameB s).data.toList = nameP [] (ptsL s.data.toList) := by simp [nameB]
theorem nameB_size (s : ByteArray) : (nameB s).size ≤ 12 * s.size + 3 := by rw [Lib.size_eq, nameB_data, Lib.size_eq]; exact name_size _
theorem nameB_enc {s : ByteArray} (h : U8.validL s.data.toList = true) : encU s.data.toList = some (nameB s).data.toList := by rw [enc_valid h, nameB_data]
theorem nameB_dec {s : ByteArray} (h : U8.validL s.data.toList = true) : decU (nameB s).data.toList = some s.data.toList := dec_iff.2 (nameB_enc h)
theorem app_data (a b : ByteArray) : (a ++ b).data.toList = a.data.toList ++ b.data.toList := by simp
end Go.Proofs.YtcakcpnmbclieaaDoor.U7
