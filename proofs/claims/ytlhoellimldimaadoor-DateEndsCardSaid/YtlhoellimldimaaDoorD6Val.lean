/-
  What the functions of package date return, as values. No function of the project in this text. Conditions: none.
-/
import Derived.Test.YtlhoellimldimaaDoorD6Txt
import Derived.Test.YtlhoellimldimaaDoorKit
namespace Go.Proofs.YtlhoellimldimaaDoor.D6
open Go Go.RowKit Go.Joins Kit

def civV (n : Nat) : Value := .tuple #[.int .i64 (yr n : Nat), .int .i64 (mo n : Nat), .int .i64 (dy n : Nat), .int .i64 (ho n : Nat), .int .i64 (mi n : Nat), .int .i64 (se n : Nat)]
def rV (o : Option Nat) : Value := match o with
  | some n => .tuple #[.int .i64 (n : Int), .int .i64 0]
  | none => .tuple #[.int .i64 0, .int .i64 3]
/-- A result's two numbers. -/
def numO (o : Option Nat) : Int := match o with | some n => (n : Int) | none => 0
def errO (o : Option Nat) : Int := match o with | some _ => 0 | none => 3
theorem rV_eq (o : Option Nat) : rV o = .tuple #[.int .i64 (numO o), .int .i64 (errO o)] := by cases o <;> rfl
/-- Six results. -/
theorem results6 {fn : Func} {a b c d e f : Tmp} (h : fn.results = #[.tmp a, .tmp b, .tmp c, .tmp d, .tmp e, .tmp f]) (tmps : Array Value) (P : Program) (w : World) :
    (results fn tmps).run P w = .ok (.tuple #[tmps.getD a undef, tmps.getD b undef, tmps.getD c undef, tmps.getD d undef, tmps.getD e undef, tmps.getD f undef]) w := by
  simp [results, h]
theorem chain {w w1 w2 : World} (b : Below w.heap.size w w1) (b' : Below w1.heap.size w1 w2) : Below w.heap.size w w2 := b.trans (b'.mono b.size)
end Go.Proofs.YtlhoellimldimaaDoor.D6
