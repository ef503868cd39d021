/-
  SolveMatrix of both texts.
-/
import Derived.Test.YtgmipolgnpjmnaaSolveS
namespace Go.Proofs.Ytgmipolgnpjmnaa
open Go.ChangeShapes Go.WideShapes Go.ChangeAt Go.RowKit
set_option linter.unusedVariables false

def Rints (w w' : World) (v : Value) (xs : List Int) : Prop := ∃ a n c, v = .slice a n c ∧ Own w' w.heap.size w'.heap.size a n xs ∧ n ≤ 1048576
noncomputable def solveM (P R C : Int) (xs vs : List Int) : List Int × Bool :=
  if mok P R C xs && (((vs.length : Int) == R) && resB vs P) then (if solOk P R.toNat C.toNat xs vs then (solL P R.toNat C.toNat xs vs, true) else ([], false)) else ([], false)
theorem solL_length {P : Int} {R C : Nat} {xs vs : List Int} : (solL P R C xs vs).length = C := solTo_length ..

end Go.Proofs.Ytgmipolgnpjmnaa
