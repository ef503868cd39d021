/-
  MulMatrices of both texts.
-/
import Derived.Test.YtnikfalpjieibaaMulS
namespace Go.Proofs.Ytnikfalpjieibaa
open Go.RowKit
set_option linter.unusedVariables false

noncomputable def mulM (P R C : Int) (xs : List Int) (P' R' C' : Int) (xs' : List Int) : Mat × Bool :=
  if mok P R C xs && mok P' R' C' xs' && (P == P') && (C == R') then (⟨P, R, C', mulTo P xs xs' R.toNat C.toNat C'.toNat R.toNat⟩, true) else (noMat, false)

end Go.Proofs.Ytnikfalpjieibaa
