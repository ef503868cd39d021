/-
  AddMatrices of both texts.
-/
import Derived.Test.YtgmipolgnpjmnaaAdd
namespace Go.Proofs.Ytgmipolgnpjmnaa
open Go.RowKit
set_option linter.unusedVariables false

noncomputable def addM (P R C : Int) (xs : List Int) (P' R' C' : Int) (xs' : List Int) : Mat × Bool :=
  if mok P R C xs && mok P' R' C' xs' && (P == P') && (R == R') && (C == C') then (⟨P, R, C, addL P 1 xs xs'⟩, true) else (noMat, false)
theorem mok_len {P R C : Int} {xs : List Int} (h : mok P R C xs = true) : (xs.length : Int) = R * C := (mok_iff.1 h).2.2.2.1
theorem mok_res {P R C : Int} {xs : List Int} (h : mok P R C xs = true) : Res xs P := resB_iff.1 (mok_iff.1 h).2.2.2.2
theorem mok_lo {P R C : Int} {xs : List Int} (h : mok P R C xs = true) : 2 ≤ P := isP_lo (mok_iff.1 h).1
theorem mok_hi {P R C : Int} {xs : List Int} (h : mok P R C xs = true) : P ≤ 10007 := isP_hi (mok_iff.1 h).1

end Go.Proofs.Ytgmipolgnpjmnaa
