/-
  KernelOf and MeetSpaces of both texts.
-/
import Derived.Test.YtapaopapgnfdkaaKr
import Derived.Test.YtapaopapgnfdkaaCs
namespace Go.Proofs.Ytapaopapgnfdkaa
open Go.ChangeShapes Go.WideShapes Go.ChangeAt Go.RowKit
set_option linter.unusedVariables false

noncomputable def kerM (P R C : Int) (xs : List Int) : Mat := if mok P R C xs then ⟨P, (kerN P R.toNat C.toNat xs : Nat), C, kerS P R.toNat C.toNat xs⟩ else noMat
theorem kerS_length {P : Int} {R C : Nat} {xs : List Int} : (kerS P R C xs).length = kerN P R C xs * C := spanL_length kerL_length
theorem kerN_le {P : Int} {R C : Nat} {xs : List Int} : kerN P R C xs ≤ C := (redTo_pv (P := P) (R := nullN P R C xs) (C := C) (xs := kerL P R C xs) C).1
theorem kerL_res {P : Int} {R C : Nat} {xs : List Int} (hp : 2 ≤ P) : Res (kerL P R C xs) P := kerTo_res hp C
theorem kerS_res {P : Int} {R C : Nat} {xs : List Int} (hp : 2 ≤ P) : Res (kerS P R C xs) P := spanL_res hp (kerL_res hp)
theorem ker_span {P : Int} {R C : Nat} {xs : List Int} (hp : IsP P) (hl : xs.length = R * C) (hx : Res xs P) : kerN P (redM P R C xs).pv.length C (spanL P R C xs) = kerN P R C xs ∧ kerS P (redM P R C xs).pv.length C (spanL P R C xs) = kerS P R C xs := by
  obtain ⟨h1, h2⟩ := kerL_span hp hl hx
  simp only [kerN, kerS, h1, h2, and_self]

/-- What two spaces have in common. -/
noncomputable def meetN (P : Int) (R R' C : Nat) (xs ys : List Int) : Nat := kerN P (kerN P R C xs + kerN P R' C ys) C (kerS P R C xs ++ kerS P R' C ys)
noncomputable def meetS (P : Int) (R R' C : Nat) (xs ys : List Int) : List Int := kerS P (kerN P R C xs + kerN P R' C ys) C (kerS P R C xs ++ kerS P R' C ys)
noncomputable def meetM (P R C : Int) (xs : List Int) (P' R' C' : Int) (xs' : List Int) : Mat × Bool :=
  if bothM P R C xs P' R' C' xs' then (⟨P, (meetN P R.toNat R'.toNat C.toNat xs xs' : Nat), C, meetS P R.toNat R'.toNat C.toNat xs xs'⟩, true) else (noMat, false)

end Go.Proofs.Ytapaopapgnfdkaa
