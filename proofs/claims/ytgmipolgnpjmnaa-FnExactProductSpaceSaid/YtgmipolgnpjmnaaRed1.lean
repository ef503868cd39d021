/-
  The span, the rank, the determinant and the reduction, of the program.
-/
import Derived.Test.YtgmipolgnpjmnaaSpanI
import Derived.Test.YtgmipolgnpjmnaaAddM
import Derived.Test.YtgmipolgnpjmnaaTrace
namespace Go.Proofs.Ytgmipolgnpjmnaa
open Go.RowKit
set_option linter.unusedVariables false

noncomputable def spanM (P R C : Int) (xs : List Int) : Mat := if mok P R C xs then ⟨P, ((redM P R.toNat C.toNat xs).pv.length : Nat), C, spanL P R.toNat C.toNat xs⟩ else noMat
noncomputable def rankM (P R C : Int) (xs : List Int) : Int := if mok P R C xs then ((redM P R.toNat C.toNat xs).pv.length : Nat) else -1
noncomputable def detM (P R C : Int) (xs : List Int) : Int × Bool := if mok P R C xs && (R == C) then (if (redM P R.toNat C.toNat xs).pv.length < R.toNat then (0, true) else ((redM P R.toNat C.toNat xs).d, true)) else (0, false)
noncomputable def reduceM (P R C : Int) (xs : List Int) : Mat × List Int := if mok P R C xs then (⟨P, R, C, (redM P R.toNat C.toNat xs).m⟩, pvI (redM P R.toNat C.toNat xs).pv) else (noMat, [])
theorem field_mat1 (x0 x1 x2 x3 : Value) (w : World) : (Instr.field 36 (.agg #[x0, x1, x2, x3]) 1).run Try.prog w = .ok x1 w := by kernel_rfl
theorem spanK_le {P : Int} {R C n : Nat} {xs : List Int} (hn : n = R * C) : (redM P R C xs).pv.length * C ≤ n := by rw [hn]; exact Nat.mul_le_mul_right C redM_k.1

end Go.Proofs.Ytgmipolgnpjmnaa
