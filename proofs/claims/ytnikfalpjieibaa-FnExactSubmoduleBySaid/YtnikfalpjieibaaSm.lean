/-
  A system solved, in the specification.
-/
import Derived.Test.YtnikfalpjieibaaJn
import Derived.Test.YtnikfalpjieibaaRi
import Derived.Test.YtnikfalpjieibaaRedS
import Derived.Deep.RegionHeld3
import Derived.RegionTactic
namespace Go.Proofs.Ytnikfalpjieibaa
open Go.ChangeShapes Go.WideShapes Go.ChangeAt Go.RowKit
set_option linter.unusedVariables false

theorem gi_rep (n k : Nat) : gi (List.replicate n (0 : Int)) k = 0 := by
  simp only [gi, List.getD_eq_getElem?_getD, List.getElem?_replicate]; split <;> rfl
/-- The last column is found among the pivots exactly if there is no solution. -/
theorem sol_pv {P : Int} {R C : Nat} {xs vs : List Int} : (solOk P R C xs vs = true → redM P R (C + 1) (jcTo C xs vs R) = solS P R C xs vs) ∧ (solOk P R C xs vs = false → C ∈ (redM P R (C + 1) (jcTo C xs vs R)).pv) := by
  have e : redM P R (C + 1) (jcTo C xs vs R) = colS P R (C + 1) C (solS P R C xs vs) := rfl
  unfold solOk
  rw [e, colS]
  constructor
  · intro h
    rw [if_pos (by simpa using h)]
  · intro h
    rw [if_neg (by simpa using h), colP]
    simp
theorem solS_notin {P : Int} {R C : Nat} {xs vs : List Int} : C ∉ (solS P R C xs vs).pv := fun h => by
  have := (redTo_pv (P := P) (R := R) (C := C + 1) (xs := jcTo C xs vs R) C).2.2 C h
  omega
/-- What a region keeps that writes into one block, and what the walk reads of it. -/
theorem other_grown {w w' : World} {b B : Nat} {vs : List Value} (h : Cells w B vs) (hg : w.grownBy w' (some b)) (hne : B ≠ b) : Cells w' B vs := h.grown hg (fun k hk => by simp at hk; omega)
theorem grown_cell {w w' : World} {b : Nat} (hg : w.grownBy w' (some b)) (j : Nat) (v : Value) : w.grownBy (w'.setCell ⟨b, j, none⟩ v) (some b) := grownBy_set (p := ⟨b, j, none⟩) hg rfl v

end Go.Proofs.Ytnikfalpjieibaa

/-
  SolveMatrix of both texts.
-/
namespace Go.Proofs.Ytnikfalpjieibaa
open Go.ChangeShapes Go.WideShapes Go.ChangeAt Go.RowKit
set_option linter.unusedVariables false

def Rints (w w' : World) (v : Value) (xs : List Int) : Prop := ∃ a n c, v = .slice a n c ∧ Own w' w.heap.size w'.heap.size a n xs ∧ n ≤ 1048576
noncomputable def solveM (P R C : Int) (xs vs : List Int) : List Int × Bool :=
  if mok P R C xs && (((vs.length : Int) == R) && resB vs P) then (if solOk P R.toNat C.toNat xs vs then (solL P R.toNat C.toNat xs vs, true) else ([], false)) else ([], false)
theorem solL_length {P : Int} {R C : Nat} {xs vs : List Int} : (solL P R C xs vs).length = C := solTo_length ..

end Go.Proofs.Ytnikfalpjieibaa
