/-
  Spaces of elements of an algebra: both texts.
-/
import Derived.Test.YtkbpigpanookjaaAlgOk2
import Derived.Test.YtkbpigpanookjaaSp
namespace Go.Proofs.Ytkbpigpanookjaa
open Go.ChangeShapes Go.WideShapes Go.ChangeAt Go.RowKit
set_option linter.unusedVariables false
set_option linter.unusedSimpArgs false

/-- A space of elements of an algebra. -/
noncomputable def hsB (P D P' R C : Int) (xs : List Int) : Bool := spaceM P' R C xs && ((P' == P) && (C == D))
theorem hsB_parts {P : Int} {D : Nat} {P' R C : Int} {xs : List Int} {n : Nat} (h : hsB P D P' R C xs = true) (hl : xs.length = n) : ∃ r : Nat, R = r ∧ P' = P ∧ C = D ∧ r ≤ D ∧ n = r * D ∧ Res xs P := by
  simp only [hsB, Bool.and_eq_true, beq_iff_eq] at h
  obtain ⟨h1, rfl, rfl⟩ := h
  simp only [spaceM, Bool.and_eq_true] at h1
  obtain ⟨h2, h3⟩ := h1
  have hq1 := inB_iff.1 (mok_iff.1 h2).2.1
  obtain ⟨r, rfl⟩ := Int.eq_ofNat_of_zero_le hq1.1
  have hl1 := mok_len h2
  have hs : IsSp P' r D xs := by simpa only [Int.toNat_natCast, spB, decide_eq_true_eq] using h3
  have h4 := (redTo_pv (P := P') (R := r) (C := D) (xs := xs) D).1
  have h5 := hs.1
  unfold redM at h5
  refine ⟨r, rfl, rfl, rfl, by omega, ?_, mok_res h2⟩
  have : ((xs.length : Nat) : Int) = ((r * D : Nat) : Int) := by rw [hl1]; simp
  omega

end Go.Proofs.Ytkbpigpanookjaa
