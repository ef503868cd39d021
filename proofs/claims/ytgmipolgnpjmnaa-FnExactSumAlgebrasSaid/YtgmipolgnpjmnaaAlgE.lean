/-
  Algebras that are equal, and abelian ones: both texts.
-/
import Derived.Test.YtgmipolgnpjmnaaAlgOk2
import Derived.Test.YtgmipolgnpjmnaaFr
import Derived.Test.YtgmipolgnpjmnaaCs
namespace Go.Proofs.Ytgmipolgnpjmnaa
open Go.ChangeShapes Go.WideShapes Go.ChangeAt Go.RowKit
set_option linter.unusedVariables false

noncomputable def eqA (P D : Int) (xs : List Int) (P' D' : Int) (xs' : List Int) : Bool := algB P D xs && (algB P' D' xs' && ((P == P') && ((D == D') && sameB xs xs')))

/-- An algebra as numbers. -/
structure Alg where
  p : Int
  d : Int
  t : List Int
def noAlg : Alg := ⟨0, 0, []⟩
noncomputable def abelA (P D : Int) : Alg := if dimB P D then ⟨P, D, List.replicate (D * D * D).toNat 0⟩ else noAlg
theorem cubeI {D : Int} (h : inB D 0 28 = true) : IntKind.i64.wrap (D * D) = D * D ∧ IntKind.i64.wrap (D * D * D) = D * D * D ∧ 0 ≤ D * D * D ∧ D * D * D ≤ 1048576 := by
  obtain ⟨h0, h1⟩ := inB_iff.1 h
  obtain ⟨D, rfl⟩ := Int.eq_ofNat_of_zero_le h0
  have hD : D ≤ 28 := by omega
  have h28 := cube28 hD
  have h27 : D * D ≤ 784 := Nat.mul_le_mul hD hD
  have e1 : (D : Int) * (D : Int) = ((D * D : Nat) : Int) := by simp
  have e2 : (D : Int) * (D : Int) * (D : Int) = ((D * D * D : Nat) : Int) := by simp
  refine ⟨IntWalk.i64_in _ ⟨by rw [e1]; omega, by rw [e1]; omega⟩, IntWalk.i64_in _ ⟨by rw [e2]; omega, by rw [e2]; omega⟩, by rw [e2]; omega, by rw [e2]; omega⟩

set_option maxHeartbeats 400000 in
theorem newLie_impl (P D : Int) (w : World) (h : inB D 0 28 = true) :
    Calls Try.prog 54 #[.int .i64 P, .int .i64 D] w fun e w' => ∃ B b, e = .returned (.pointer (some ⟨B, 0, none⟩)) ∧ Cells w' B [.int .i64 P, .int .i64 D, .slice (some ⟨b, 0, none⟩) (D * D * D).toNat (D * D * D).toNat] ∧ w.heap.size ≤ b ∧ b < w'.heap.size ∧ Has w' b (List.replicate (D * D * D).toNat 0) ∧ Ext w w' := by
  obtain ⟨v1, v2, g0, g1⟩ := cubeI h
  have hmk := make_intsz (D * D * D) g0 g1
  clear h g0 g1
  go_enter Try.func54, Try.ntmps54
  go_wp2
  go_ret
  exact ⟨w.heap.size + 1, w.heap.size, rfl, cells_new' _ _ _ _ (by simp), Nat.le_refl _, by simp; omega, (Has.new w _).ext ((Ext.refl _).alloc _), ((Ext.refl _).alloc _).alloc _⟩

end Go.Proofs.Ytgmipolgnpjmnaa
