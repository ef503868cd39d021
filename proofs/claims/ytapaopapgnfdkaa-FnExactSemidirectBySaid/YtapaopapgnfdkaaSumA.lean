/-
  Sums of algebras: both texts.
-/
import Derived.Test.YtapaopapgnfdkaaPlc
import Derived.Test.YtapaopapgnfdkaaAlgE
namespace Go.Proofs.Ytapaopapgnfdkaa
open Go.ChangeShapes Go.WideShapes Go.ChangeAt Go.RowKit
set_option linter.unusedVariables false
set_option linter.unusedSimpArgs false

noncomputable def sumT (da db : Nat) (l l' : List Int) : List Int := piTo (da + db) da db l' (piTo (da + db) 0 da l (List.replicate ((da + db) * (da + db) * (da + db)) 0) da) db
noncomputable def sumB (P D : Int) (l : List Int) (P' D' : Int) (l' : List Int) : Bool := algB P D l && (algB P' D' l' && ((P == P') && decide (D + D' ≤ 28)))
noncomputable def sumA (P D : Int) (l : List Int) (P' D' : Int) (l' : List Int) : Alg × Bool :=
  if sumB P D l P' D' l' then (⟨P, D + D', sumT D.toNat D'.toNat l l'⟩, true) else (noAlg, false)
set_option maxHeartbeats 400000 in
theorem newLie2 (P D : Int) (w : World) (h : inB D 0 28 = true) :
    Calls Try.prog 125 #[.int .i64 P, .int .i64 D] w fun e w' => ∃ B b, e = .returned (.pointer (some ⟨B, 0, none⟩)) ∧ Cells w' B [.int .i64 P, .int .i64 D, .slice (some ⟨b, 0, none⟩) (D * D * D).toNat (D * D * D).toNat] ∧ w.heap.size ≤ b ∧ b < w'.heap.size ∧ Has w' b (List.replicate (D * D * D).toNat 0) ∧ Ext w w' ∧ w.heap.size ≤ B ∧ B ≠ b := by
  obtain ⟨v1, v2, g0, g1⟩ := cubeI h
  have hmk := make_intsz (D * D * D) g0 g1
  clear h g0 g1
  go_enter Try.func125, Try.ntmps125
  go_wp2
  go_ret
  exact ⟨w.heap.size + 1, w.heap.size, rfl, cells_new' _ _ _ _ (by simp), Nat.le_refl _, by simp; omega, (Has.new w _).ext ((Ext.refl _).alloc _), ((Ext.refl _).alloc _).alloc _, by omega, by omega⟩

end Go.Proofs.Ytapaopapgnfdkaa
