/-
  Invariant forms and derivations: the specification's tests.
-/
import Derived.Test.YtapaopapgnfdkaaFrmC
import Derived.Test.YtapaopapgnfdkaaKil0
import Derived.Test.YtapaopapgnfdkaaMulS
import Derived.Test.YtapaopapgnfdkaaAo
namespace Go.Proofs.Ytapaopapgnfdkaa
open Go.ChangeShapes Go.WideShapes Go.ChangeAt Go.RowKit
set_option linter.unusedVariables false
set_option linter.unusedSimpArgs false

section
variable {P : Int} {D : Nat} {l fs : List Int}
theorem zeroB_iff {xs : List Int} : zeroB xs = true ↔ ∀ q, q < xs.length → gi xs q = 0 := by rw [zeroB, decide_eq_true_eq, fz_all]
theorem forall_place {p : Nat → Prop} : (∀ q, q < D * D → p q) ↔ ∀ j, j < D → ∀ k, k < D → p (j * D + k) := by
  constructor
  · intro h j hj k hk; exact h _ (place_lt hj hk)
  · intro h q hq
    have h0 : 0 < D := by
      rcases Nat.eq_zero_or_pos D with e | e
      · subst e; simp at hq
      · exact e
    have := h (q / D) (Nat.div_lt_of_lt_mul hq) (q % D) (Nat.mod_lt _ h0)
    rwa [show q / D * D + q % D = q by rw [Nat.mul_comm]; exact Nat.div_add_mod q D] at this
/-- The matrix that the specification asks to be 0. -/
def adZ (P : Int) (D : Nat) (l fs : List Int) (i : Nat) : List Int := addL P 1 (mulTo P (rowL (D * D) l i) fs D D D D) (mulTo P fs (transTo (rowL (D * D) l i) D D D) D D D D)
theorem adZ_iff (i : Nat) : zeroB (adZ P D l fs i) = true ↔ InvS1 P D l fs i := by
  rw [zeroB_iff, adZ, addL_length, mulTo_length, forall_place]
  refine forall_congr' fun j => forall_congr' fun hj => forall_congr' fun k => forall_congr' fun hk => ?_
  rw [gi_addL _ _ _ _ _ (by rw [mulTo_length]; exact place_lt hj hk), at2_mulTo j k hj hk, at2_mulTo j k hj hk, Int.one_mul, ← eqm_zero]
  have e1 : (sumN D fun c => gi (rowL (D * D) l i) (j * D + c) * gi fs (c * D + k)) = fvN D l fs i j k := sumN_congr fun c hc => by
    rw [gi_rowL2 _ _ (place_lt hj hc), tb, show (i * D + j) * D + c = i * (D * D) + (j * D + c) by rw [Nat.add_mul, Nat.mul_assoc]; omega]; rfl
  have e2 : (sumN D fun c => gi fs (j * D + c) * gi (transTo (rowL (D * D) l i) D D D) (c * D + k)) = sumN D fun c => at2 D fs j c * tb D l i k c := sumN_congr fun c hc => by
    rw [gi_transTo D (Nat.le_refl _) c k hc hk, if_pos hk, gi_rowL2 _ _ (place_lt hk hc), tb, show (i * D + k) * D + c = i * (D * D) + (k * D + c) by rw [Nat.add_mul, Nat.mul_assoc]; omega]; rfl
  rw [e1, e2]
  have e := (Eqm.emod (P := P) (fvN D l fs i j k)).add (Eqm.emod (P := P) (sumN D fun c => at2 D fs j c * tb D l i k c))
  exact ⟨fun h => e.symm.trans h, fun h => e.trans h⟩
theorem brN_fst2 (x y : Nat → Int) (q : Nat) : brN D l x y q = sumN D fun c => x c * sumN D fun d => y d * tb D l c d q := by
  refine sumN_congr fun c _ => ?_
  rw [← sumN_mul]
  exact sumN_congr fun d _ => Int.mul_assoc _ _ _
theorem brN_bas1 (y : Nat → Int) {a : Nat} (ha : a < D) (q : Nat) : brN D l (gi (basL D a)) y q = sumN D fun d => y d * tb D l a d q := by
  rw [brN_fst2, sumN_one (k := a) _ ha (fun c hc hne => by rw [gi_basL ha, if_neg hne, Int.zero_mul]), gi_basL ha, if_pos rfl, Int.one_mul]
theorem derS_iff (hp : 2 ≤ P) (i j : Nat) (hi : i < D) (hj : j < D) : imTo P D (rowT D l i j) fs D = plusL P D (brL P D l (rowL D fs i) (basL D j)) (brL P D l (basL D i) (rowL D fs j)) ↔ DerS1 P D l fs i j := by
  have h1 : ∀ q, q < D → gi (imTo P D (rowT D l i j) fs D) q = fvN D l fs i j q % P := fun q hq => by
    rw [gi_imTo hp D hq]
    congr 1
    exact sumN_congr fun c hc => by rw [gi_rowT hc]; rfl
  have h2 : ∀ q, q < D → Eqm P (gi (plusL P D (brL P D l (rowL D fs i) (basL D j)) (brL P D l (basL D i) (rowL D fs j))) q) (mvN D l fs i j q + mwN D l fs i j q) ∧ gi (plusL P D (brL P D l (rowL D fs i) (basL D j)) (brL P D l (basL D i) (rowL D fs j))) q % P = gi (plusL P D (brL P D l (rowL D fs i) (basL D j)) (brL P D l (basL D i) (rowL D fs j))) q := fun q hq => by
    rw [gi_plusL hq, gi_brL _ _ hq, gi_brL _ _ hq, brN_bas _ hj, brN_bas1 _ hi]
    refine ⟨(Eqm.emod _).trans (((Eqm.emod _).trans (Eqm.of_eq ?_)).add ((Eqm.emod _).trans (Eqm.of_eq ?_))), Int.emod_emod _ _⟩
    · exact sumN_congr fun c hc => by rw [gi_rowL2 _ _ hc]; rfl
    · exact sumN_congr fun c hc => by rw [gi_rowL2 _ _ hc]; rfl
  constructor
  · intro h q hq
    have h3 := (h2 q hq).1
    rw [← h, h1 q hq] at h3
    exact (Eqm.emod _).symm.trans h3
  · intro h
    refine ext_gi (by rw [imTo_length]; simp [plusL]) (fun q hq => ?_)
    rw [imTo_length] at hq
    rw [h1 q hq, ← (h2 q hq).2]
    exact ((h q hq).trans (h2 q hq).1.symm).to_emod
end

theorem brL_res9 {P : Int} {D : Nat} {l xs ys : List Int} (hp : 0 < P) : Res (brL P D l xs ys) P := fun q hq => by
  rw [brL_len] at hq
  rw [gi_brL _ _ hq]
  exact ⟨Int.emod_nonneg _ (by omega), Int.emod_lt_of_pos _ hp⟩
end Go.Proofs.Ytapaopapgnfdkaa
