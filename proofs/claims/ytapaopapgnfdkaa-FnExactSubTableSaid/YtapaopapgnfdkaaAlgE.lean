/-
  Algebras that are equal, and abelian ones: both texts.
-/
import Derived.Test.YtapaopapgnfdkaaAlgOk2
import Derived.Test.YtapaopapgnfdkaaFr
import Derived.Test.YtapaopapgnfdkaaCs
namespace Go.Proofs.Ytapaopapgnfdkaa
open Go.ChangeShapes Go.WideShapes Go.ChangeAt Go.RowKit
set_option linter.unusedVariables false

noncomputable def eqA (P D : Int) (xs : List Int) (P' D' : Int) (xs' : List Int) : Bool := algB P D xs && (algB P' D' xs' && ((P == P') && ((D == D') && sameB xs xs')))

/-- An algebra as numbers. -/
structure Alg where
  p : Int
  d : Int
  t : List Int
def noAlg : Alg := ⟨0, 0, []⟩
noncomputable def abelA (P D : Int) : Alg := if dimB P D then ⟨P, D, List.replicate (D * D * D).toNat 0⟩ else noAlg
theorem cubeI {D : Int} (h : inB D 0 28 = true) : IntKind.i64.wrap (D * D) = D * D ∧ IntKind.i64.wrap (D * D * D) = D * D * D ∧ 0 ≤ D * D * D ∧ D * D * D ≤ 1048576 := by
  obtain ⟨h0, h1⟩ := inB_iff.1 h
  obtain ⟨D, rfl⟩ := Int.eq_ofNat_of_zero_le h0
  have hD : D ≤ 28 := by omega
  have h28 := cube28 hD
  have h27 : D * D ≤ 784 := Nat.mul_le_mul hD hD
  have e1 : (D : Int) * (D : Int) = ((D * D : Nat) : Int) := by simp
  have e2 : (D : Int) * (D : Int) * (D : Int) = ((D * D * D : Nat) : Int) := by simp
  refine ⟨IntWalk.i64_in _ ⟨by rw [e1]; omega, by rw [e1]; omega⟩, IntWalk.i64_in _ ⟨by rw [e2]; omega, by rw [e2]; omega⟩, by rw [e2]; omega, by rw [e2]; omega⟩

set_option maxHeartbeats 400000 in
theorem newLie_impl (P D : Int) (w : World) (h : inB D 0 28 = true) :
    Calls Try.prog 125 #[.int .i64 P, .int .i64 D] w fun e w' => ∃ B b, e = .returned (.pointer (some ⟨B, 0, none⟩)) ∧ Cells w' B [.int .i64 P, .int .i64 D, .slice (some ⟨b, 0, none⟩) (D * D * D).toNat (D * D * D).toNat] ∧ w.heap.size ≤ b ∧ b < w'.heap.size ∧ Has w' b (List.replicate (D * D * D).toNat 0) ∧ Ext w w' := by
  obtain ⟨v1, v2, g0, g1⟩ := cubeI h
  have hmk := make_intsz (D * D * D) g0 g1
  clear h g0 g1
  go_enter Try.func125, Try.ntmps125
  go_wp2
  go_ret
  exact ⟨w.heap.size + 1, w.heap.size, rfl, cells_new' _ _ _ _ (by simp), Nat.le_refl _, by simp; omega, (Has.new w _).ext ((Ext.refl _).alloc _), ((Ext.refl _).alloc _).alloc _⟩

set_option maxRecDepth 100000 in
set_option maxHeartbeats 1600000 in
theorem abelianAlgebra_spec {P D p d : Int} {xs : List Int} {w : World} (hM : abelA P D = ⟨p, d, xs⟩) :
    Calls Try.prog 150 #[.int .i64 P, .int .i64 D] w fun e w' => ∃ v, e = .returned v ∧ Ralg w w' v p d xs ∧ Ext w w' := by
  rcases hp : isP P with _ | _
  · simp only [abelA, dimB, hp, Bool.false_and, noAlg, Bool.false_eq_true, if_false, Alg.mk.injEq] at hM
    obtain ⟨rfl, rfl, rfl⟩ := hM
    go_enter Try.func150, Try.ntmps150
    go_wp2_with fail
    refine (isPrime_spec _ _).mono ?_
    rintro e w' ⟨rfl, rfl⟩
    rw [hp]
    go_wp2
    refine bodyPost_ret (v := .agg #[.int .i64 0, .int .i64 0, .slice none 0 0]) (by simp [results, Try.results150, go_sem]) rfl ⟨_, rfl, ⟨_, _, _, rfl, own_nil _ _ _, by omega⟩, (Ext.refl _).alloc _⟩
  rcases hq : inB D 0 28 with _ | _
  · simp only [abelA, dimB, hp, hq, Bool.and_false, noAlg, Bool.false_eq_true, if_false, Alg.mk.injEq] at hM
    obtain ⟨rfl, rfl, rfl⟩ := hM
    go_enter Try.func150, Try.ntmps150
    go_wp2_with fail
    refine (isPrime_spec _ _).mono ?_
    rintro e w' ⟨rfl, rfl⟩
    rw [hp]
    go_wp2_with fail
    refine (l1In_spec _ _ _ _).mono ?_
    rintro e w' ⟨rfl, rfl⟩
    rw [hq]
    go_wp2
    refine bodyPost_ret (v := .agg #[.int .i64 0, .int .i64 0, .slice none 0 0]) (by simp [results, Try.results150, go_sem]) rfl ⟨_, rfl, ⟨_, _, _, rfl, own_nil _ _ _, by omega⟩, (Ext.refl _).alloc _⟩
  simp only [abelA, dimB, hp, hq, Bool.and_self, if_true, Alg.mk.injEq] at hM
  obtain ⟨rfl, rfl, rfl⟩ := hM
  obtain ⟨v1, v2, g0, g1⟩ := cubeI hq
  have hmk := make_intsz (D * D * D) g0 g1
  have HG : Hid ((D * D * D).toNat ≤ 1048576) := by show (D * D * D).toNat ≤ 1048576; omega
  clear g0 g1
  go_enter Try.func150, Try.ntmps150
  go_wp2_with fail
  refine (isPrime_spec _ _).mono ?_
  rintro e w' ⟨rfl, rfl⟩
  rw [hp]
  go_wp2_with fail
  refine (l1In_spec _ _ _ _).mono ?_
  rintro e w' ⟨rfl, rfl⟩
  rw [hq]
  go_wp2
  refine bodyPost_ret (v := .agg #[.int .i64 P, .int .i64 D, .slice (some ⟨w.heap.size + 1, 0, none⟩) (D * D * D).toNat (D * D * D).toNat]) (by simp [results, Try.results150, go_sem]) rfl ⟨_, rfl, ⟨_, _, _, rfl, ?_, HG.out⟩, ?_⟩
  · exact (Has.new' _ _ _ (by simp)).own (by omega) (by simp) (by simp)
  · exact ((Ext.refl _).alloc _).alloc _

end Go.Proofs.Ytapaopapgnfdkaa
