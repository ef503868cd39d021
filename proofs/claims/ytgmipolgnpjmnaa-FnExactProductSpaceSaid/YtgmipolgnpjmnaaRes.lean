/-
  Residue and InverseOf of both texts, out of the walks of Num.
-/
import Derived.Test.YtgmipolgnpjmnaaNum
namespace Go.Proofs.Ytgmipolgnpjmnaa
open Go.RowKit
set_option linter.unusedVariables false
/-- What Residue comes to. -/
noncomputable def resM (n p : Int) : Int := if isP p then n % p else 0
noncomputable def invM (n p : Int) : Int := if isP p then inv (n % p) p else 0

set_option maxHeartbeats 400000 in
theorem inverseOf_spec (n p : Int) (w : World) : Calls Try.prog 79 #[.int .i64 n, .int .i64 p] w fun e w' => e = .returned (.int .i64 (invM n p)) ∧ w = w' := by
  rcases hp : isP p with _ | _
  · have HM : Hid (invM n p = 0) := by simp [Hid, invM, hp]
    go_enter Try.func79, Try.ntmps79
    go_wp2_with fail
    refine (isPrime_spec _ _).mono ?_
    rintro e w' ⟨rfl, rfl⟩
    go_wp2
    go_ret
    exact ⟨ret_int HM.out.symm, rfl⟩
  · have HM : Hid (invM n p = inv (n % p) p) := by simp [Hid, invM, hp]
    have h1 := isP_lo hp
    have h2 := isP_hi hp
    have g1 := Int.emod_nonneg n (show p ≠ 0 by omega)
    have g2 := Int.emod_lt_of_pos n (show 0 < p by omega)
    by_cases h0 : n % p = 0
    · have HI : Hid (inv (n % p) p = 0) := by simp [Hid, inv, h0]
      have hb : (n % p == 0) = true := by simpa using h0
      clear h0
      go_enter Try.func79, Try.ntmps79
      go_wp2_with fail
      refine (isPrime_spec _ _).mono ?_
      rintro e w' ⟨rfl, rfl⟩
      go_wp2_with fail
      refine (l1Mod_spec _ _ _ h1 h2).mono ?_
      rintro e w' ⟨rfl, rfl⟩
      go_wp2
      go_ret
      exact ⟨ret_int (HM.out.trans HI.out).symm, rfl⟩
    · have hb : (n % p == 0) = false := by simpa using h0
      by_cases hp2 : p = 2
      · subst hp2
        have HI : Hid (inv (n % 2) 2 = 1) := by
          rw [Hid, inv, if_neg h0]; simp [powm]
        clear h0
        go_enter Try.func79, Try.ntmps79
        go_wp2_with fail
        refine (isPrime_spec _ _).mono ?_
        rintro e w' ⟨rfl, rfl⟩
        go_wp2_with fail
        refine (l1Mod_spec _ _ _ h1 h2).mono ?_
        rintro e w' ⟨rfl, rfl⟩
        go_wp2
        go_ret
        exact ⟨ret_int (HM.out.trans HI.out).symm, rfl⟩
      · have HI : Hid (inv (n % p) p = powm (n % p) (p - 2) p) := by rw [Hid, inv, if_neg h0]
        have hb2 : (p == 2) = false := by simpa using hp2
        clear h0 hp2
        go_enter Try.func79, Try.ntmps79
        go_wp2_with fail
        refine (isPrime_spec _ _).mono ?_
        rintro e w' ⟨rfl, rfl⟩
        go_wp2_with fail
        refine (l1Mod_spec _ _ _ h1 h2).mono ?_
        rintro e w' ⟨rfl, rfl⟩
        go_wp2_with fail
        refine (l1Mod_spec _ _ _ h1 h2).mono ?_
        rintro e w' ⟨rfl, rfl⟩
        go_wp2_with fail
        refine (l1Inverse_spec _ _ _ h1 h2 g1 g2).mono ?_
        rintro e w' ⟨rfl, rfl⟩
        go_wp2
        go_ret
        exact ⟨ret_int (HM.out.trans HI.out).symm, rfl⟩
end Go.Proofs.Ytgmipolgnpjmnaa
