/-
  The number of bits of a small number, as math/bits counts them.
-/
import Derived.Test.YtapaopapgnfdkaaFr
namespace Go.Proofs.Ytapaopapgnfdkaa
open Go.ChangeShapes Go.WideShapes Go.ChangeAt Go.RowKit
set_option linter.unusedVariables false
set_option linter.unusedSimpArgs false

/-- The number of ones among the last f binary digits. -/
def popN : Nat → Nat → Nat
  | 0, _ => 0
  | f + 1, x => x % 2 + popN f (x / 2)

set_option maxRecDepth 100000 in
set_option maxHeartbeats 1600000 in
theorem onesCount64_impl (n : Nat) (w : World) (h1 : n < 128) :
    Calls Try.prog 236 #[.int .u64 n] w fun e w' => e = .returned (.int .i64 (popN 7 n : Nat)) ∧ Ext w w' := by
  go_enter Try.func236, Try.ntmps236
  go_wp2
  go_ret
  refine ⟨congrArg (fun r => Ending.returned (Value.int .i64 r)) ?_, Ext.refl _⟩
  clear w
  obtain ⟨m, rfl⟩ : ∃ m : Fin 128, n = m.val := ⟨⟨n, h1⟩, rfl⟩
  clear h1
  revert m
  decide +kernel

set_option maxHeartbeats 1600000 in
theorem onesCount_impl (n : Nat) (w : World) (h1 : n < 128) :
    Calls Try.prog 233 #[.int .u64 n] w fun e w' => e = .returned (.int .i64 (popN 7 n : Nat)) ∧ Ext w w' := by
  go_enter Try.func233, Try.ntmps233
  go_wp2_with fail
  refine (onesCount64_impl n _ h1).mono ?_
  rintro e w1 ⟨rfl, h⟩
  go_wp2
  go_ret
  exact ⟨rfl, h⟩

set_option maxHeartbeats 1600000 in
theorem signOf_impl (n : Nat) (w : World) (h1 : n < 128) :
    Calls Try.prog 232 #[.int .i64 n] w fun e w' => e = .returned (.int .i64 (1 - 2 * (n % 2 : Nat))) ∧ Ext w w' := by
  have e1 : (n : Int).tmod 2 = ((n % 2 : Nat) : Int) := by rw [Int.tmod_eq_emod_of_nonneg (by omega)]; simp
  have v1 : IntKind.i64.wrap (2 * ((n % 2 : Nat) : Int)) = 2 * ((n % 2 : Nat) : Int) := IntWalk.i64_in _ ⟨by omega, by omega⟩
  have v2 : IntKind.i64.wrap (1 - 2 * ((n % 2 : Nat) : Int)) = 1 - 2 * ((n % 2 : Nat) : Int) := IntWalk.i64_in _ ⟨by omega, by omega⟩
  generalize ((n % 2 : Nat) : Int) = m at *
  go_enter Try.func232, Try.ntmps232
  go_wp2
  go_ret
  exact ⟨rfl, Ext.refl _⟩
end Go.Proofs.Ytapaopapgnfdkaa
