/-
  No cell of these rows narrows 'for every input' (looked for: loops, veiled, ifaces, maps, wideKeys, modest, calm, conditions, laid).
  DERIVED. THE GIVEN ROWS OF THIS SEAT. 9 by the template 'for every input the law returns true; each argument reads behind the call as it read before'; 0 by the template 'total and deterministic' (their statements: YtnikfalpjieibaaTotals.lean).
  GIVEN WITH THE SEED: the statements are not yours to turn. If you find one false, say at which input.
  Laid BY PROGRAM, IN A SANDBOX (cutbox-rows.mjs): the forced cells as the released guide's own fill.sh prints them over the translation 40bfba92c4715d91… (all of the seat's roots in one cut). By AI agents, Wed Nov 11 2026. No macro, syntax, notation, axiom, sorry.
-/
import Derived.Test.YtnikfalpjieibaaChecked
import GoSem.Claim
import GoSem.ClaimJoined
import GoSem.ClaimMapViews
import Derived.JoinedTies
import Derived.KernelRfl
namespace Go.Proofs.Ytnikfalpjieibaa
/- THE CELL 'sum', in the pinned program and in every row, IS THE sha256 OF THE DUMP (.gsa) THAT YtnikfalpjieibaaProg.lean LOADS. Nothing in Lean hashes anything: it is a label: what it is worth is what the hold of that sum in a sandbox is worth. -/
noncomputable def Try.pinned : Pinned := { name := "ytnikfalpjieibaa", sum := "40bfba92c4715d911d0035297ff19525e3f20762d153b67bcfe4b3096324d4c0", checked := Try.checked }
namespace Rows
def none {H : Type} : Left H := { results := [], args := [] }

/-- 'laws.FnExactIsModule': WHATEVER THE INPUT: true; the input reads as it did. -/
def fnExactIsModuleSpec : ChangeSpec := { name := "fnExactIsModule", fn := fun _ => fun
  | [d1, d2] => { results := [.lit (.bool true)], args := [d1, d2] }
  | _ => none }
def fnExactIsModuleRow : OpenClaim := { program := "ytnikfalpjieibaa", sum := "40bfba92c4715d911d0035297ff19525e3f20762d153b67bcfe4b3096324d4c0", func := "loop.example/g03109/laws.FnExactIsModule", spec := "fnExactIsModule", unfollowed := true, recurses := true, apart := false }
def FnExactIsModuleSaid : Prop := fnExactIsModuleRow.holds Try.pinned (OpenSpec.ofChange fnExactIsModuleSpec)

/-- ITS FALSE NEIGHBOUR: 'it returns false'. Refute it at one input. -/
def fnExactIsModuleWrong : ChangeSpec := { name := "fnExactIsModule", fn := fun _ => fun
  | [d1, d2] => { results := [.lit (.bool false)], args := [d1, d2] }
  | _ => none }
def FnExactIsModuleWrongFalsely : Prop := fnExactIsModuleRow.holds Try.pinned (OpenSpec.ofChange fnExactIsModuleWrong)

/-- 'laws.FnExactMatrixOf': WHATEVER THE INPUT: true; the input reads as it did. -/
def fnExactMatrixOfSpec : ChangeSpec := { name := "fnExactMatrixOf", fn := fun _ => fun
  | [d1, d2, d3] => { results := [.lit (.bool true)], args := [d1, d2, d3] }
  | _ => none }
def fnExactMatrixOfRow : OpenClaim := { program := "ytnikfalpjieibaa", sum := "40bfba92c4715d911d0035297ff19525e3f20762d153b67bcfe4b3096324d4c0", func := "loop.example/g03109/laws.FnExactMatrixOf", spec := "fnExactMatrixOf", unfollowed := true, recurses := true, apart := false }
def FnExactMatrixOfSaid : Prop := fnExactMatrixOfRow.holds Try.pinned (OpenSpec.ofChange fnExactMatrixOfSpec)

/-- ITS FALSE NEIGHBOUR: 'it returns false'. Refute it at one input. -/
def fnExactMatrixOfWrong : ChangeSpec := { name := "fnExactMatrixOf", fn := fun _ => fun
  | [d1, d2, d3] => { results := [.lit (.bool false)], args := [d1, d2, d3] }
  | _ => none }
def FnExactMatrixOfWrongFalsely : Prop := fnExactMatrixOfRow.holds Try.pinned (OpenSpec.ofChange fnExactMatrixOfWrong)

/-- 'laws.FnExactAdjointModule': WHATEVER THE INPUT: true; the input reads as it did. -/
def fnExactAdjointModuleSpec : ChangeSpec := { name := "fnExactAdjointModule", fn := fun _ => fun
  | [d] => { results := [.lit (.bool true)], args := [d] }
  | _ => none }
def fnExactAdjointModuleRow : OpenClaim := { program := "ytnikfalpjieibaa", sum := "40bfba92c4715d911d0035297ff19525e3f20762d153b67bcfe4b3096324d4c0", func := "loop.example/g03109/laws.FnExactAdjointModule", spec := "fnExactAdjointModule", unfollowed := true, recurses := true, apart := false }
def FnExactAdjointModuleSaid : Prop := fnExactAdjointModuleRow.holds Try.pinned (OpenSpec.ofChange fnExactAdjointModuleSpec)

/-- ITS FALSE NEIGHBOUR: 'it returns false'. Refute it at one input. -/
def fnExactAdjointModuleWrong : ChangeSpec := { name := "fnExactAdjointModule", fn := fun _ => fun
  | [d] => { results := [.lit (.bool false)], args := [d] }
  | _ => none }
def FnExactAdjointModuleWrongFalsely : Prop := fnExactAdjointModuleRow.holds Try.pinned (OpenSpec.ofChange fnExactAdjointModuleWrong)

/-- 'laws.FnExactZeroModule': WHATEVER THE INPUT: true; the input reads as it did. -/
def fnExactZeroModuleSpec : ChangeSpec := { name := "fnExactZeroModule", fn := fun _ => fun
  | [d1, d2] => { results := [.lit (.bool true)], args := [d1, d2] }
  | _ => none }
def fnExactZeroModuleRow : OpenClaim := { program := "ytnikfalpjieibaa", sum := "40bfba92c4715d911d0035297ff19525e3f20762d153b67bcfe4b3096324d4c0", func := "loop.example/g03109/laws.FnExactZeroModule", spec := "fnExactZeroModule", unfollowed := true, recurses := true, apart := false }
def FnExactZeroModuleSaid : Prop := fnExactZeroModuleRow.holds Try.pinned (OpenSpec.ofChange fnExactZeroModuleSpec)

/-- ITS FALSE NEIGHBOUR: 'it returns false'. Refute it at one input. -/
def fnExactZeroModuleWrong : ChangeSpec := { name := "fnExactZeroModule", fn := fun _ => fun
  | [d1, d2] => { results := [.lit (.bool false)], args := [d1, d2] }
  | _ => none }
def FnExactZeroModuleWrongFalsely : Prop := fnExactZeroModuleRow.holds Try.pinned (OpenSpec.ofChange fnExactZeroModuleWrong)

/-- 'laws.FnExactDualModule': WHATEVER THE INPUT: true; the input reads as it did. -/
def fnExactDualModuleSpec : ChangeSpec := { name := "fnExactDualModule", fn := fun _ => fun
  | [d1, d2] => { results := [.lit (.bool true)], args := [d1, d2] }
  | _ => none }
def fnExactDualModuleRow : OpenClaim := { program := "ytnikfalpjieibaa", sum := "40bfba92c4715d911d0035297ff19525e3f20762d153b67bcfe4b3096324d4c0", func := "loop.example/g03109/laws.FnExactDualModule", spec := "fnExactDualModule", unfollowed := true, recurses := true, apart := false }
def FnExactDualModuleSaid : Prop := fnExactDualModuleRow.holds Try.pinned (OpenSpec.ofChange fnExactDualModuleSpec)

/-- ITS FALSE NEIGHBOUR: 'it returns false'. Refute it at one input. -/
def fnExactDualModuleWrong : ChangeSpec := { name := "fnExactDualModule", fn := fun _ => fun
  | [d1, d2] => { results := [.lit (.bool false)], args := [d1, d2] }
  | _ => none }
def FnExactDualModuleWrongFalsely : Prop := fnExactDualModuleRow.holds Try.pinned (OpenSpec.ofChange fnExactDualModuleWrong)

/-- 'laws.FnExactSumModules': WHATEVER THE INPUT: true; the input reads as it did. -/
def fnExactSumModulesSpec : ChangeSpec := { name := "fnExactSumModules", fn := fun _ => fun
  | [d1, d2, d3] => { results := [.lit (.bool true)], args := [d1, d2, d3] }
  | _ => none }
def fnExactSumModulesRow : OpenClaim := { program := "ytnikfalpjieibaa", sum := "40bfba92c4715d911d0035297ff19525e3f20762d153b67bcfe4b3096324d4c0", func := "loop.example/g03109/laws.FnExactSumModules", spec := "fnExactSumModules", unfollowed := true, recurses := true, apart := false }
def FnExactSumModulesSaid : Prop := fnExactSumModulesRow.holds Try.pinned (OpenSpec.ofChange fnExactSumModulesSpec)

/-- ITS FALSE NEIGHBOUR: 'it returns false'. Refute it at one input. -/
def fnExactSumModulesWrong : ChangeSpec := { name := "fnExactSumModules", fn := fun _ => fun
  | [d1, d2, d3] => { results := [.lit (.bool false)], args := [d1, d2, d3] }
  | _ => none }
def FnExactSumModulesWrongFalsely : Prop := fnExactSumModulesRow.holds Try.pinned (OpenSpec.ofChange fnExactSumModulesWrong)

/-- 'laws.FnExactTensorModules': WHATEVER THE INPUT: true; the input reads as it did. -/
def fnExactTensorModulesSpec : ChangeSpec := { name := "fnExactTensorModules", fn := fun _ => fun
  | [d1, d2, d3] => { results := [.lit (.bool true)], args := [d1, d2, d3] }
  | _ => none }
def fnExactTensorModulesRow : OpenClaim := { program := "ytnikfalpjieibaa", sum := "40bfba92c4715d911d0035297ff19525e3f20762d153b67bcfe4b3096324d4c0", func := "loop.example/g03109/laws.FnExactTensorModules", spec := "fnExactTensorModules", unfollowed := true, recurses := true, apart := false }
def FnExactTensorModulesSaid : Prop := fnExactTensorModulesRow.holds Try.pinned (OpenSpec.ofChange fnExactTensorModulesSpec)

/-- ITS FALSE NEIGHBOUR: 'it returns false'. Refute it at one input. -/
def fnExactTensorModulesWrong : ChangeSpec := { name := "fnExactTensorModules", fn := fun _ => fun
  | [d1, d2, d3] => { results := [.lit (.bool false)], args := [d1, d2, d3] }
  | _ => none }
def FnExactTensorModulesWrongFalsely : Prop := fnExactTensorModulesRow.holds Try.pinned (OpenSpec.ofChange fnExactTensorModulesWrong)

/-- 'laws.FnExactSubmoduleBy': WHATEVER THE INPUT: true; the input reads as it did. -/
def fnExactSubmoduleBySpec : ChangeSpec := { name := "fnExactSubmoduleBy", fn := fun _ => fun
  | [d1, d2, d3] => { results := [.lit (.bool true)], args := [d1, d2, d3] }
  | _ => none }
def fnExactSubmoduleByRow : OpenClaim := { program := "ytnikfalpjieibaa", sum := "40bfba92c4715d911d0035297ff19525e3f20762d153b67bcfe4b3096324d4c0", func := "loop.example/g03109/laws.FnExactSubmoduleBy", spec := "fnExactSubmoduleBy", unfollowed := true, recurses := true, apart := false }
def FnExactSubmoduleBySaid : Prop := fnExactSubmoduleByRow.holds Try.pinned (OpenSpec.ofChange fnExactSubmoduleBySpec)

/-- ITS FALSE NEIGHBOUR: 'it returns false'. Refute it at one input. -/
def fnExactSubmoduleByWrong : ChangeSpec := { name := "fnExactSubmoduleBy", fn := fun _ => fun
  | [d1, d2, d3] => { results := [.lit (.bool false)], args := [d1, d2, d3] }
  | _ => none }
def FnExactSubmoduleByWrongFalsely : Prop := fnExactSubmoduleByRow.holds Try.pinned (OpenSpec.ofChange fnExactSubmoduleByWrong)

/-- 'laws.FnExactIsSubmodule': WHATEVER THE INPUT: true; the input reads as it did. -/
def fnExactIsSubmoduleSpec : ChangeSpec := { name := "fnExactIsSubmodule", fn := fun _ => fun
  | [d1, d2, d3] => { results := [.lit (.bool true)], args := [d1, d2, d3] }
  | _ => none }
def fnExactIsSubmoduleRow : OpenClaim := { program := "ytnikfalpjieibaa", sum := "40bfba92c4715d911d0035297ff19525e3f20762d153b67bcfe4b3096324d4c0", func := "loop.example/g03109/laws.FnExactIsSubmodule", spec := "fnExactIsSubmodule", unfollowed := true, recurses := true, apart := false }
def FnExactIsSubmoduleSaid : Prop := fnExactIsSubmoduleRow.holds Try.pinned (OpenSpec.ofChange fnExactIsSubmoduleSpec)

/-- ITS FALSE NEIGHBOUR: 'it returns false'. Refute it at one input. -/
def fnExactIsSubmoduleWrong : ChangeSpec := { name := "fnExactIsSubmodule", fn := fun _ => fun
  | [d1, d2, d3] => { results := [.lit (.bool false)], args := [d1, d2, d3] }
  | _ => none }
def FnExactIsSubmoduleWrongFalsely : Prop := fnExactIsSubmoduleRow.holds Try.pinned (OpenSpec.ofChange fnExactIsSubmoduleWrong)

/- THE SECOND FORM. 'bulk': how many values and letters a reading holds, each counted each time it is reached (what is shared counts as often as it is met; a slice's spare places count too). A statement '..UptoSaid' is the law's where the arguments, and the package variables that the reading takes, are together of bulk at most 1048576: NARROWER than '..Said'. Prove '..Said' where nothing that the law and all that it calls make is longer than what came in: it says more and counts as full. Else prove '..UptoSaid'. A law counts once. -/
mutual
def uptoBulk {H : Type} : DataW H → Nat
  | .lit (.string bytes) => bytes.length + 1
  | .lit _ => 1
  | .nil => 1
  | .ptr d => uptoBulk d + 1
  | .slice elems spare => uptoBulkAll elems + uptoBulkAll spare + 1
  | .agg parts => uptoBulkAll parts + 1
  | .iface _ d => uptoBulk d + 1
  | .map entries => uptoBulkEntries entries + 1
  | .held _ => 1
def uptoBulkAll {H : Type} : List (DataW H) → Nat
  | [] => 0
  | d :: r => uptoBulk d + uptoBulkAll r
def uptoBulkEntries {H : Type} : List (Lit × DataW H) → Nat
  | [] => 0
  | x :: r => uptoBulkEntry x + uptoBulkEntries r
def uptoBulkEntry {H : Type} : Lit × DataW H → Nat
  | (.string bytes, d) => bytes.length + uptoBulk d + 1
  | (_, d) => uptoBulk d + 1
 end
def uptoSmall : (H : Type) → List (DataW H) → Bool := fun _ ds => decide (uptoBulkAll ds ≤ 1048576)
def OpenSpec.upto (s : _root_.Go.ChangeSpec) : _root_.Go.OpenSpec := { _root_.Go.OpenSpec.ofChange s with cond := some uptoSmall }

/-- 'laws.FnExactIsModule', WHERE WHAT IT READS IS OF BULK AT MOST 1048576: true; the input reads as it did. -/
def fnExactIsModuleUptoRow : OpenClaim := { program := "ytnikfalpjieibaa", sum := "40bfba92c4715d911d0035297ff19525e3f20762d153b67bcfe4b3096324d4c0", func := "loop.example/g03109/laws.FnExactIsModule", spec := "fnExactIsModule", unfollowed := true, recurses := true, apart := false, narrowed := true }
def FnExactIsModuleUptoSaid : Prop := fnExactIsModuleUptoRow.holds Try.pinned (OpenSpec.upto fnExactIsModuleSpec)

/-- 'laws.FnExactMatrixOf', WHERE WHAT IT READS IS OF BULK AT MOST 1048576: true; the input reads as it did. -/
def fnExactMatrixOfUptoRow : OpenClaim := { program := "ytnikfalpjieibaa", sum := "40bfba92c4715d911d0035297ff19525e3f20762d153b67bcfe4b3096324d4c0", func := "loop.example/g03109/laws.FnExactMatrixOf", spec := "fnExactMatrixOf", unfollowed := true, recurses := true, apart := false, narrowed := true }
def FnExactMatrixOfUptoSaid : Prop := fnExactMatrixOfUptoRow.holds Try.pinned (OpenSpec.upto fnExactMatrixOfSpec)

/-- 'laws.FnExactAdjointModule', WHERE WHAT IT READS IS OF BULK AT MOST 1048576: true; the input reads as it did. -/
def fnExactAdjointModuleUptoRow : OpenClaim := { program := "ytnikfalpjieibaa", sum := "40bfba92c4715d911d0035297ff19525e3f20762d153b67bcfe4b3096324d4c0", func := "loop.example/g03109/laws.FnExactAdjointModule", spec := "fnExactAdjointModule", unfollowed := true, recurses := true, apart := false, narrowed := true }
def FnExactAdjointModuleUptoSaid : Prop := fnExactAdjointModuleUptoRow.holds Try.pinned (OpenSpec.upto fnExactAdjointModuleSpec)

/-- 'laws.FnExactZeroModule', WHERE WHAT IT READS IS OF BULK AT MOST 1048576: true; the input reads as it did. -/
def fnExactZeroModuleUptoRow : OpenClaim := { program := "ytnikfalpjieibaa", sum := "40bfba92c4715d911d0035297ff19525e3f20762d153b67bcfe4b3096324d4c0", func := "loop.example/g03109/laws.FnExactZeroModule", spec := "fnExactZeroModule", unfollowed := true, recurses := true, apart := false, narrowed := true }
def FnExactZeroModuleUptoSaid : Prop := fnExactZeroModuleUptoRow.holds Try.pinned (OpenSpec.upto fnExactZeroModuleSpec)

/-- 'laws.FnExactDualModule', WHERE WHAT IT READS IS OF BULK AT MOST 1048576: true; the input reads as it did. -/
def fnExactDualModuleUptoRow : OpenClaim := { program := "ytnikfalpjieibaa", sum := "40bfba92c4715d911d0035297ff19525e3f20762d153b67bcfe4b3096324d4c0", func := "loop.example/g03109/laws.FnExactDualModule", spec := "fnExactDualModule", unfollowed := true, recurses := true, apart := false, narrowed := true }
def FnExactDualModuleUptoSaid : Prop := fnExactDualModuleUptoRow.holds Try.pinned (OpenSpec.upto fnExactDualModuleSpec)

/-- 'laws.FnExactSumModules', WHERE WHAT IT READS IS OF BULK AT MOST 1048576: true; the input reads as it did. -/
def fnExactSumModulesUptoRow : OpenClaim := { program := "ytnikfalpjieibaa", sum := "40bfba92c4715d911d0035297ff19525e3f20762d153b67bcfe4b3096324d4c0", func := "loop.example/g03109/laws.FnExactSumModules", spec := "fnExactSumModules", unfollowed := true, recurses := true, apart := false, narrowed := true }
def FnExactSumModulesUptoSaid : Prop := fnExactSumModulesUptoRow.holds Try.pinned (OpenSpec.upto fnExactSumModulesSpec)

/-- 'laws.FnExactTensorModules', WHERE WHAT IT READS IS OF BULK AT MOST 1048576: true; the input reads as it did. -/
def fnExactTensorModulesUptoRow : OpenClaim := { program := "ytnikfalpjieibaa", sum := "40bfba92c4715d911d0035297ff19525e3f20762d153b67bcfe4b3096324d4c0", func := "loop.example/g03109/laws.FnExactTensorModules", spec := "fnExactTensorModules", unfollowed := true, recurses := true, apart := false, narrowed := true }
def FnExactTensorModulesUptoSaid : Prop := fnExactTensorModulesUptoRow.holds Try.pinned (OpenSpec.upto fnExactTensorModulesSpec)

/-- 'laws.FnExactSubmoduleBy', WHERE WHAT IT READS IS OF BULK AT MOST 1048576: true; the input reads as it did. -/
def fnExactSubmoduleByUptoRow : OpenClaim := { program := "ytnikfalpjieibaa", sum := "40bfba92c4715d911d0035297ff19525e3f20762d153b67bcfe4b3096324d4c0", func := "loop.example/g03109/laws.FnExactSubmoduleBy", spec := "fnExactSubmoduleBy", unfollowed := true, recurses := true, apart := false, narrowed := true }
def FnExactSubmoduleByUptoSaid : Prop := fnExactSubmoduleByUptoRow.holds Try.pinned (OpenSpec.upto fnExactSubmoduleBySpec)

/-- 'laws.FnExactIsSubmodule', WHERE WHAT IT READS IS OF BULK AT MOST 1048576: true; the input reads as it did. -/
def fnExactIsSubmoduleUptoRow : OpenClaim := { program := "ytnikfalpjieibaa", sum := "40bfba92c4715d911d0035297ff19525e3f20762d153b67bcfe4b3096324d4c0", func := "loop.example/g03109/laws.FnExactIsSubmodule", spec := "fnExactIsSubmodule", unfollowed := true, recurses := true, apart := false, narrowed := true }
def FnExactIsSubmoduleUptoSaid : Prop := fnExactIsSubmoduleUptoRow.holds Try.pinned (OpenSpec.upto fnExactIsSubmoduleSpec)

end Rows
end Go.Proofs.Ytnikfalpjieibaa
