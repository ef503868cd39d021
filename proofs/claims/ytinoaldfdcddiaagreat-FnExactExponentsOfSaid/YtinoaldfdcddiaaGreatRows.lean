/-
  No cell of these rows narrows 'for every input' (looked for: loops, veiled, ifaces, maps, wideKeys, modest, calm, conditions, laid).
  DERIVED. THE GIVEN ROWS OF THIS SEAT. 8 by the template 'for every input the law returns true; each argument reads behind the call as it read before'; 0 by the template 'total and deterministic' (their statements: YtinoaldfdcddiaaGreatTotals.lean).
  GIVEN WITH THE SEED: the statements are not yours to turn. If you find one false, say at which input.
  Laid BY PROGRAM, IN A SANDBOX (cutbox-rows.mjs): the forced cells as the released guide's own fill.sh prints them over the translation cdc15c2a6d1b5f24… (all of the seat's roots in one cut). By AI agents, Wed Nov 11 2026. No macro, syntax, notation, axiom, sorry.
-/
import Derived.Test.YtinoaldfdcddiaaGreatChecked
import GoSem.Claim
import GoSem.ClaimJoined
import GoSem.ClaimMapViews
import Derived.JoinedTies
import Derived.KernelRfl
namespace Go.Proofs.YtinoaldfdcddiaaGreat
/- THE CELL 'sum', in the pinned program and in every row, IS THE sha256 OF THE DUMP (.gsa) THAT YtinoaldfdcddiaaGreatProg.lean LOADS. Nothing in Lean hashes anything: it is a label: what it is worth is what the hold of that sum in a sandbox is worth. -/
noncomputable def Tryz.pinned : Pinned := { name := "ytinoaldfdcddiaagreat", sum := "cdc15c2a6d1b5f242db754f75a0b2ea6a9299e748b9d1bb048eb2f7f31b4fe42", checked := Tryz.checked }
namespace Rows
def none {H : Type} : Left H := { results := [], args := [] }

/-- 'laws.FnExactPositiveRoots': WHATEVER THE INPUT: true; the input reads as it did. -/
def fnExactPositiveRootsSpec : ChangeSpec := { name := "fnExactPositiveRoots", fn := fun _ => fun
  | [d] => { results := [.lit (.bool true)], args := [d] }
  | _ => none }
def fnExactPositiveRootsRow : OpenClaim := { program := "ytinoaldfdcddiaagreat", sum := "cdc15c2a6d1b5f242db754f75a0b2ea6a9299e748b9d1bb048eb2f7f31b4fe42", func := "loop.example/g03109/laws.FnExactPositiveRoots", spec := "fnExactPositiveRoots", unfollowed := true, recurses := true, apart := false }
def FnExactPositiveRootsSaid : Prop := fnExactPositiveRootsRow.holds Tryz.pinned (OpenSpec.ofChange fnExactPositiveRootsSpec)

/-- ITS FALSE NEIGHBOUR: 'it returns false'. Refute it at one input. -/
def fnExactPositiveRootsWrong : ChangeSpec := { name := "fnExactPositiveRoots", fn := fun _ => fun
  | [d] => { results := [.lit (.bool false)], args := [d] }
  | _ => none }
def FnExactPositiveRootsWrongFalsely : Prop := fnExactPositiveRootsRow.holds Tryz.pinned (OpenSpec.ofChange fnExactPositiveRootsWrong)

/-- 'laws.FnExactIsRoot': WHATEVER THE INPUT: true; the input reads as it did. -/
def fnExactIsRootSpec : ChangeSpec := { name := "fnExactIsRoot", fn := fun _ => fun
  | [d1, d2] => { results := [.lit (.bool true)], args := [d1, d2] }
  | _ => none }
def fnExactIsRootRow : OpenClaim := { program := "ytinoaldfdcddiaagreat", sum := "cdc15c2a6d1b5f242db754f75a0b2ea6a9299e748b9d1bb048eb2f7f31b4fe42", func := "loop.example/g03109/laws.FnExactIsRoot", spec := "fnExactIsRoot", unfollowed := true, recurses := true, apart := false }
def FnExactIsRootSaid : Prop := fnExactIsRootRow.holds Tryz.pinned (OpenSpec.ofChange fnExactIsRootSpec)

/-- ITS FALSE NEIGHBOUR: 'it returns false'. Refute it at one input. -/
def fnExactIsRootWrong : ChangeSpec := { name := "fnExactIsRoot", fn := fun _ => fun
  | [d1, d2] => { results := [.lit (.bool false)], args := [d1, d2] }
  | _ => none }
def FnExactIsRootWrongFalsely : Prop := fnExactIsRootRow.holds Tryz.pinned (OpenSpec.ofChange fnExactIsRootWrong)

/-- 'laws.FnExactHighestRoot': WHATEVER THE INPUT: true; the input reads as it did. -/
def fnExactHighestRootSpec : ChangeSpec := { name := "fnExactHighestRoot", fn := fun _ => fun
  | [d] => { results := [.lit (.bool true)], args := [d] }
  | _ => none }
def fnExactHighestRootRow : OpenClaim := { program := "ytinoaldfdcddiaagreat", sum := "cdc15c2a6d1b5f242db754f75a0b2ea6a9299e748b9d1bb048eb2f7f31b4fe42", func := "loop.example/g03109/laws.FnExactHighestRoot", spec := "fnExactHighestRoot", unfollowed := true, recurses := true, apart := false }
def FnExactHighestRootSaid : Prop := fnExactHighestRootRow.holds Tryz.pinned (OpenSpec.ofChange fnExactHighestRootSpec)

/-- ITS FALSE NEIGHBOUR: 'it returns false'. Refute it at one input. -/
def fnExactHighestRootWrong : ChangeSpec := { name := "fnExactHighestRoot", fn := fun _ => fun
  | [d] => { results := [.lit (.bool false)], args := [d] }
  | _ => none }
def FnExactHighestRootWrongFalsely : Prop := fnExactHighestRootRow.holds Tryz.pinned (OpenSpec.ofChange fnExactHighestRootWrong)

/-- 'laws.FnExactPairOf': WHATEVER THE INPUT: true; the input reads as it did. -/
def fnExactPairOfSpec : ChangeSpec := { name := "fnExactPairOf", fn := fun _ => fun
  | [d1, d2, d3] => { results := [.lit (.bool true)], args := [d1, d2, d3] }
  | _ => none }
def fnExactPairOfRow : OpenClaim := { program := "ytinoaldfdcddiaagreat", sum := "cdc15c2a6d1b5f242db754f75a0b2ea6a9299e748b9d1bb048eb2f7f31b4fe42", func := "loop.example/g03109/laws.FnExactPairOf", spec := "fnExactPairOf", unfollowed := true, recurses := true, apart := false }
def FnExactPairOfSaid : Prop := fnExactPairOfRow.holds Tryz.pinned (OpenSpec.ofChange fnExactPairOfSpec)

/-- ITS FALSE NEIGHBOUR: 'it returns false'. Refute it at one input. -/
def fnExactPairOfWrong : ChangeSpec := { name := "fnExactPairOf", fn := fun _ => fun
  | [d1, d2, d3] => { results := [.lit (.bool false)], args := [d1, d2, d3] }
  | _ => none }
def FnExactPairOfWrongFalsely : Prop := fnExactPairOfRow.holds Tryz.pinned (OpenSpec.ofChange fnExactPairOfWrong)

/-- 'laws.FnExactCorootOf': WHATEVER THE INPUT: true; the input reads as it did. -/
def fnExactCorootOfSpec : ChangeSpec := { name := "fnExactCorootOf", fn := fun _ => fun
  | [d1, d2] => { results := [.lit (.bool true)], args := [d1, d2] }
  | _ => none }
def fnExactCorootOfRow : OpenClaim := { program := "ytinoaldfdcddiaagreat", sum := "cdc15c2a6d1b5f242db754f75a0b2ea6a9299e748b9d1bb048eb2f7f31b4fe42", func := "loop.example/g03109/laws.FnExactCorootOf", spec := "fnExactCorootOf", unfollowed := true, recurses := true, apart := false }
def FnExactCorootOfSaid : Prop := fnExactCorootOfRow.holds Tryz.pinned (OpenSpec.ofChange fnExactCorootOfSpec)

/-- ITS FALSE NEIGHBOUR: 'it returns false'. Refute it at one input. -/
def fnExactCorootOfWrong : ChangeSpec := { name := "fnExactCorootOf", fn := fun _ => fun
  | [d1, d2] => { results := [.lit (.bool false)], args := [d1, d2] }
  | _ => none }
def FnExactCorootOfWrongFalsely : Prop := fnExactCorootOfRow.holds Tryz.pinned (OpenSpec.ofChange fnExactCorootOfWrong)

/-- 'laws.FnExactReflectBy': WHATEVER THE INPUT: true; the input reads as it did. -/
def fnExactReflectBySpec : ChangeSpec := { name := "fnExactReflectBy", fn := fun _ => fun
  | [d1, d2, d3] => { results := [.lit (.bool true)], args := [d1, d2, d3] }
  | _ => none }
def fnExactReflectByRow : OpenClaim := { program := "ytinoaldfdcddiaagreat", sum := "cdc15c2a6d1b5f242db754f75a0b2ea6a9299e748b9d1bb048eb2f7f31b4fe42", func := "loop.example/g03109/laws.FnExactReflectBy", spec := "fnExactReflectBy", unfollowed := true, recurses := true, apart := false }
def FnExactReflectBySaid : Prop := fnExactReflectByRow.holds Tryz.pinned (OpenSpec.ofChange fnExactReflectBySpec)

/-- ITS FALSE NEIGHBOUR: 'it returns false'. Refute it at one input. -/
def fnExactReflectByWrong : ChangeSpec := { name := "fnExactReflectBy", fn := fun _ => fun
  | [d1, d2, d3] => { results := [.lit (.bool false)], args := [d1, d2, d3] }
  | _ => none }
def FnExactReflectByWrongFalsely : Prop := fnExactReflectByRow.holds Tryz.pinned (OpenSpec.ofChange fnExactReflectByWrong)

/-- 'laws.FnExactRootString': WHATEVER THE INPUT: true; the input reads as it did. -/
def fnExactRootStringSpec : ChangeSpec := { name := "fnExactRootString", fn := fun _ => fun
  | [d1, d2, d3] => { results := [.lit (.bool true)], args := [d1, d2, d3] }
  | _ => none }
def fnExactRootStringRow : OpenClaim := { program := "ytinoaldfdcddiaagreat", sum := "cdc15c2a6d1b5f242db754f75a0b2ea6a9299e748b9d1bb048eb2f7f31b4fe42", func := "loop.example/g03109/laws.FnExactRootString", spec := "fnExactRootString", unfollowed := true, recurses := true, apart := false }
def FnExactRootStringSaid : Prop := fnExactRootStringRow.holds Tryz.pinned (OpenSpec.ofChange fnExactRootStringSpec)

/-- ITS FALSE NEIGHBOUR: 'it returns false'. Refute it at one input. -/
def fnExactRootStringWrong : ChangeSpec := { name := "fnExactRootString", fn := fun _ => fun
  | [d1, d2, d3] => { results := [.lit (.bool false)], args := [d1, d2, d3] }
  | _ => none }
def FnExactRootStringWrongFalsely : Prop := fnExactRootStringRow.holds Tryz.pinned (OpenSpec.ofChange fnExactRootStringWrong)

/-- 'laws.FnExactExponentsOf': WHATEVER THE INPUT: true; the input reads as it did. -/
def fnExactExponentsOfSpec : ChangeSpec := { name := "fnExactExponentsOf", fn := fun _ => fun
  | [d] => { results := [.lit (.bool true)], args := [d] }
  | _ => none }
def fnExactExponentsOfRow : OpenClaim := { program := "ytinoaldfdcddiaagreat", sum := "cdc15c2a6d1b5f242db754f75a0b2ea6a9299e748b9d1bb048eb2f7f31b4fe42", func := "loop.example/g03109/laws.FnExactExponentsOf", spec := "fnExactExponentsOf", unfollowed := true, recurses := true, apart := false }
def FnExactExponentsOfSaid : Prop := fnExactExponentsOfRow.holds Tryz.pinned (OpenSpec.ofChange fnExactExponentsOfSpec)

/-- ITS FALSE NEIGHBOUR: 'it returns false'. Refute it at one input. -/
def fnExactExponentsOfWrong : ChangeSpec := { name := "fnExactExponentsOf", fn := fun _ => fun
  | [d] => { results := [.lit (.bool false)], args := [d] }
  | _ => none }
def FnExactExponentsOfWrongFalsely : Prop := fnExactExponentsOfRow.holds Tryz.pinned (OpenSpec.ofChange fnExactExponentsOfWrong)

/- THE SECOND FORM. 'bulk': how many values and letters a reading holds, each counted each time it is reached (what is shared counts as often as it is met; a slice's spare places count too). A statement '..UptoSaid' is the law's where the arguments, and the package variables that the reading takes, are together of bulk at most 1048576: NARROWER than '..Said'. Prove '..Said' where nothing that the law and all that it calls make is longer than what came in: it says more and counts as full. Else prove '..UptoSaid'. A law counts once. -/
mutual
def uptoBulk {H : Type} : DataW H → Nat
  | .lit (.string bytes) => bytes.length + 1
  | .lit _ => 1
  | .nil => 1
  | .ptr d => uptoBulk d + 1
  | .slice elems spare => uptoBulkAll elems + uptoBulkAll spare + 1
  | .agg parts => uptoBulkAll parts + 1
  | .iface _ d => uptoBulk d + 1
  | .map entries => uptoBulkEntries entries + 1
  | .held _ => 1
def uptoBulkAll {H : Type} : List (DataW H) → Nat
  | [] => 0
  | d :: r => uptoBulk d + uptoBulkAll r
def uptoBulkEntries {H : Type} : List (Lit × DataW H) → Nat
  | [] => 0
  | x :: r => uptoBulkEntry x + uptoBulkEntries r
def uptoBulkEntry {H : Type} : Lit × DataW H → Nat
  | (.string bytes, d) => bytes.length + uptoBulk d + 1
  | (_, d) => uptoBulk d + 1
 end
def uptoSmall : (H : Type) → List (DataW H) → Bool := fun _ ds => decide (uptoBulkAll ds ≤ 1048576)
def OpenSpec.upto (s : _root_.Go.ChangeSpec) : _root_.Go.OpenSpec := { _root_.Go.OpenSpec.ofChange s with cond := some uptoSmall }

/-- 'laws.FnExactPositiveRoots', WHERE WHAT IT READS IS OF BULK AT MOST 1048576: true; the input reads as it did. -/
def fnExactPositiveRootsUptoRow : OpenClaim := { program := "ytinoaldfdcddiaagreat", sum := "cdc15c2a6d1b5f242db754f75a0b2ea6a9299e748b9d1bb048eb2f7f31b4fe42", func := "loop.example/g03109/laws.FnExactPositiveRoots", spec := "fnExactPositiveRoots", unfollowed := true, recurses := true, apart := false, narrowed := true }
def FnExactPositiveRootsUptoSaid : Prop := fnExactPositiveRootsUptoRow.holds Tryz.pinned (OpenSpec.upto fnExactPositiveRootsSpec)

/-- 'laws.FnExactIsRoot', WHERE WHAT IT READS IS OF BULK AT MOST 1048576: true; the input reads as it did. -/
def fnExactIsRootUptoRow : OpenClaim := { program := "ytinoaldfdcddiaagreat", sum := "cdc15c2a6d1b5f242db754f75a0b2ea6a9299e748b9d1bb048eb2f7f31b4fe42", func := "loop.example/g03109/laws.FnExactIsRoot", spec := "fnExactIsRoot", unfollowed := true, recurses := true, apart := false, narrowed := true }
def FnExactIsRootUptoSaid : Prop := fnExactIsRootUptoRow.holds Tryz.pinned (OpenSpec.upto fnExactIsRootSpec)

/-- 'laws.FnExactHighestRoot', WHERE WHAT IT READS IS OF BULK AT MOST 1048576: true; the input reads as it did. -/
def fnExactHighestRootUptoRow : OpenClaim := { program := "ytinoaldfdcddiaagreat", sum := "cdc15c2a6d1b5f242db754f75a0b2ea6a9299e748b9d1bb048eb2f7f31b4fe42", func := "loop.example/g03109/laws.FnExactHighestRoot", spec := "fnExactHighestRoot", unfollowed := true, recurses := true, apart := false, narrowed := true }
def FnExactHighestRootUptoSaid : Prop := fnExactHighestRootUptoRow.holds Tryz.pinned (OpenSpec.upto fnExactHighestRootSpec)

/-- 'laws.FnExactPairOf', WHERE WHAT IT READS IS OF BULK AT MOST 1048576: true; the input reads as it did. -/
def fnExactPairOfUptoRow : OpenClaim := { program := "ytinoaldfdcddiaagreat", sum := "cdc15c2a6d1b5f242db754f75a0b2ea6a9299e748b9d1bb048eb2f7f31b4fe42", func := "loop.example/g03109/laws.FnExactPairOf", spec := "fnExactPairOf", unfollowed := true, recurses := true, apart := false, narrowed := true }
def FnExactPairOfUptoSaid : Prop := fnExactPairOfUptoRow.holds Tryz.pinned (OpenSpec.upto fnExactPairOfSpec)

/-- 'laws.FnExactCorootOf', WHERE WHAT IT READS IS OF BULK AT MOST 1048576: true; the input reads as it did. -/
def fnExactCorootOfUptoRow : OpenClaim := { program := "ytinoaldfdcddiaagreat", sum := "cdc15c2a6d1b5f242db754f75a0b2ea6a9299e748b9d1bb048eb2f7f31b4fe42", func := "loop.example/g03109/laws.FnExactCorootOf", spec := "fnExactCorootOf", unfollowed := true, recurses := true, apart := false, narrowed := true }
def FnExactCorootOfUptoSaid : Prop := fnExactCorootOfUptoRow.holds Tryz.pinned (OpenSpec.upto fnExactCorootOfSpec)

/-- 'laws.FnExactReflectBy', WHERE WHAT IT READS IS OF BULK AT MOST 1048576: true; the input reads as it did. -/
def fnExactReflectByUptoRow : OpenClaim := { program := "ytinoaldfdcddiaagreat", sum := "cdc15c2a6d1b5f242db754f75a0b2ea6a9299e748b9d1bb048eb2f7f31b4fe42", func := "loop.example/g03109/laws.FnExactReflectBy", spec := "fnExactReflectBy", unfollowed := true, recurses := true, apart := false, narrowed := true }
def FnExactReflectByUptoSaid : Prop := fnExactReflectByUptoRow.holds Tryz.pinned (OpenSpec.upto fnExactReflectBySpec)

/-- 'laws.FnExactRootString', WHERE WHAT IT READS IS OF BULK AT MOST 1048576: true; the input reads as it did. -/
def fnExactRootStringUptoRow : OpenClaim := { program := "ytinoaldfdcddiaagreat", sum := "cdc15c2a6d1b5f242db754f75a0b2ea6a9299e748b9d1bb048eb2f7f31b4fe42", func := "loop.example/g03109/laws.FnExactRootString", spec := "fnExactRootString", unfollowed := true, recurses := true, apart := false, narrowed := true }
def FnExactRootStringUptoSaid : Prop := fnExactRootStringUptoRow.holds Tryz.pinned (OpenSpec.upto fnExactRootStringSpec)

/-- 'laws.FnExactExponentsOf', WHERE WHAT IT READS IS OF BULK AT MOST 1048576: true; the input reads as it did. -/
def fnExactExponentsOfUptoRow : OpenClaim := { program := "ytinoaldfdcddiaagreat", sum := "cdc15c2a6d1b5f242db754f75a0b2ea6a9299e748b9d1bb048eb2f7f31b4fe42", func := "loop.example/g03109/laws.FnExactExponentsOf", spec := "fnExactExponentsOf", unfollowed := true, recurses := true, apart := false, narrowed := true }
def FnExactExponentsOfUptoSaid : Prop := fnExactExponentsOfUptoRow.holds Tryz.pinned (OpenSpec.upto fnExactExponentsOfSpec)

end Rows
end Go.Proofs.YtinoaldfdcddiaaGreat
