/-
  No cell of these rows narrows 'for every input' (looked for: loops, veiled, ifaces, maps, wideKeys, modest, calm, conditions, laid).
  DERIVED. THE GIVEN ROWS OF THIS SEAT. 12 by the template 'for every input the law returns true; each argument reads behind the call as it read before'; 0 by the template 'total and deterministic' (their statements: YtphopkihieofjaaTotals.lean).
  GIVEN WITH THE SEED: the statements are not yours to turn. If you find one false, say at which input.
  Laid BY PROGRAM, IN A SANDBOX (cutbox-rows.mjs): the forced cells as the released guide's own fill.sh prints them over the translation 76f1e3cf02daf5eb… (all of the seat's roots in one cut). By AI agents, Wed Nov 11 2026. No macro, syntax, notation, axiom, sorry.
-/
import Derived.Test.YtphopkihieofjaaChecked
import GoSem.Claim
import GoSem.ClaimJoined
import GoSem.ClaimMapViews
import Derived.JoinedTies
import Derived.KernelRfl
namespace Go.Proofs.Ytphopkihieofjaa
/- THE CELL 'sum', in the pinned program and in every row, IS THE sha256 OF THE DUMP (.gsa) THAT YtphopkihieofjaaProg.lean LOADS. Nothing in Lean hashes anything: it is a label: what it is worth is what the hold of that sum in a sandbox is worth. -/
noncomputable def Try.pinned : Pinned := { name := "ytphopkihieofjaa", sum := "76f1e3cf02daf5ebb9ba7ac0f226ba9f274e717419b469e28608b82148529d34", checked := Try.checked }
namespace Rows
def none {H : Type} : Left H := { results := [], args := [] }

/-- 'laws.FnExactCommutatorOf': WHATEVER THE INPUT: true; the input reads as it did. -/
def fnExactCommutatorOfSpec : ChangeSpec := { name := "fnExactCommutatorOf", fn := fun _ => fun
  | [d1, d2] => { results := [.lit (.bool true)], args := [d1, d2] }
  | _ => none }
def fnExactCommutatorOfRow : OpenClaim := { program := "ytphopkihieofjaa", sum := "76f1e3cf02daf5ebb9ba7ac0f226ba9f274e717419b469e28608b82148529d34", func := "loop.example/g03109/laws.FnExactCommutatorOf", spec := "fnExactCommutatorOf", apart := false }
def FnExactCommutatorOfSaid : Prop := fnExactCommutatorOfRow.holds Try.pinned (OpenSpec.ofChange fnExactCommutatorOfSpec)

/-- ITS FALSE NEIGHBOUR: 'it returns false'. Refute it at one input. -/
def fnExactCommutatorOfWrong : ChangeSpec := { name := "fnExactCommutatorOf", fn := fun _ => fun
  | [d1, d2] => { results := [.lit (.bool false)], args := [d1, d2] }
  | _ => none }
def FnExactCommutatorOfWrongFalsely : Prop := fnExactCommutatorOfRow.holds Try.pinned (OpenSpec.ofChange fnExactCommutatorOfWrong)

/-- 'laws.FnExactReduceMatrix': WHATEVER THE INPUT: true; the input reads as it did. -/
def fnExactReduceMatrixSpec : ChangeSpec := { name := "fnExactReduceMatrix", fn := fun _ => fun
  | [d] => { results := [.lit (.bool true)], args := [d] }
  | _ => none }
def fnExactReduceMatrixRow : OpenClaim := { program := "ytphopkihieofjaa", sum := "76f1e3cf02daf5ebb9ba7ac0f226ba9f274e717419b469e28608b82148529d34", func := "loop.example/g03109/laws.FnExactReduceMatrix", spec := "fnExactReduceMatrix", apart := false }
def FnExactReduceMatrixSaid : Prop := fnExactReduceMatrixRow.holds Try.pinned (OpenSpec.ofChange fnExactReduceMatrixSpec)

/-- ITS FALSE NEIGHBOUR: 'it returns false'. Refute it at one input. -/
def fnExactReduceMatrixWrong : ChangeSpec := { name := "fnExactReduceMatrix", fn := fun _ => fun
  | [d] => { results := [.lit (.bool false)], args := [d] }
  | _ => none }
def FnExactReduceMatrixWrongFalsely : Prop := fnExactReduceMatrixRow.holds Try.pinned (OpenSpec.ofChange fnExactReduceMatrixWrong)

/-- 'laws.FnExactRankOf': WHATEVER THE INPUT: true; the input reads as it did. -/
def fnExactRankOfSpec : ChangeSpec := { name := "fnExactRankOf", fn := fun _ => fun
  | [d] => { results := [.lit (.bool true)], args := [d] }
  | _ => none }
def fnExactRankOfRow : OpenClaim := { program := "ytphopkihieofjaa", sum := "76f1e3cf02daf5ebb9ba7ac0f226ba9f274e717419b469e28608b82148529d34", func := "loop.example/g03109/laws.FnExactRankOf", spec := "fnExactRankOf", apart := false }
def FnExactRankOfSaid : Prop := fnExactRankOfRow.holds Try.pinned (OpenSpec.ofChange fnExactRankOfSpec)

/-- ITS FALSE NEIGHBOUR: 'it returns false'. Refute it at one input. -/
def fnExactRankOfWrong : ChangeSpec := { name := "fnExactRankOf", fn := fun _ => fun
  | [d] => { results := [.lit (.bool false)], args := [d] }
  | _ => none }
def FnExactRankOfWrongFalsely : Prop := fnExactRankOfRow.holds Try.pinned (OpenSpec.ofChange fnExactRankOfWrong)

/-- 'laws.FnExactDeterminantOf': WHATEVER THE INPUT: true; the input reads as it did. -/
def fnExactDeterminantOfSpec : ChangeSpec := { name := "fnExactDeterminantOf", fn := fun _ => fun
  | [d] => { results := [.lit (.bool true)], args := [d] }
  | _ => none }
def fnExactDeterminantOfRow : OpenClaim := { program := "ytphopkihieofjaa", sum := "76f1e3cf02daf5ebb9ba7ac0f226ba9f274e717419b469e28608b82148529d34", func := "loop.example/g03109/laws.FnExactDeterminantOf", spec := "fnExactDeterminantOf", apart := false }
def FnExactDeterminantOfSaid : Prop := fnExactDeterminantOfRow.holds Try.pinned (OpenSpec.ofChange fnExactDeterminantOfSpec)

/-- ITS FALSE NEIGHBOUR: 'it returns false'. Refute it at one input. -/
def fnExactDeterminantOfWrong : ChangeSpec := { name := "fnExactDeterminantOf", fn := fun _ => fun
  | [d] => { results := [.lit (.bool false)], args := [d] }
  | _ => none }
def FnExactDeterminantOfWrongFalsely : Prop := fnExactDeterminantOfRow.holds Try.pinned (OpenSpec.ofChange fnExactDeterminantOfWrong)

/-- 'laws.FnExactSpanOf': WHATEVER THE INPUT: true; the input reads as it did. -/
def fnExactSpanOfSpec : ChangeSpec := { name := "fnExactSpanOf", fn := fun _ => fun
  | [d] => { results := [.lit (.bool true)], args := [d] }
  | _ => none }
def fnExactSpanOfRow : OpenClaim := { program := "ytphopkihieofjaa", sum := "76f1e3cf02daf5ebb9ba7ac0f226ba9f274e717419b469e28608b82148529d34", func := "loop.example/g03109/laws.FnExactSpanOf", spec := "fnExactSpanOf", apart := false }
def FnExactSpanOfSaid : Prop := fnExactSpanOfRow.holds Try.pinned (OpenSpec.ofChange fnExactSpanOfSpec)

/-- ITS FALSE NEIGHBOUR: 'it returns false'. Refute it at one input. -/
def fnExactSpanOfWrong : ChangeSpec := { name := "fnExactSpanOf", fn := fun _ => fun
  | [d] => { results := [.lit (.bool false)], args := [d] }
  | _ => none }
def FnExactSpanOfWrongFalsely : Prop := fnExactSpanOfRow.holds Try.pinned (OpenSpec.ofChange fnExactSpanOfWrong)

/-- 'laws.FnExactKernelOf': WHATEVER THE INPUT: true; the input reads as it did. -/
def fnExactKernelOfSpec : ChangeSpec := { name := "fnExactKernelOf", fn := fun _ => fun
  | [d] => { results := [.lit (.bool true)], args := [d] }
  | _ => none }
def fnExactKernelOfRow : OpenClaim := { program := "ytphopkihieofjaa", sum := "76f1e3cf02daf5ebb9ba7ac0f226ba9f274e717419b469e28608b82148529d34", func := "loop.example/g03109/laws.FnExactKernelOf", spec := "fnExactKernelOf", apart := false }
def FnExactKernelOfSaid : Prop := fnExactKernelOfRow.holds Try.pinned (OpenSpec.ofChange fnExactKernelOfSpec)

/-- ITS FALSE NEIGHBOUR: 'it returns false'. Refute it at one input. -/
def fnExactKernelOfWrong : ChangeSpec := { name := "fnExactKernelOf", fn := fun _ => fun
  | [d] => { results := [.lit (.bool false)], args := [d] }
  | _ => none }
def FnExactKernelOfWrongFalsely : Prop := fnExactKernelOfRow.holds Try.pinned (OpenSpec.ofChange fnExactKernelOfWrong)

/-- 'laws.FnExactSolveMatrix': WHATEVER THE INPUT: true; the input reads as it did. -/
def fnExactSolveMatrixSpec : ChangeSpec := { name := "fnExactSolveMatrix", fn := fun _ => fun
  | [d1, d2] => { results := [.lit (.bool true)], args := [d1, d2] }
  | _ => none }
def fnExactSolveMatrixRow : OpenClaim := { program := "ytphopkihieofjaa", sum := "76f1e3cf02daf5ebb9ba7ac0f226ba9f274e717419b469e28608b82148529d34", func := "loop.example/g03109/laws.FnExactSolveMatrix", spec := "fnExactSolveMatrix", apart := false }
def FnExactSolveMatrixSaid : Prop := fnExactSolveMatrixRow.holds Try.pinned (OpenSpec.ofChange fnExactSolveMatrixSpec)

/-- ITS FALSE NEIGHBOUR: 'it returns false'. Refute it at one input. -/
def fnExactSolveMatrixWrong : ChangeSpec := { name := "fnExactSolveMatrix", fn := fun _ => fun
  | [d1, d2] => { results := [.lit (.bool false)], args := [d1, d2] }
  | _ => none }
def FnExactSolveMatrixWrongFalsely : Prop := fnExactSolveMatrixRow.holds Try.pinned (OpenSpec.ofChange fnExactSolveMatrixWrong)

/-- 'laws.FnExactInverseMatrix': WHATEVER THE INPUT: true; the input reads as it did. -/
def fnExactInverseMatrixSpec : ChangeSpec := { name := "fnExactInverseMatrix", fn := fun _ => fun
  | [d] => { results := [.lit (.bool true)], args := [d] }
  | _ => none }
def fnExactInverseMatrixRow : OpenClaim := { program := "ytphopkihieofjaa", sum := "76f1e3cf02daf5ebb9ba7ac0f226ba9f274e717419b469e28608b82148529d34", func := "loop.example/g03109/laws.FnExactInverseMatrix", spec := "fnExactInverseMatrix", apart := false }
def FnExactInverseMatrixSaid : Prop := fnExactInverseMatrixRow.holds Try.pinned (OpenSpec.ofChange fnExactInverseMatrixSpec)

/-- ITS FALSE NEIGHBOUR: 'it returns false'. Refute it at one input. -/
def fnExactInverseMatrixWrong : ChangeSpec := { name := "fnExactInverseMatrix", fn := fun _ => fun
  | [d] => { results := [.lit (.bool false)], args := [d] }
  | _ => none }
def FnExactInverseMatrixWrongFalsely : Prop := fnExactInverseMatrixRow.holds Try.pinned (OpenSpec.ofChange fnExactInverseMatrixWrong)

/-- 'laws.FnExactNilpotencyOf': WHATEVER THE INPUT: true; the input reads as it did. -/
def fnExactNilpotencyOfSpec : ChangeSpec := { name := "fnExactNilpotencyOf", fn := fun _ => fun
  | [d] => { results := [.lit (.bool true)], args := [d] }
  | _ => none }
def fnExactNilpotencyOfRow : OpenClaim := { program := "ytphopkihieofjaa", sum := "76f1e3cf02daf5ebb9ba7ac0f226ba9f274e717419b469e28608b82148529d34", func := "loop.example/g03109/laws.FnExactNilpotencyOf", spec := "fnExactNilpotencyOf", unfollowed := true, recurses := true, apart := false }
def FnExactNilpotencyOfSaid : Prop := fnExactNilpotencyOfRow.holds Try.pinned (OpenSpec.ofChange fnExactNilpotencyOfSpec)

/-- ITS FALSE NEIGHBOUR: 'it returns false'. Refute it at one input. -/
def fnExactNilpotencyOfWrong : ChangeSpec := { name := "fnExactNilpotencyOf", fn := fun _ => fun
  | [d] => { results := [.lit (.bool false)], args := [d] }
  | _ => none }
def FnExactNilpotencyOfWrongFalsely : Prop := fnExactNilpotencyOfRow.holds Try.pinned (OpenSpec.ofChange fnExactNilpotencyOfWrong)

/-- 'laws.FnExactSpaceOk': WHATEVER THE INPUT: true; the input reads as it did. -/
def fnExactSpaceOkSpec : ChangeSpec := { name := "fnExactSpaceOk", fn := fun _ => fun
  | [d] => { results := [.lit (.bool true)], args := [d] }
  | _ => none }
def fnExactSpaceOkRow : OpenClaim := { program := "ytphopkihieofjaa", sum := "76f1e3cf02daf5ebb9ba7ac0f226ba9f274e717419b469e28608b82148529d34", func := "loop.example/g03109/laws.FnExactSpaceOk", spec := "fnExactSpaceOk", unfollowed := true, recurses := true, apart := false }
def FnExactSpaceOkSaid : Prop := fnExactSpaceOkRow.holds Try.pinned (OpenSpec.ofChange fnExactSpaceOkSpec)

/-- ITS FALSE NEIGHBOUR: 'it returns false'. Refute it at one input. -/
def fnExactSpaceOkWrong : ChangeSpec := { name := "fnExactSpaceOk", fn := fun _ => fun
  | [d] => { results := [.lit (.bool false)], args := [d] }
  | _ => none }
def FnExactSpaceOkWrongFalsely : Prop := fnExactSpaceOkRow.holds Try.pinned (OpenSpec.ofChange fnExactSpaceOkWrong)

/-- 'laws.FnExactSumSpaces': WHATEVER THE INPUT: true; the input reads as it did. -/
def fnExactSumSpacesSpec : ChangeSpec := { name := "fnExactSumSpaces", fn := fun _ => fun
  | [d1, d2] => { results := [.lit (.bool true)], args := [d1, d2] }
  | _ => none }
def fnExactSumSpacesRow : OpenClaim := { program := "ytphopkihieofjaa", sum := "76f1e3cf02daf5ebb9ba7ac0f226ba9f274e717419b469e28608b82148529d34", func := "loop.example/g03109/laws.FnExactSumSpaces", spec := "fnExactSumSpaces", unfollowed := true, recurses := true, apart := false }
def FnExactSumSpacesSaid : Prop := fnExactSumSpacesRow.holds Try.pinned (OpenSpec.ofChange fnExactSumSpacesSpec)

/-- ITS FALSE NEIGHBOUR: 'it returns false'. Refute it at one input. -/
def fnExactSumSpacesWrong : ChangeSpec := { name := "fnExactSumSpaces", fn := fun _ => fun
  | [d1, d2] => { results := [.lit (.bool false)], args := [d1, d2] }
  | _ => none }
def FnExactSumSpacesWrongFalsely : Prop := fnExactSumSpacesRow.holds Try.pinned (OpenSpec.ofChange fnExactSumSpacesWrong)

/-- 'laws.FnExactMeetSpaces': WHATEVER THE INPUT: true; the input reads as it did. -/
def fnExactMeetSpacesSpec : ChangeSpec := { name := "fnExactMeetSpaces", fn := fun _ => fun
  | [d1, d2] => { results := [.lit (.bool true)], args := [d1, d2] }
  | _ => none }
def fnExactMeetSpacesRow : OpenClaim := { program := "ytphopkihieofjaa", sum := "76f1e3cf02daf5ebb9ba7ac0f226ba9f274e717419b469e28608b82148529d34", func := "loop.example/g03109/laws.FnExactMeetSpaces", spec := "fnExactMeetSpaces", unfollowed := true, recurses := true, apart := false }
def FnExactMeetSpacesSaid : Prop := fnExactMeetSpacesRow.holds Try.pinned (OpenSpec.ofChange fnExactMeetSpacesSpec)

/-- ITS FALSE NEIGHBOUR: 'it returns false'. Refute it at one input. -/
def fnExactMeetSpacesWrong : ChangeSpec := { name := "fnExactMeetSpaces", fn := fun _ => fun
  | [d1, d2] => { results := [.lit (.bool false)], args := [d1, d2] }
  | _ => none }
def FnExactMeetSpacesWrongFalsely : Prop := fnExactMeetSpacesRow.holds Try.pinned (OpenSpec.ofChange fnExactMeetSpacesWrong)

/- THE SECOND FORM. 'bulk': how many values and letters a reading holds, each counted each time it is reached (what is shared counts as often as it is met; a slice's spare places count too). A statement '..UptoSaid' is the law's where the arguments, and the package variables that the reading takes, are together of bulk at most 1048576: NARROWER than '..Said'. Prove '..Said' where nothing that the law and all that it calls make is longer than what came in: it says more and counts as full. Else prove '..UptoSaid'. A law counts once. -/
mutual
def uptoBulk {H : Type} : DataW H → Nat
  | .lit (.string bytes) => bytes.length + 1
  | .lit _ => 1
  | .nil => 1
  | .ptr d => uptoBulk d + 1
  | .slice elems spare => uptoBulkAll elems + uptoBulkAll spare + 1
  | .agg parts => uptoBulkAll parts + 1
  | .iface _ d => uptoBulk d + 1
  | .map entries => uptoBulkEntries entries + 1
  | .held _ => 1
def uptoBulkAll {H : Type} : List (DataW H) → Nat
  | [] => 0
  | d :: r => uptoBulk d + uptoBulkAll r
def uptoBulkEntries {H : Type} : List (Lit × DataW H) → Nat
  | [] => 0
  | x :: r => uptoBulkEntry x + uptoBulkEntries r
def uptoBulkEntry {H : Type} : Lit × DataW H → Nat
  | (.string bytes, d) => bytes.length + uptoBulk d + 1
  | (_, d) => uptoBulk d + 1
 end
def uptoSmall : (H : Type) → List (DataW H) → Bool := fun _ ds => decide (uptoBulkAll ds ≤ 1048576)
def OpenSpec.upto (s : _root_.Go.ChangeSpec) : _root_.Go.OpenSpec := { _root_.Go.OpenSpec.ofChange s with cond := some uptoSmall }

/-- 'laws.FnExactCommutatorOf', WHERE WHAT IT READS IS OF BULK AT MOST 1048576: true; the input reads as it did. -/
def fnExactCommutatorOfUptoRow : OpenClaim := { program := "ytphopkihieofjaa", sum := "76f1e3cf02daf5ebb9ba7ac0f226ba9f274e717419b469e28608b82148529d34", func := "loop.example/g03109/laws.FnExactCommutatorOf", spec := "fnExactCommutatorOf", apart := false, narrowed := true }
def FnExactCommutatorOfUptoSaid : Prop := fnExactCommutatorOfUptoRow.holds Try.pinned (OpenSpec.upto fnExactCommutatorOfSpec)

/-- 'laws.FnExactReduceMatrix', WHERE WHAT IT READS IS OF BULK AT MOST 1048576: true; the input reads as it did. -/
def fnExactReduceMatrixUptoRow : OpenClaim := { program := "ytphopkihieofjaa", sum := "76f1e3cf02daf5ebb9ba7ac0f226ba9f274e717419b469e28608b82148529d34", func := "loop.example/g03109/laws.FnExactReduceMatrix", spec := "fnExactReduceMatrix", apart := false, narrowed := true }
def FnExactReduceMatrixUptoSaid : Prop := fnExactReduceMatrixUptoRow.holds Try.pinned (OpenSpec.upto fnExactReduceMatrixSpec)

/-- 'laws.FnExactRankOf', WHERE WHAT IT READS IS OF BULK AT MOST 1048576: true; the input reads as it did. -/
def fnExactRankOfUptoRow : OpenClaim := { program := "ytphopkihieofjaa", sum := "76f1e3cf02daf5ebb9ba7ac0f226ba9f274e717419b469e28608b82148529d34", func := "loop.example/g03109/laws.FnExactRankOf", spec := "fnExactRankOf", apart := false, narrowed := true }
def FnExactRankOfUptoSaid : Prop := fnExactRankOfUptoRow.holds Try.pinned (OpenSpec.upto fnExactRankOfSpec)

/-- 'laws.FnExactDeterminantOf', WHERE WHAT IT READS IS OF BULK AT MOST 1048576: true; the input reads as it did. -/
def fnExactDeterminantOfUptoRow : OpenClaim := { program := "ytphopkihieofjaa", sum := "76f1e3cf02daf5ebb9ba7ac0f226ba9f274e717419b469e28608b82148529d34", func := "loop.example/g03109/laws.FnExactDeterminantOf", spec := "fnExactDeterminantOf", apart := false, narrowed := true }
def FnExactDeterminantOfUptoSaid : Prop := fnExactDeterminantOfUptoRow.holds Try.pinned (OpenSpec.upto fnExactDeterminantOfSpec)

/-- 'laws.FnExactSpanOf', WHERE WHAT IT READS IS OF BULK AT MOST 1048576: true; the input reads as it did. -/
def fnExactSpanOfUptoRow : OpenClaim := { program := "ytphopkihieofjaa", sum := "76f1e3cf02daf5ebb9ba7ac0f226ba9f274e717419b469e28608b82148529d34", func := "loop.example/g03109/laws.FnExactSpanOf", spec := "fnExactSpanOf", apart := false, narrowed := true }
def FnExactSpanOfUptoSaid : Prop := fnExactSpanOfUptoRow.holds Try.pinned (OpenSpec.upto fnExactSpanOfSpec)

/-- 'laws.FnExactKernelOf', WHERE WHAT IT READS IS OF BULK AT MOST 1048576: true; the input reads as it did. -/
def fnExactKernelOfUptoRow : OpenClaim := { program := "ytphopkihieofjaa", sum := "76f1e3cf02daf5ebb9ba7ac0f226ba9f274e717419b469e28608b82148529d34", func := "loop.example/g03109/laws.FnExactKernelOf", spec := "fnExactKernelOf", apart := false, narrowed := true }
def FnExactKernelOfUptoSaid : Prop := fnExactKernelOfUptoRow.holds Try.pinned (OpenSpec.upto fnExactKernelOfSpec)

/-- 'laws.FnExactSolveMatrix', WHERE WHAT IT READS IS OF BULK AT MOST 1048576: true; the input reads as it did. -/
def fnExactSolveMatrixUptoRow : OpenClaim := { program := "ytphopkihieofjaa", sum := "76f1e3cf02daf5ebb9ba7ac0f226ba9f274e717419b469e28608b82148529d34", func := "loop.example/g03109/laws.FnExactSolveMatrix", spec := "fnExactSolveMatrix", apart := false, narrowed := true }
def FnExactSolveMatrixUptoSaid : Prop := fnExactSolveMatrixUptoRow.holds Try.pinned (OpenSpec.upto fnExactSolveMatrixSpec)

/-- 'laws.FnExactInverseMatrix', WHERE WHAT IT READS IS OF BULK AT MOST 1048576: true; the input reads as it did. -/
def fnExactInverseMatrixUptoRow : OpenClaim := { program := "ytphopkihieofjaa", sum := "76f1e3cf02daf5ebb9ba7ac0f226ba9f274e717419b469e28608b82148529d34", func := "loop.example/g03109/laws.FnExactInverseMatrix", spec := "fnExactInverseMatrix", apart := false, narrowed := true }
def FnExactInverseMatrixUptoSaid : Prop := fnExactInverseMatrixUptoRow.holds Try.pinned (OpenSpec.upto fnExactInverseMatrixSpec)

/-- 'laws.FnExactNilpotencyOf', WHERE WHAT IT READS IS OF BULK AT MOST 1048576: true; the input reads as it did. -/
def fnExactNilpotencyOfUptoRow : OpenClaim := { program := "ytphopkihieofjaa", sum := "76f1e3cf02daf5ebb9ba7ac0f226ba9f274e717419b469e28608b82148529d34", func := "loop.example/g03109/laws.FnExactNilpotencyOf", spec := "fnExactNilpotencyOf", unfollowed := true, recurses := true, apart := false, narrowed := true }
def FnExactNilpotencyOfUptoSaid : Prop := fnExactNilpotencyOfUptoRow.holds Try.pinned (OpenSpec.upto fnExactNilpotencyOfSpec)

/-- 'laws.FnExactSpaceOk', WHERE WHAT IT READS IS OF BULK AT MOST 1048576: true; the input reads as it did. -/
def fnExactSpaceOkUptoRow : OpenClaim := { program := "ytphopkihieofjaa", sum := "76f1e3cf02daf5ebb9ba7ac0f226ba9f274e717419b469e28608b82148529d34", func := "loop.example/g03109/laws.FnExactSpaceOk", spec := "fnExactSpaceOk", unfollowed := true, recurses := true, apart := false, narrowed := true }
def FnExactSpaceOkUptoSaid : Prop := fnExactSpaceOkUptoRow.holds Try.pinned (OpenSpec.upto fnExactSpaceOkSpec)

/-- 'laws.FnExactSumSpaces', WHERE WHAT IT READS IS OF BULK AT MOST 1048576: true; the input reads as it did. -/
def fnExactSumSpacesUptoRow : OpenClaim := { program := "ytphopkihieofjaa", sum := "76f1e3cf02daf5ebb9ba7ac0f226ba9f274e717419b469e28608b82148529d34", func := "loop.example/g03109/laws.FnExactSumSpaces", spec := "fnExactSumSpaces", unfollowed := true, recurses := true, apart := false, narrowed := true }
def FnExactSumSpacesUptoSaid : Prop := fnExactSumSpacesUptoRow.holds Try.pinned (OpenSpec.upto fnExactSumSpacesSpec)

/-- 'laws.FnExactMeetSpaces', WHERE WHAT IT READS IS OF BULK AT MOST 1048576: true; the input reads as it did. -/
def fnExactMeetSpacesUptoRow : OpenClaim := { program := "ytphopkihieofjaa", sum := "76f1e3cf02daf5ebb9ba7ac0f226ba9f274e717419b469e28608b82148529d34", func := "loop.example/g03109/laws.FnExactMeetSpaces", spec := "fnExactMeetSpaces", unfollowed := true, recurses := true, apart := false, narrowed := true }
def FnExactMeetSpacesUptoSaid : Prop := fnExactMeetSpacesUptoRow.holds Try.pinned (OpenSpec.upto fnExactMeetSpacesSpec)

end Rows
end Go.Proofs.Ytphopkihieofjaa
