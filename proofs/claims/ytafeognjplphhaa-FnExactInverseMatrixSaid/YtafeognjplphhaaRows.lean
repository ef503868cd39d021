/-
  No cell of these rows narrows 'for every input' (looked for: loops, veiled, ifaces, maps, wideKeys, modest, calm, conditions, laid).
  DERIVED. THE GIVEN ROWS OF THIS SEAT. 12 by the template 'for every input the law returns true; each argument reads behind the call as it read before'; 0 by the template 'total and deterministic' (their statements: YtafeognjplphhaaTotals.lean).
  GIVEN WITH THE SEED: the statements are not yours to turn. If you find one false, say at which input.
  Laid BY PROGRAM, IN A SANDBOX (cutbox-rows.mjs): the forced cells as the released guide's own fill.sh prints them over the translation 75bdb621fc5c998a… (all of the seat's roots in one cut). By AI agents, Wed Nov 11 2026. No macro, syntax, notation, axiom, sorry.
-/
import Derived.Test.YtafeognjplphhaaChecked
import GoSem.Claim
import GoSem.ClaimJoined
import GoSem.ClaimMapViews
import Derived.JoinedTies
import Derived.KernelRfl
namespace Go.Proofs.Ytafeognjplphhaa
/- THE CELL 'sum', in the pinned program and in every row, IS THE sha256 OF THE DUMP (.gsa) THAT YtafeognjplphhaaProg.lean LOADS. Nothing in Lean hashes anything: it is a label: what it is worth is what the hold of that sum in a sandbox is worth. -/
noncomputable def Try.pinned : Pinned := { name := "ytafeognjplphhaa", sum := "75bdb621fc5c998a5dfd56853b690d6448f8b4e8df0cecea211b2784a2655205", checked := Try.checked }
namespace Rows
def none {H : Type} : Left H := { results := [], args := [] }

/-- 'laws.FnExactTransposeMatrix': WHATEVER THE INPUT: true; the input reads as it did. -/
def fnExactTransposeMatrixSpec : ChangeSpec := { name := "fnExactTransposeMatrix", fn := fun _ => fun
  | [d] => { results := [.lit (.bool true)], args := [d] }
  | _ => none }
def fnExactTransposeMatrixRow : OpenClaim := { program := "ytafeognjplphhaa", sum := "75bdb621fc5c998a5dfd56853b690d6448f8b4e8df0cecea211b2784a2655205", func := "loop.example/g03109/laws.FnExactTransposeMatrix", spec := "fnExactTransposeMatrix", apart := false }
def FnExactTransposeMatrixSaid : Prop := fnExactTransposeMatrixRow.holds Try.pinned (OpenSpec.ofChange fnExactTransposeMatrixSpec)

/-- ITS FALSE NEIGHBOUR: 'it returns false'. Refute it at one input. -/
def fnExactTransposeMatrixWrong : ChangeSpec := { name := "fnExactTransposeMatrix", fn := fun _ => fun
  | [d] => { results := [.lit (.bool false)], args := [d] }
  | _ => none }
def FnExactTransposeMatrixWrongFalsely : Prop := fnExactTransposeMatrixRow.holds Try.pinned (OpenSpec.ofChange fnExactTransposeMatrixWrong)

/-- 'laws.FnExactSolveMatrix': WHATEVER THE INPUT: true; the input reads as it did. -/
def fnExactSolveMatrixSpec : ChangeSpec := { name := "fnExactSolveMatrix", fn := fun _ => fun
  | [d1, d2] => { results := [.lit (.bool true)], args := [d1, d2] }
  | _ => none }
def fnExactSolveMatrixRow : OpenClaim := { program := "ytafeognjplphhaa", sum := "75bdb621fc5c998a5dfd56853b690d6448f8b4e8df0cecea211b2784a2655205", func := "loop.example/g03109/laws.FnExactSolveMatrix", spec := "fnExactSolveMatrix", apart := false }
def FnExactSolveMatrixSaid : Prop := fnExactSolveMatrixRow.holds Try.pinned (OpenSpec.ofChange fnExactSolveMatrixSpec)

/-- ITS FALSE NEIGHBOUR: 'it returns false'. Refute it at one input. -/
def fnExactSolveMatrixWrong : ChangeSpec := { name := "fnExactSolveMatrix", fn := fun _ => fun
  | [d1, d2] => { results := [.lit (.bool false)], args := [d1, d2] }
  | _ => none }
def FnExactSolveMatrixWrongFalsely : Prop := fnExactSolveMatrixRow.holds Try.pinned (OpenSpec.ofChange fnExactSolveMatrixWrong)

/-- 'laws.FnExactInverseMatrix': WHATEVER THE INPUT: true; the input reads as it did. -/
def fnExactInverseMatrixSpec : ChangeSpec := { name := "fnExactInverseMatrix", fn := fun _ => fun
  | [d] => { results := [.lit (.bool true)], args := [d] }
  | _ => none }
def fnExactInverseMatrixRow : OpenClaim := { program := "ytafeognjplphhaa", sum := "75bdb621fc5c998a5dfd56853b690d6448f8b4e8df0cecea211b2784a2655205", func := "loop.example/g03109/laws.FnExactInverseMatrix", spec := "fnExactInverseMatrix", apart := false }
def FnExactInverseMatrixSaid : Prop := fnExactInverseMatrixRow.holds Try.pinned (OpenSpec.ofChange fnExactInverseMatrixSpec)

/-- ITS FALSE NEIGHBOUR: 'it returns false'. Refute it at one input. -/
def fnExactInverseMatrixWrong : ChangeSpec := { name := "fnExactInverseMatrix", fn := fun _ => fun
  | [d] => { results := [.lit (.bool false)], args := [d] }
  | _ => none }
def FnExactInverseMatrixWrongFalsely : Prop := fnExactInverseMatrixRow.holds Try.pinned (OpenSpec.ofChange fnExactInverseMatrixWrong)

/-- 'laws.FnExactKernelOf': WHATEVER THE INPUT: true; the input reads as it did. -/
def fnExactKernelOfSpec : ChangeSpec := { name := "fnExactKernelOf", fn := fun _ => fun
  | [d] => { results := [.lit (.bool true)], args := [d] }
  | _ => none }
def fnExactKernelOfRow : OpenClaim := { program := "ytafeognjplphhaa", sum := "75bdb621fc5c998a5dfd56853b690d6448f8b4e8df0cecea211b2784a2655205", func := "loop.example/g03109/laws.FnExactKernelOf", spec := "fnExactKernelOf", apart := false }
def FnExactKernelOfSaid : Prop := fnExactKernelOfRow.holds Try.pinned (OpenSpec.ofChange fnExactKernelOfSpec)

/-- ITS FALSE NEIGHBOUR: 'it returns false'. Refute it at one input. -/
def fnExactKernelOfWrong : ChangeSpec := { name := "fnExactKernelOf", fn := fun _ => fun
  | [d] => { results := [.lit (.bool false)], args := [d] }
  | _ => none }
def FnExactKernelOfWrongFalsely : Prop := fnExactKernelOfRow.holds Try.pinned (OpenSpec.ofChange fnExactKernelOfWrong)

/-- 'laws.FnExactMeetSpaces': WHATEVER THE INPUT: true; the input reads as it did. -/
def fnExactMeetSpacesSpec : ChangeSpec := { name := "fnExactMeetSpaces", fn := fun _ => fun
  | [d1, d2] => { results := [.lit (.bool true)], args := [d1, d2] }
  | _ => none }
def fnExactMeetSpacesRow : OpenClaim := { program := "ytafeognjplphhaa", sum := "75bdb621fc5c998a5dfd56853b690d6448f8b4e8df0cecea211b2784a2655205", func := "loop.example/g03109/laws.FnExactMeetSpaces", spec := "fnExactMeetSpaces", unfollowed := true, recurses := true, apart := false }
def FnExactMeetSpacesSaid : Prop := fnExactMeetSpacesRow.holds Try.pinned (OpenSpec.ofChange fnExactMeetSpacesSpec)

/-- ITS FALSE NEIGHBOUR: 'it returns false'. Refute it at one input. -/
def fnExactMeetSpacesWrong : ChangeSpec := { name := "fnExactMeetSpaces", fn := fun _ => fun
  | [d1, d2] => { results := [.lit (.bool false)], args := [d1, d2] }
  | _ => none }
def FnExactMeetSpacesWrongFalsely : Prop := fnExactMeetSpacesRow.holds Try.pinned (OpenSpec.ofChange fnExactMeetSpacesWrong)

/-- 'laws.FnExactCoordinatesIn': WHATEVER THE INPUT: true; the input reads as it did. -/
def fnExactCoordinatesInSpec : ChangeSpec := { name := "fnExactCoordinatesIn", fn := fun _ => fun
  | [d1, d2] => { results := [.lit (.bool true)], args := [d1, d2] }
  | _ => none }
def fnExactCoordinatesInRow : OpenClaim := { program := "ytafeognjplphhaa", sum := "75bdb621fc5c998a5dfd56853b690d6448f8b4e8df0cecea211b2784a2655205", func := "loop.example/g03109/laws.FnExactCoordinatesIn", spec := "fnExactCoordinatesIn", unfollowed := true, recurses := true, apart := false }
def FnExactCoordinatesInSaid : Prop := fnExactCoordinatesInRow.holds Try.pinned (OpenSpec.ofChange fnExactCoordinatesInSpec)

/-- ITS FALSE NEIGHBOUR: 'it returns false'. Refute it at one input. -/
def fnExactCoordinatesInWrong : ChangeSpec := { name := "fnExactCoordinatesIn", fn := fun _ => fun
  | [d1, d2] => { results := [.lit (.bool false)], args := [d1, d2] }
  | _ => none }
def FnExactCoordinatesInWrongFalsely : Prop := fnExactCoordinatesInRow.holds Try.pinned (OpenSpec.ofChange fnExactCoordinatesInWrong)

/-- 'laws.FnExactIsSubspace': WHATEVER THE INPUT: true; the input reads as it did. -/
def fnExactIsSubspaceSpec : ChangeSpec := { name := "fnExactIsSubspace", fn := fun _ => fun
  | [d1, d2] => { results := [.lit (.bool true)], args := [d1, d2] }
  | _ => none }
def fnExactIsSubspaceRow : OpenClaim := { program := "ytafeognjplphhaa", sum := "75bdb621fc5c998a5dfd56853b690d6448f8b4e8df0cecea211b2784a2655205", func := "loop.example/g03109/laws.FnExactIsSubspace", spec := "fnExactIsSubspace", unfollowed := true, recurses := true, apart := false }
def FnExactIsSubspaceSaid : Prop := fnExactIsSubspaceRow.holds Try.pinned (OpenSpec.ofChange fnExactIsSubspaceSpec)

/-- ITS FALSE NEIGHBOUR: 'it returns false'. Refute it at one input. -/
def fnExactIsSubspaceWrong : ChangeSpec := { name := "fnExactIsSubspace", fn := fun _ => fun
  | [d1, d2] => { results := [.lit (.bool false)], args := [d1, d2] }
  | _ => none }
def FnExactIsSubspaceWrongFalsely : Prop := fnExactIsSubspaceRow.holds Try.pinned (OpenSpec.ofChange fnExactIsSubspaceWrong)

/-- 'laws.FnExactAlgebraOk': WHATEVER THE INPUT: true; the input reads as it did. -/
def fnExactAlgebraOkSpec : ChangeSpec := { name := "fnExactAlgebraOk", fn := fun _ => fun
  | [d] => { results := [.lit (.bool true)], args := [d] }
  | _ => none }
def fnExactAlgebraOkRow : OpenClaim := { program := "ytafeognjplphhaa", sum := "75bdb621fc5c998a5dfd56853b690d6448f8b4e8df0cecea211b2784a2655205", func := "loop.example/g03109/laws.FnExactAlgebraOk", spec := "fnExactAlgebraOk", unfollowed := true, recurses := true, apart := false }
def FnExactAlgebraOkSaid : Prop := fnExactAlgebraOkRow.holds Try.pinned (OpenSpec.ofChange fnExactAlgebraOkSpec)

/-- ITS FALSE NEIGHBOUR: 'it returns false'. Refute it at one input. -/
def fnExactAlgebraOkWrong : ChangeSpec := { name := "fnExactAlgebraOk", fn := fun _ => fun
  | [d] => { results := [.lit (.bool false)], args := [d] }
  | _ => none }
def FnExactAlgebraOkWrongFalsely : Prop := fnExactAlgebraOkRow.holds Try.pinned (OpenSpec.ofChange fnExactAlgebraOkWrong)

/-- 'laws.FnExactAbelianAlgebra': WHATEVER THE INPUT: true; the input reads as it did. -/
def fnExactAbelianAlgebraSpec : ChangeSpec := { name := "fnExactAbelianAlgebra", fn := fun _ => fun
  | [d1, d2] => { results := [.lit (.bool true)], args := [d1, d2] }
  | _ => none }
def fnExactAbelianAlgebraRow : OpenClaim := { program := "ytafeognjplphhaa", sum := "75bdb621fc5c998a5dfd56853b690d6448f8b4e8df0cecea211b2784a2655205", func := "loop.example/g03109/laws.FnExactAbelianAlgebra", spec := "fnExactAbelianAlgebra", apart := false }
def FnExactAbelianAlgebraSaid : Prop := fnExactAbelianAlgebraRow.holds Try.pinned (OpenSpec.ofChange fnExactAbelianAlgebraSpec)

/-- ITS FALSE NEIGHBOUR: 'it returns false'. Refute it at one input. -/
def fnExactAbelianAlgebraWrong : ChangeSpec := { name := "fnExactAbelianAlgebra", fn := fun _ => fun
  | [d1, d2] => { results := [.lit (.bool false)], args := [d1, d2] }
  | _ => none }
def FnExactAbelianAlgebraWrongFalsely : Prop := fnExactAbelianAlgebraRow.holds Try.pinned (OpenSpec.ofChange fnExactAbelianAlgebraWrong)

/-- 'laws.FnExactEqualAlgebras': WHATEVER THE INPUT: true; the input reads as it did. -/
def fnExactEqualAlgebrasSpec : ChangeSpec := { name := "fnExactEqualAlgebras", fn := fun _ => fun
  | [d1, d2] => { results := [.lit (.bool true)], args := [d1, d2] }
  | _ => none }
def fnExactEqualAlgebrasRow : OpenClaim := { program := "ytafeognjplphhaa", sum := "75bdb621fc5c998a5dfd56853b690d6448f8b4e8df0cecea211b2784a2655205", func := "loop.example/g03109/laws.FnExactEqualAlgebras", spec := "fnExactEqualAlgebras", unfollowed := true, recurses := true, apart := false }
def FnExactEqualAlgebrasSaid : Prop := fnExactEqualAlgebrasRow.holds Try.pinned (OpenSpec.ofChange fnExactEqualAlgebrasSpec)

/-- ITS FALSE NEIGHBOUR: 'it returns false'. Refute it at one input. -/
def fnExactEqualAlgebrasWrong : ChangeSpec := { name := "fnExactEqualAlgebras", fn := fun _ => fun
  | [d1, d2] => { results := [.lit (.bool false)], args := [d1, d2] }
  | _ => none }
def FnExactEqualAlgebrasWrongFalsely : Prop := fnExactEqualAlgebrasRow.holds Try.pinned (OpenSpec.ofChange fnExactEqualAlgebrasWrong)

/-- 'laws.FnExactBracketOf': WHATEVER THE INPUT: true; the input reads as it did. -/
def fnExactBracketOfSpec : ChangeSpec := { name := "fnExactBracketOf", fn := fun _ => fun
  | [d1, d2, d3] => { results := [.lit (.bool true)], args := [d1, d2, d3] }
  | _ => none }
def fnExactBracketOfRow : OpenClaim := { program := "ytafeognjplphhaa", sum := "75bdb621fc5c998a5dfd56853b690d6448f8b4e8df0cecea211b2784a2655205", func := "loop.example/g03109/laws.FnExactBracketOf", spec := "fnExactBracketOf", unfollowed := true, recurses := true, apart := false }
def FnExactBracketOfSaid : Prop := fnExactBracketOfRow.holds Try.pinned (OpenSpec.ofChange fnExactBracketOfSpec)

/-- ITS FALSE NEIGHBOUR: 'it returns false'. Refute it at one input. -/
def fnExactBracketOfWrong : ChangeSpec := { name := "fnExactBracketOf", fn := fun _ => fun
  | [d1, d2, d3] => { results := [.lit (.bool false)], args := [d1, d2, d3] }
  | _ => none }
def FnExactBracketOfWrongFalsely : Prop := fnExactBracketOfRow.holds Try.pinned (OpenSpec.ofChange fnExactBracketOfWrong)

/-- 'laws.FnExactAdjointOf': WHATEVER THE INPUT: true; the input reads as it did. -/
def fnExactAdjointOfSpec : ChangeSpec := { name := "fnExactAdjointOf", fn := fun _ => fun
  | [d1, d2] => { results := [.lit (.bool true)], args := [d1, d2] }
  | _ => none }
def fnExactAdjointOfRow : OpenClaim := { program := "ytafeognjplphhaa", sum := "75bdb621fc5c998a5dfd56853b690d6448f8b4e8df0cecea211b2784a2655205", func := "loop.example/g03109/laws.FnExactAdjointOf", spec := "fnExactAdjointOf", unfollowed := true, recurses := true, apart := false }
def FnExactAdjointOfSaid : Prop := fnExactAdjointOfRow.holds Try.pinned (OpenSpec.ofChange fnExactAdjointOfSpec)

/-- ITS FALSE NEIGHBOUR: 'it returns false'. Refute it at one input. -/
def fnExactAdjointOfWrong : ChangeSpec := { name := "fnExactAdjointOf", fn := fun _ => fun
  | [d1, d2] => { results := [.lit (.bool false)], args := [d1, d2] }
  | _ => none }
def FnExactAdjointOfWrongFalsely : Prop := fnExactAdjointOfRow.holds Try.pinned (OpenSpec.ofChange fnExactAdjointOfWrong)

/- THE SECOND FORM. 'bulk': how many values and letters a reading holds, each counted each time it is reached (what is shared counts as often as it is met; a slice's spare places count too). A statement '..UptoSaid' is the law's where the arguments, and the package variables that the reading takes, are together of bulk at most 1048576: NARROWER than '..Said'. Prove '..Said' where nothing that the law and all that it calls make is longer than what came in: it says more and counts as full. Else prove '..UptoSaid'. A law counts once. -/
mutual
def uptoBulk {H : Type} : DataW H → Nat
  | .lit (.string bytes) => bytes.length + 1
  | .lit _ => 1
  | .nil => 1
  | .ptr d => uptoBulk d + 1
  | .slice elems spare => uptoBulkAll elems + uptoBulkAll spare + 1
  | .agg parts => uptoBulkAll parts + 1
  | .iface _ d => uptoBulk d + 1
  | .map entries => uptoBulkEntries entries + 1
  | .held _ => 1
def uptoBulkAll {H : Type} : List (DataW H) → Nat
  | [] => 0
  | d :: r => uptoBulk d + uptoBulkAll r
def uptoBulkEntries {H : Type} : List (Lit × DataW H) → Nat
  | [] => 0
  | x :: r => uptoBulkEntry x + uptoBulkEntries r
def uptoBulkEntry {H : Type} : Lit × DataW H → Nat
  | (.string bytes, d) => bytes.length + uptoBulk d + 1
  | (_, d) => uptoBulk d + 1
 end
def uptoSmall : (H : Type) → List (DataW H) → Bool := fun _ ds => decide (uptoBulkAll ds ≤ 1048576)
def OpenSpec.upto (s : _root_.Go.ChangeSpec) : _root_.Go.OpenSpec := { _root_.Go.OpenSpec.ofChange s with cond := some uptoSmall }

/-- 'laws.FnExactTransposeMatrix', WHERE WHAT IT READS IS OF BULK AT MOST 1048576: true; the input reads as it did. -/
def fnExactTransposeMatrixUptoRow : OpenClaim := { program := "ytafeognjplphhaa", sum := "75bdb621fc5c998a5dfd56853b690d6448f8b4e8df0cecea211b2784a2655205", func := "loop.example/g03109/laws.FnExactTransposeMatrix", spec := "fnExactTransposeMatrix", apart := false, narrowed := true }
def FnExactTransposeMatrixUptoSaid : Prop := fnExactTransposeMatrixUptoRow.holds Try.pinned (OpenSpec.upto fnExactTransposeMatrixSpec)

/-- 'laws.FnExactSolveMatrix', WHERE WHAT IT READS IS OF BULK AT MOST 1048576: true; the input reads as it did. -/
def fnExactSolveMatrixUptoRow : OpenClaim := { program := "ytafeognjplphhaa", sum := "75bdb621fc5c998a5dfd56853b690d6448f8b4e8df0cecea211b2784a2655205", func := "loop.example/g03109/laws.FnExactSolveMatrix", spec := "fnExactSolveMatrix", apart := false, narrowed := true }
def FnExactSolveMatrixUptoSaid : Prop := fnExactSolveMatrixUptoRow.holds Try.pinned (OpenSpec.upto fnExactSolveMatrixSpec)

/-- 'laws.FnExactInverseMatrix', WHERE WHAT IT READS IS OF BULK AT MOST 1048576: true; the input reads as it did. -/
def fnExactInverseMatrixUptoRow : OpenClaim := { program := "ytafeognjplphhaa", sum := "75bdb621fc5c998a5dfd56853b690d6448f8b4e8df0cecea211b2784a2655205", func := "loop.example/g03109/laws.FnExactInverseMatrix", spec := "fnExactInverseMatrix", apart := false, narrowed := true }
def FnExactInverseMatrixUptoSaid : Prop := fnExactInverseMatrixUptoRow.holds Try.pinned (OpenSpec.upto fnExactInverseMatrixSpec)

/-- 'laws.FnExactKernelOf', WHERE WHAT IT READS IS OF BULK AT MOST 1048576: true; the input reads as it did. -/
def fnExactKernelOfUptoRow : OpenClaim := { program := "ytafeognjplphhaa", sum := "75bdb621fc5c998a5dfd56853b690d6448f8b4e8df0cecea211b2784a2655205", func := "loop.example/g03109/laws.FnExactKernelOf", spec := "fnExactKernelOf", apart := false, narrowed := true }
def FnExactKernelOfUptoSaid : Prop := fnExactKernelOfUptoRow.holds Try.pinned (OpenSpec.upto fnExactKernelOfSpec)

/-- 'laws.FnExactMeetSpaces', WHERE WHAT IT READS IS OF BULK AT MOST 1048576: true; the input reads as it did. -/
def fnExactMeetSpacesUptoRow : OpenClaim := { program := "ytafeognjplphhaa", sum := "75bdb621fc5c998a5dfd56853b690d6448f8b4e8df0cecea211b2784a2655205", func := "loop.example/g03109/laws.FnExactMeetSpaces", spec := "fnExactMeetSpaces", unfollowed := true, recurses := true, apart := false, narrowed := true }
def FnExactMeetSpacesUptoSaid : Prop := fnExactMeetSpacesUptoRow.holds Try.pinned (OpenSpec.upto fnExactMeetSpacesSpec)

/-- 'laws.FnExactCoordinatesIn', WHERE WHAT IT READS IS OF BULK AT MOST 1048576: true; the input reads as it did. -/
def fnExactCoordinatesInUptoRow : OpenClaim := { program := "ytafeognjplphhaa", sum := "75bdb621fc5c998a5dfd56853b690d6448f8b4e8df0cecea211b2784a2655205", func := "loop.example/g03109/laws.FnExactCoordinatesIn", spec := "fnExactCoordinatesIn", unfollowed := true, recurses := true, apart := false, narrowed := true }
def FnExactCoordinatesInUptoSaid : Prop := fnExactCoordinatesInUptoRow.holds Try.pinned (OpenSpec.upto fnExactCoordinatesInSpec)

/-- 'laws.FnExactIsSubspace', WHERE WHAT IT READS IS OF BULK AT MOST 1048576: true; the input reads as it did. -/
def fnExactIsSubspaceUptoRow : OpenClaim := { program := "ytafeognjplphhaa", sum := "75bdb621fc5c998a5dfd56853b690d6448f8b4e8df0cecea211b2784a2655205", func := "loop.example/g03109/laws.FnExactIsSubspace", spec := "fnExactIsSubspace", unfollowed := true, recurses := true, apart := false, narrowed := true }
def FnExactIsSubspaceUptoSaid : Prop := fnExactIsSubspaceUptoRow.holds Try.pinned (OpenSpec.upto fnExactIsSubspaceSpec)

/-- 'laws.FnExactAlgebraOk', WHERE WHAT IT READS IS OF BULK AT MOST 1048576: true; the input reads as it did. -/
def fnExactAlgebraOkUptoRow : OpenClaim := { program := "ytafeognjplphhaa", sum := "75bdb621fc5c998a5dfd56853b690d6448f8b4e8df0cecea211b2784a2655205", func := "loop.example/g03109/laws.FnExactAlgebraOk", spec := "fnExactAlgebraOk", unfollowed := true, recurses := true, apart := false, narrowed := true }
def FnExactAlgebraOkUptoSaid : Prop := fnExactAlgebraOkUptoRow.holds Try.pinned (OpenSpec.upto fnExactAlgebraOkSpec)

/-- 'laws.FnExactAbelianAlgebra', WHERE WHAT IT READS IS OF BULK AT MOST 1048576: true; the input reads as it did. -/
def fnExactAbelianAlgebraUptoRow : OpenClaim := { program := "ytafeognjplphhaa", sum := "75bdb621fc5c998a5dfd56853b690d6448f8b4e8df0cecea211b2784a2655205", func := "loop.example/g03109/laws.FnExactAbelianAlgebra", spec := "fnExactAbelianAlgebra", apart := false, narrowed := true }
def FnExactAbelianAlgebraUptoSaid : Prop := fnExactAbelianAlgebraUptoRow.holds Try.pinned (OpenSpec.upto fnExactAbelianAlgebraSpec)

/-- 'laws.FnExactEqualAlgebras', WHERE WHAT IT READS IS OF BULK AT MOST 1048576: true; the input reads as it did. -/
def fnExactEqualAlgebrasUptoRow : OpenClaim := { program := "ytafeognjplphhaa", sum := "75bdb621fc5c998a5dfd56853b690d6448f8b4e8df0cecea211b2784a2655205", func := "loop.example/g03109/laws.FnExactEqualAlgebras", spec := "fnExactEqualAlgebras", unfollowed := true, recurses := true, apart := false, narrowed := true }
def FnExactEqualAlgebrasUptoSaid : Prop := fnExactEqualAlgebrasUptoRow.holds Try.pinned (OpenSpec.upto fnExactEqualAlgebrasSpec)

/-- 'laws.FnExactBracketOf', WHERE WHAT IT READS IS OF BULK AT MOST 1048576: true; the input reads as it did. -/
def fnExactBracketOfUptoRow : OpenClaim := { program := "ytafeognjplphhaa", sum := "75bdb621fc5c998a5dfd56853b690d6448f8b4e8df0cecea211b2784a2655205", func := "loop.example/g03109/laws.FnExactBracketOf", spec := "fnExactBracketOf", unfollowed := true, recurses := true, apart := false, narrowed := true }
def FnExactBracketOfUptoSaid : Prop := fnExactBracketOfUptoRow.holds Try.pinned (OpenSpec.upto fnExactBracketOfSpec)

/-- 'laws.FnExactAdjointOf', WHERE WHAT IT READS IS OF BULK AT MOST 1048576: true; the input reads as it did. -/
def fnExactAdjointOfUptoRow : OpenClaim := { program := "ytafeognjplphhaa", sum := "75bdb621fc5c998a5dfd56853b690d6448f8b4e8df0cecea211b2784a2655205", func := "loop.example/g03109/laws.FnExactAdjointOf", spec := "fnExactAdjointOf", unfollowed := true, recurses := true, apart := false, narrowed := true }
def FnExactAdjointOfUptoSaid : Prop := fnExactAdjointOfUptoRow.holds Try.pinned (OpenSpec.upto fnExactAdjointOfSpec)

end Rows
end Go.Proofs.Ytafeognjplphhaa
