/-
  No cell of these rows narrows 'for every input' (looked for: loops, veiled, ifaces, maps, wideKeys, modest, calm, conditions, laid).
  DERIVED. THE GIVEN ROWS OF THIS SEAT. 12 by the template 'for every input the law returns true; each argument reads behind the call as it read before'; 0 by the template 'total and deterministic' (their statements: YtgmipolgnpjmnaaTotals.lean).
  GIVEN WITH THE SEED: the statements are not yours to turn. If you find one false, say at which input.
  Laid BY PROGRAM, IN A SANDBOX (cutbox-rows.mjs): the forced cells as the released guide's own fill.sh prints them over the translation 6604b7a1957fcc25… (all of the seat's roots in one cut). By AI agents, Wed Nov 11 2026. No macro, syntax, notation, axiom, sorry.
-/
import Derived.Test.YtgmipolgnpjmnaaChecked
import GoSem.Claim
import GoSem.ClaimJoined
import GoSem.ClaimMapViews
import Derived.JoinedTies
import Derived.KernelRfl
namespace Go.Proofs.Ytgmipolgnpjmnaa
/- THE CELL 'sum', in the pinned program and in every row, IS THE sha256 OF THE DUMP (.gsa) THAT YtgmipolgnpjmnaaProg.lean LOADS. Nothing in Lean hashes anything: it is a label: what it is worth is what the hold of that sum in a sandbox is worth. -/
noncomputable def Try.pinned : Pinned := { name := "ytgmipolgnpjmnaa", sum := "6604b7a1957fcc251ca7efa26325287033b0af9b0e24273b50c80122f1037da5", checked := Try.checked }
namespace Rows
def none {H : Type} : Left H := { results := [], args := [] }

/-- 'laws.FnExactSumAlgebras': WHATEVER THE INPUT: true; the input reads as it did. -/
def fnExactSumAlgebrasSpec : ChangeSpec := { name := "fnExactSumAlgebras", fn := fun _ => fun
  | [d1, d2] => { results := [.lit (.bool true)], args := [d1, d2] }
  | _ => none }
def fnExactSumAlgebrasRow : OpenClaim := { program := "ytgmipolgnpjmnaa", sum := "6604b7a1957fcc251ca7efa26325287033b0af9b0e24273b50c80122f1037da5", func := "loop.example/g03109/laws.FnExactSumAlgebras", spec := "fnExactSumAlgebras", unfollowed := true, recurses := true, apart := false }
def FnExactSumAlgebrasSaid : Prop := fnExactSumAlgebrasRow.holds Try.pinned (OpenSpec.ofChange fnExactSumAlgebrasSpec)

/-- ITS FALSE NEIGHBOUR: 'it returns false'. Refute it at one input. -/
def fnExactSumAlgebrasWrong : ChangeSpec := { name := "fnExactSumAlgebras", fn := fun _ => fun
  | [d1, d2] => { results := [.lit (.bool false)], args := [d1, d2] }
  | _ => none }
def FnExactSumAlgebrasWrongFalsely : Prop := fnExactSumAlgebrasRow.holds Try.pinned (OpenSpec.ofChange fnExactSumAlgebrasWrong)

/-- 'laws.FnExactProductSpace': WHATEVER THE INPUT: true; the input reads as it did. -/
def fnExactProductSpaceSpec : ChangeSpec := { name := "fnExactProductSpace", fn := fun _ => fun
  | [d1, d2, d3] => { results := [.lit (.bool true)], args := [d1, d2, d3] }
  | _ => none }
def fnExactProductSpaceRow : OpenClaim := { program := "ytgmipolgnpjmnaa", sum := "6604b7a1957fcc251ca7efa26325287033b0af9b0e24273b50c80122f1037da5", func := "loop.example/g03109/laws.FnExactProductSpace", spec := "fnExactProductSpace", unfollowed := true, recurses := true, apart := false }
def FnExactProductSpaceSaid : Prop := fnExactProductSpaceRow.holds Try.pinned (OpenSpec.ofChange fnExactProductSpaceSpec)

/-- ITS FALSE NEIGHBOUR: 'it returns false'. Refute it at one input. -/
def fnExactProductSpaceWrong : ChangeSpec := { name := "fnExactProductSpace", fn := fun _ => fun
  | [d1, d2, d3] => { results := [.lit (.bool false)], args := [d1, d2, d3] }
  | _ => none }
def FnExactProductSpaceWrongFalsely : Prop := fnExactProductSpaceRow.holds Try.pinned (OpenSpec.ofChange fnExactProductSpaceWrong)

/-- 'laws.FnExactIsPerfect': WHATEVER THE INPUT: true; the input reads as it did. -/
def fnExactIsPerfectSpec : ChangeSpec := { name := "fnExactIsPerfect", fn := fun _ => fun
  | [d] => { results := [.lit (.bool true)], args := [d] }
  | _ => none }
def fnExactIsPerfectRow : OpenClaim := { program := "ytgmipolgnpjmnaa", sum := "6604b7a1957fcc251ca7efa26325287033b0af9b0e24273b50c80122f1037da5", func := "loop.example/g03109/laws.FnExactIsPerfect", spec := "fnExactIsPerfect", unfollowed := true, recurses := true, apart := false }
def FnExactIsPerfectSaid : Prop := fnExactIsPerfectRow.holds Try.pinned (OpenSpec.ofChange fnExactIsPerfectSpec)

/-- ITS FALSE NEIGHBOUR: 'it returns false'. Refute it at one input. -/
def fnExactIsPerfectWrong : ChangeSpec := { name := "fnExactIsPerfect", fn := fun _ => fun
  | [d] => { results := [.lit (.bool false)], args := [d] }
  | _ => none }
def FnExactIsPerfectWrongFalsely : Prop := fnExactIsPerfectRow.holds Try.pinned (OpenSpec.ofChange fnExactIsPerfectWrong)

/-- 'laws.FnExactOrthogonalOf': WHATEVER THE INPUT: true; the input reads as it did. -/
def fnExactOrthogonalOfSpec : ChangeSpec := { name := "fnExactOrthogonalOf", fn := fun _ => fun
  | [d1, d2, d3] => { results := [.lit (.bool true)], args := [d1, d2, d3] }
  | _ => none }
def fnExactOrthogonalOfRow : OpenClaim := { program := "ytgmipolgnpjmnaa", sum := "6604b7a1957fcc251ca7efa26325287033b0af9b0e24273b50c80122f1037da5", func := "loop.example/g03109/laws.FnExactOrthogonalOf", spec := "fnExactOrthogonalOf", unfollowed := true, recurses := true, apart := false }
def FnExactOrthogonalOfSaid : Prop := fnExactOrthogonalOfRow.holds Try.pinned (OpenSpec.ofChange fnExactOrthogonalOfSpec)

/-- ITS FALSE NEIGHBOUR: 'it returns false'. Refute it at one input. -/
def fnExactOrthogonalOfWrong : ChangeSpec := { name := "fnExactOrthogonalOf", fn := fun _ => fun
  | [d1, d2, d3] => { results := [.lit (.bool false)], args := [d1, d2, d3] }
  | _ => none }
def FnExactOrthogonalOfWrongFalsely : Prop := fnExactOrthogonalOfRow.holds Try.pinned (OpenSpec.ofChange fnExactOrthogonalOfWrong)

/-- 'laws.FnExactExpMatrix': WHATEVER THE INPUT: true; the input reads as it did. -/
def fnExactExpMatrixSpec : ChangeSpec := { name := "fnExactExpMatrix", fn := fun _ => fun
  | [d] => { results := [.lit (.bool true)], args := [d] }
  | _ => none }
def fnExactExpMatrixRow : OpenClaim := { program := "ytgmipolgnpjmnaa", sum := "6604b7a1957fcc251ca7efa26325287033b0af9b0e24273b50c80122f1037da5", func := "loop.example/g03109/laws.FnExactExpMatrix", spec := "fnExactExpMatrix", unfollowed := true, recurses := true, apart := false }
def FnExactExpMatrixSaid : Prop := fnExactExpMatrixRow.holds Try.pinned (OpenSpec.ofChange fnExactExpMatrixSpec)

/-- ITS FALSE NEIGHBOUR: 'it returns false'. Refute it at one input. -/
def fnExactExpMatrixWrong : ChangeSpec := { name := "fnExactExpMatrix", fn := fun _ => fun
  | [d] => { results := [.lit (.bool false)], args := [d] }
  | _ => none }
def FnExactExpMatrixWrongFalsely : Prop := fnExactExpMatrixRow.holds Try.pinned (OpenSpec.ofChange fnExactExpMatrixWrong)

/-- 'laws.FnExactIsSubalgebra': WHATEVER THE INPUT: true; the input reads as it did. -/
def fnExactIsSubalgebraSpec : ChangeSpec := { name := "fnExactIsSubalgebra", fn := fun _ => fun
  | [d1, d2] => { results := [.lit (.bool true)], args := [d1, d2] }
  | _ => none }
def fnExactIsSubalgebraRow : OpenClaim := { program := "ytgmipolgnpjmnaa", sum := "6604b7a1957fcc251ca7efa26325287033b0af9b0e24273b50c80122f1037da5", func := "loop.example/g03109/laws.FnExactIsSubalgebra", spec := "fnExactIsSubalgebra", unfollowed := true, recurses := true, apart := false }
def FnExactIsSubalgebraSaid : Prop := fnExactIsSubalgebraRow.holds Try.pinned (OpenSpec.ofChange fnExactIsSubalgebraSpec)

/-- ITS FALSE NEIGHBOUR: 'it returns false'. Refute it at one input. -/
def fnExactIsSubalgebraWrong : ChangeSpec := { name := "fnExactIsSubalgebra", fn := fun _ => fun
  | [d1, d2] => { results := [.lit (.bool false)], args := [d1, d2] }
  | _ => none }
def FnExactIsSubalgebraWrongFalsely : Prop := fnExactIsSubalgebraRow.holds Try.pinned (OpenSpec.ofChange fnExactIsSubalgebraWrong)

/-- 'laws.FnExactIsIdeal': WHATEVER THE INPUT: true; the input reads as it did. -/
def fnExactIsIdealSpec : ChangeSpec := { name := "fnExactIsIdeal", fn := fun _ => fun
  | [d1, d2] => { results := [.lit (.bool true)], args := [d1, d2] }
  | _ => none }
def fnExactIsIdealRow : OpenClaim := { program := "ytgmipolgnpjmnaa", sum := "6604b7a1957fcc251ca7efa26325287033b0af9b0e24273b50c80122f1037da5", func := "loop.example/g03109/laws.FnExactIsIdeal", spec := "fnExactIsIdeal", unfollowed := true, recurses := true, apart := false }
def FnExactIsIdealSaid : Prop := fnExactIsIdealRow.holds Try.pinned (OpenSpec.ofChange fnExactIsIdealSpec)

/-- ITS FALSE NEIGHBOUR: 'it returns false'. Refute it at one input. -/
def fnExactIsIdealWrong : ChangeSpec := { name := "fnExactIsIdeal", fn := fun _ => fun
  | [d1, d2] => { results := [.lit (.bool false)], args := [d1, d2] }
  | _ => none }
def FnExactIsIdealWrongFalsely : Prop := fnExactIsIdealRow.holds Try.pinned (OpenSpec.ofChange fnExactIsIdealWrong)

/-- 'laws.FnExactCentreOf': WHATEVER THE INPUT: true; the input reads as it did. -/
def fnExactCentreOfSpec : ChangeSpec := { name := "fnExactCentreOf", fn := fun _ => fun
  | [d] => { results := [.lit (.bool true)], args := [d] }
  | _ => none }
def fnExactCentreOfRow : OpenClaim := { program := "ytgmipolgnpjmnaa", sum := "6604b7a1957fcc251ca7efa26325287033b0af9b0e24273b50c80122f1037da5", func := "loop.example/g03109/laws.FnExactCentreOf", spec := "fnExactCentreOf", unfollowed := true, recurses := true, apart := false }
def FnExactCentreOfSaid : Prop := fnExactCentreOfRow.holds Try.pinned (OpenSpec.ofChange fnExactCentreOfSpec)

/-- ITS FALSE NEIGHBOUR: 'it returns false'. Refute it at one input. -/
def fnExactCentreOfWrong : ChangeSpec := { name := "fnExactCentreOf", fn := fun _ => fun
  | [d] => { results := [.lit (.bool false)], args := [d] }
  | _ => none }
def FnExactCentreOfWrongFalsely : Prop := fnExactCentreOfRow.holds Try.pinned (OpenSpec.ofChange fnExactCentreOfWrong)

/-- 'laws.FnExactCentralizerOf': WHATEVER THE INPUT: true; the input reads as it did. -/
def fnExactCentralizerOfSpec : ChangeSpec := { name := "fnExactCentralizerOf", fn := fun _ => fun
  | [d1, d2] => { results := [.lit (.bool true)], args := [d1, d2] }
  | _ => none }
def fnExactCentralizerOfRow : OpenClaim := { program := "ytgmipolgnpjmnaa", sum := "6604b7a1957fcc251ca7efa26325287033b0af9b0e24273b50c80122f1037da5", func := "loop.example/g03109/laws.FnExactCentralizerOf", spec := "fnExactCentralizerOf", unfollowed := true, recurses := true, apart := false }
def FnExactCentralizerOfSaid : Prop := fnExactCentralizerOfRow.holds Try.pinned (OpenSpec.ofChange fnExactCentralizerOfSpec)

/-- ITS FALSE NEIGHBOUR: 'it returns false'. Refute it at one input. -/
def fnExactCentralizerOfWrong : ChangeSpec := { name := "fnExactCentralizerOf", fn := fun _ => fun
  | [d1, d2] => { results := [.lit (.bool false)], args := [d1, d2] }
  | _ => none }
def FnExactCentralizerOfWrongFalsely : Prop := fnExactCentralizerOfRow.holds Try.pinned (OpenSpec.ofChange fnExactCentralizerOfWrong)

/-- 'laws.FnExactNormalizerOf': WHATEVER THE INPUT: true; the input reads as it did. -/
def fnExactNormalizerOfSpec : ChangeSpec := { name := "fnExactNormalizerOf", fn := fun _ => fun
  | [d1, d2] => { results := [.lit (.bool true)], args := [d1, d2] }
  | _ => none }
def fnExactNormalizerOfRow : OpenClaim := { program := "ytgmipolgnpjmnaa", sum := "6604b7a1957fcc251ca7efa26325287033b0af9b0e24273b50c80122f1037da5", func := "loop.example/g03109/laws.FnExactNormalizerOf", spec := "fnExactNormalizerOf", unfollowed := true, recurses := true, apart := false }
def FnExactNormalizerOfSaid : Prop := fnExactNormalizerOfRow.holds Try.pinned (OpenSpec.ofChange fnExactNormalizerOfSpec)

/-- ITS FALSE NEIGHBOUR: 'it returns false'. Refute it at one input. -/
def fnExactNormalizerOfWrong : ChangeSpec := { name := "fnExactNormalizerOf", fn := fun _ => fun
  | [d1, d2] => { results := [.lit (.bool false)], args := [d1, d2] }
  | _ => none }
def FnExactNormalizerOfWrongFalsely : Prop := fnExactNormalizerOfRow.holds Try.pinned (OpenSpec.ofChange fnExactNormalizerOfWrong)

/-- 'laws.FnExactIsHomomorphism': WHATEVER THE INPUT: true; the input reads as it did. -/
def fnExactIsHomomorphismSpec : ChangeSpec := { name := "fnExactIsHomomorphism", fn := fun _ => fun
  | [d1, d2, d3] => { results := [.lit (.bool true)], args := [d1, d2, d3] }
  | _ => none }
def fnExactIsHomomorphismRow : OpenClaim := { program := "ytgmipolgnpjmnaa", sum := "6604b7a1957fcc251ca7efa26325287033b0af9b0e24273b50c80122f1037da5", func := "loop.example/g03109/laws.FnExactIsHomomorphism", spec := "fnExactIsHomomorphism", unfollowed := true, recurses := true, apart := false }
def FnExactIsHomomorphismSaid : Prop := fnExactIsHomomorphismRow.holds Try.pinned (OpenSpec.ofChange fnExactIsHomomorphismSpec)

/-- ITS FALSE NEIGHBOUR: 'it returns false'. Refute it at one input. -/
def fnExactIsHomomorphismWrong : ChangeSpec := { name := "fnExactIsHomomorphism", fn := fun _ => fun
  | [d1, d2, d3] => { results := [.lit (.bool false)], args := [d1, d2, d3] }
  | _ => none }
def FnExactIsHomomorphismWrongFalsely : Prop := fnExactIsHomomorphismRow.holds Try.pinned (OpenSpec.ofChange fnExactIsHomomorphismWrong)

/-- 'laws.FnExactKillingForm': WHATEVER THE INPUT: true; the input reads as it did. -/
def fnExactKillingFormSpec : ChangeSpec := { name := "fnExactKillingForm", fn := fun _ => fun
  | [d] => { results := [.lit (.bool true)], args := [d] }
  | _ => none }
def fnExactKillingFormRow : OpenClaim := { program := "ytgmipolgnpjmnaa", sum := "6604b7a1957fcc251ca7efa26325287033b0af9b0e24273b50c80122f1037da5", func := "loop.example/g03109/laws.FnExactKillingForm", spec := "fnExactKillingForm", unfollowed := true, recurses := true, apart := false }
def FnExactKillingFormSaid : Prop := fnExactKillingFormRow.holds Try.pinned (OpenSpec.ofChange fnExactKillingFormSpec)

/-- ITS FALSE NEIGHBOUR: 'it returns false'. Refute it at one input. -/
def fnExactKillingFormWrong : ChangeSpec := { name := "fnExactKillingForm", fn := fun _ => fun
  | [d] => { results := [.lit (.bool false)], args := [d] }
  | _ => none }
def FnExactKillingFormWrongFalsely : Prop := fnExactKillingFormRow.holds Try.pinned (OpenSpec.ofChange fnExactKillingFormWrong)

/- THE SECOND FORM. 'bulk': how many values and letters a reading holds, each counted each time it is reached (what is shared counts as often as it is met; a slice's spare places count too). A statement '..UptoSaid' is the law's where the arguments, and the package variables that the reading takes, are together of bulk at most 1048576: NARROWER than '..Said'. Prove '..Said' where nothing that the law and all that it calls make is longer than what came in: it says more and counts as full. Else prove '..UptoSaid'. A law counts once. -/
mutual
def uptoBulk {H : Type} : DataW H → Nat
  | .lit (.string bytes) => bytes.length + 1
  | .lit _ => 1
  | .nil => 1
  | .ptr d => uptoBulk d + 1
  | .slice elems spare => uptoBulkAll elems + uptoBulkAll spare + 1
  | .agg parts => uptoBulkAll parts + 1
  | .iface _ d => uptoBulk d + 1
  | .map entries => uptoBulkEntries entries + 1
  | .held _ => 1
def uptoBulkAll {H : Type} : List (DataW H) → Nat
  | [] => 0
  | d :: r => uptoBulk d + uptoBulkAll r
def uptoBulkEntries {H : Type} : List (Lit × DataW H) → Nat
  | [] => 0
  | x :: r => uptoBulkEntry x + uptoBulkEntries r
def uptoBulkEntry {H : Type} : Lit × DataW H → Nat
  | (.string bytes, d) => bytes.length + uptoBulk d + 1
  | (_, d) => uptoBulk d + 1
 end
def uptoSmall : (H : Type) → List (DataW H) → Bool := fun _ ds => decide (uptoBulkAll ds ≤ 1048576)
def OpenSpec.upto (s : _root_.Go.ChangeSpec) : _root_.Go.OpenSpec := { _root_.Go.OpenSpec.ofChange s with cond := some uptoSmall }

/-- 'laws.FnExactSumAlgebras', WHERE WHAT IT READS IS OF BULK AT MOST 1048576: true; the input reads as it did. -/
def fnExactSumAlgebrasUptoRow : OpenClaim := { program := "ytgmipolgnpjmnaa", sum := "6604b7a1957fcc251ca7efa26325287033b0af9b0e24273b50c80122f1037da5", func := "loop.example/g03109/laws.FnExactSumAlgebras", spec := "fnExactSumAlgebras", unfollowed := true, recurses := true, apart := false, narrowed := true }
def FnExactSumAlgebrasUptoSaid : Prop := fnExactSumAlgebrasUptoRow.holds Try.pinned (OpenSpec.upto fnExactSumAlgebrasSpec)

/-- 'laws.FnExactProductSpace', WHERE WHAT IT READS IS OF BULK AT MOST 1048576: true; the input reads as it did. -/
def fnExactProductSpaceUptoRow : OpenClaim := { program := "ytgmipolgnpjmnaa", sum := "6604b7a1957fcc251ca7efa26325287033b0af9b0e24273b50c80122f1037da5", func := "loop.example/g03109/laws.FnExactProductSpace", spec := "fnExactProductSpace", unfollowed := true, recurses := true, apart := false, narrowed := true }
def FnExactProductSpaceUptoSaid : Prop := fnExactProductSpaceUptoRow.holds Try.pinned (OpenSpec.upto fnExactProductSpaceSpec)

/-- 'laws.FnExactIsPerfect', WHERE WHAT IT READS IS OF BULK AT MOST 1048576: true; the input reads as it did. -/
def fnExactIsPerfectUptoRow : OpenClaim := { program := "ytgmipolgnpjmnaa", sum := "6604b7a1957fcc251ca7efa26325287033b0af9b0e24273b50c80122f1037da5", func := "loop.example/g03109/laws.FnExactIsPerfect", spec := "fnExactIsPerfect", unfollowed := true, recurses := true, apart := false, narrowed := true }
def FnExactIsPerfectUptoSaid : Prop := fnExactIsPerfectUptoRow.holds Try.pinned (OpenSpec.upto fnExactIsPerfectSpec)

/-- 'laws.FnExactOrthogonalOf', WHERE WHAT IT READS IS OF BULK AT MOST 1048576: true; the input reads as it did. -/
def fnExactOrthogonalOfUptoRow : OpenClaim := { program := "ytgmipolgnpjmnaa", sum := "6604b7a1957fcc251ca7efa26325287033b0af9b0e24273b50c80122f1037da5", func := "loop.example/g03109/laws.FnExactOrthogonalOf", spec := "fnExactOrthogonalOf", unfollowed := true, recurses := true, apart := false, narrowed := true }
def FnExactOrthogonalOfUptoSaid : Prop := fnExactOrthogonalOfUptoRow.holds Try.pinned (OpenSpec.upto fnExactOrthogonalOfSpec)

/-- 'laws.FnExactExpMatrix', WHERE WHAT IT READS IS OF BULK AT MOST 1048576: true; the input reads as it did. -/
def fnExactExpMatrixUptoRow : OpenClaim := { program := "ytgmipolgnpjmnaa", sum := "6604b7a1957fcc251ca7efa26325287033b0af9b0e24273b50c80122f1037da5", func := "loop.example/g03109/laws.FnExactExpMatrix", spec := "fnExactExpMatrix", unfollowed := true, recurses := true, apart := false, narrowed := true }
def FnExactExpMatrixUptoSaid : Prop := fnExactExpMatrixUptoRow.holds Try.pinned (OpenSpec.upto fnExactExpMatrixSpec)

/-- 'laws.FnExactIsSubalgebra', WHERE WHAT IT READS IS OF BULK AT MOST 1048576: true; the input reads as it did. -/
def fnExactIsSubalgebraUptoRow : OpenClaim := { program := "ytgmipolgnpjmnaa", sum := "6604b7a1957fcc251ca7efa26325287033b0af9b0e24273b50c80122f1037da5", func := "loop.example/g03109/laws.FnExactIsSubalgebra", spec := "fnExactIsSubalgebra", unfollowed := true, recurses := true, apart := false, narrowed := true }
def FnExactIsSubalgebraUptoSaid : Prop := fnExactIsSubalgebraUptoRow.holds Try.pinned (OpenSpec.upto fnExactIsSubalgebraSpec)

/-- 'laws.FnExactIsIdeal', WHERE WHAT IT READS IS OF BULK AT MOST 1048576: true; the input reads as it did. -/
def fnExactIsIdealUptoRow : OpenClaim := { program := "ytgmipolgnpjmnaa", sum := "6604b7a1957fcc251ca7efa26325287033b0af9b0e24273b50c80122f1037da5", func := "loop.example/g03109/laws.FnExactIsIdeal", spec := "fnExactIsIdeal", unfollowed := true, recurses := true, apart := false, narrowed := true }
def FnExactIsIdealUptoSaid : Prop := fnExactIsIdealUptoRow.holds Try.pinned (OpenSpec.upto fnExactIsIdealSpec)

/-- 'laws.FnExactCentreOf', WHERE WHAT IT READS IS OF BULK AT MOST 1048576: true; the input reads as it did. -/
def fnExactCentreOfUptoRow : OpenClaim := { program := "ytgmipolgnpjmnaa", sum := "6604b7a1957fcc251ca7efa26325287033b0af9b0e24273b50c80122f1037da5", func := "loop.example/g03109/laws.FnExactCentreOf", spec := "fnExactCentreOf", unfollowed := true, recurses := true, apart := false, narrowed := true }
def FnExactCentreOfUptoSaid : Prop := fnExactCentreOfUptoRow.holds Try.pinned (OpenSpec.upto fnExactCentreOfSpec)

/-- 'laws.FnExactCentralizerOf', WHERE WHAT IT READS IS OF BULK AT MOST 1048576: true; the input reads as it did. -/
def fnExactCentralizerOfUptoRow : OpenClaim := { program := "ytgmipolgnpjmnaa", sum := "6604b7a1957fcc251ca7efa26325287033b0af9b0e24273b50c80122f1037da5", func := "loop.example/g03109/laws.FnExactCentralizerOf", spec := "fnExactCentralizerOf", unfollowed := true, recurses := true, apart := false, narrowed := true }
def FnExactCentralizerOfUptoSaid : Prop := fnExactCentralizerOfUptoRow.holds Try.pinned (OpenSpec.upto fnExactCentralizerOfSpec)

/-- 'laws.FnExactNormalizerOf', WHERE WHAT IT READS IS OF BULK AT MOST 1048576: true; the input reads as it did. -/
def fnExactNormalizerOfUptoRow : OpenClaim := { program := "ytgmipolgnpjmnaa", sum := "6604b7a1957fcc251ca7efa26325287033b0af9b0e24273b50c80122f1037da5", func := "loop.example/g03109/laws.FnExactNormalizerOf", spec := "fnExactNormalizerOf", unfollowed := true, recurses := true, apart := false, narrowed := true }
def FnExactNormalizerOfUptoSaid : Prop := fnExactNormalizerOfUptoRow.holds Try.pinned (OpenSpec.upto fnExactNormalizerOfSpec)

/-- 'laws.FnExactIsHomomorphism', WHERE WHAT IT READS IS OF BULK AT MOST 1048576: true; the input reads as it did. -/
def fnExactIsHomomorphismUptoRow : OpenClaim := { program := "ytgmipolgnpjmnaa", sum := "6604b7a1957fcc251ca7efa26325287033b0af9b0e24273b50c80122f1037da5", func := "loop.example/g03109/laws.FnExactIsHomomorphism", spec := "fnExactIsHomomorphism", unfollowed := true, recurses := true, apart := false, narrowed := true }
def FnExactIsHomomorphismUptoSaid : Prop := fnExactIsHomomorphismUptoRow.holds Try.pinned (OpenSpec.upto fnExactIsHomomorphismSpec)

/-- 'laws.FnExactKillingForm', WHERE WHAT IT READS IS OF BULK AT MOST 1048576: true; the input reads as it did. -/
def fnExactKillingFormUptoRow : OpenClaim := { program := "ytgmipolgnpjmnaa", sum := "6604b7a1957fcc251ca7efa26325287033b0af9b0e24273b50c80122f1037da5", func := "loop.example/g03109/laws.FnExactKillingForm", spec := "fnExactKillingForm", unfollowed := true, recurses := true, apart := false, narrowed := true }
def FnExactKillingFormUptoSaid : Prop := fnExactKillingFormUptoRow.holds Try.pinned (OpenSpec.upto fnExactKillingFormSpec)

end Rows
end Go.Proofs.Ytgmipolgnpjmnaa
