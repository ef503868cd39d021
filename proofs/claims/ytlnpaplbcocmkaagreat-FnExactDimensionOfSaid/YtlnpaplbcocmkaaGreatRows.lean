/-
  No cell of these rows narrows 'for every input' (looked for: loops, veiled, ifaces, maps, wideKeys, modest, calm, conditions, laid).
  DERIVED. THE GIVEN ROWS OF THIS SEAT. 12 by the template 'for every input the law returns true; each argument reads behind the call as it read before'; 0 by the template 'total and deterministic' (their statements: YtlnpaplbcocmkaaGreatTotals.lean).
  GIVEN WITH THE SEED: the statements are not yours to turn. If you find one false, say at which input.
  Laid BY PROGRAM, IN A SANDBOX (cutbox-rows.mjs): the forced cells as the released guide's own fill.sh prints them over the translation 92ba5c84219d5457… (all of the seat's roots in one cut). By AI agents, Wed Nov 11 2026. No macro, syntax, notation, axiom, sorry.
-/
import Derived.Test.YtlnpaplbcocmkaaGreatChecked
import GoSem.Claim
import GoSem.ClaimJoined
import GoSem.ClaimMapViews
import Derived.JoinedTies
import Derived.KernelRfl
namespace Go.Proofs.YtlnpaplbcocmkaaGreat
/- THE CELL 'sum', in the pinned program and in every row, IS THE sha256 OF THE DUMP (.gsa) THAT YtlnpaplbcocmkaaGreatProg.lean LOADS. Nothing in Lean hashes anything: it is a label: what it is worth is what the hold of that sum in a sandbox is worth. -/
noncomputable def Tryz.pinned : Pinned := { name := "ytlnpaplbcocmkaagreat", sum := "92ba5c84219d5457e9d5e7b3007e5c2691fd646fd6f58ebc85ade3614999c725", checked := Tryz.checked }
namespace Rows
def none {H : Type} : Left H := { results := [], args := [] }

/-- 'laws.FnExactWeylOrder': WHATEVER THE INPUT: true; the input reads as it did. -/
def fnExactWeylOrderSpec : ChangeSpec := { name := "fnExactWeylOrder", fn := fun _ => fun
  | [d] => { results := [.lit (.bool true)], args := [d] }
  | _ => none }
def fnExactWeylOrderRow : OpenClaim := { program := "ytlnpaplbcocmkaagreat", sum := "92ba5c84219d5457e9d5e7b3007e5c2691fd646fd6f58ebc85ade3614999c725", func := "loop.example/g03109/laws.FnExactWeylOrder", spec := "fnExactWeylOrder", unfollowed := true, recurses := true, apart := false }
def FnExactWeylOrderSaid : Prop := fnExactWeylOrderRow.holds Tryz.pinned (OpenSpec.ofChange fnExactWeylOrderSpec)

/-- ITS FALSE NEIGHBOUR: 'it returns false'. Refute it at one input. -/
def fnExactWeylOrderWrong : ChangeSpec := { name := "fnExactWeylOrder", fn := fun _ => fun
  | [d] => { results := [.lit (.bool false)], args := [d] }
  | _ => none }
def FnExactWeylOrderWrongFalsely : Prop := fnExactWeylOrderRow.holds Tryz.pinned (OpenSpec.ofChange fnExactWeylOrderWrong)

/-- 'laws.FnExactLengthCounts': WHATEVER THE INPUT: true; the input reads as it did. -/
def fnExactLengthCountsSpec : ChangeSpec := { name := "fnExactLengthCounts", fn := fun _ => fun
  | [d] => { results := [.lit (.bool true)], args := [d] }
  | _ => none }
def fnExactLengthCountsRow : OpenClaim := { program := "ytlnpaplbcocmkaagreat", sum := "92ba5c84219d5457e9d5e7b3007e5c2691fd646fd6f58ebc85ade3614999c725", func := "loop.example/g03109/laws.FnExactLengthCounts", spec := "fnExactLengthCounts", unfollowed := true, recurses := true, apart := false }
def FnExactLengthCountsSaid : Prop := fnExactLengthCountsRow.holds Tryz.pinned (OpenSpec.ofChange fnExactLengthCountsSpec)

/-- ITS FALSE NEIGHBOUR: 'it returns false'. Refute it at one input. -/
def fnExactLengthCountsWrong : ChangeSpec := { name := "fnExactLengthCounts", fn := fun _ => fun
  | [d] => { results := [.lit (.bool false)], args := [d] }
  | _ => none }
def FnExactLengthCountsWrongFalsely : Prop := fnExactLengthCountsRow.holds Tryz.pinned (OpenSpec.ofChange fnExactLengthCountsWrong)

/-- 'laws.FnExactElementsOf': WHATEVER THE INPUT: true; the input reads as it did. -/
def fnExactElementsOfSpec : ChangeSpec := { name := "fnExactElementsOf", fn := fun _ => fun
  | [d1, d2] => { results := [.lit (.bool true)], args := [d1, d2] }
  | _ => none }
def fnExactElementsOfRow : OpenClaim := { program := "ytlnpaplbcocmkaagreat", sum := "92ba5c84219d5457e9d5e7b3007e5c2691fd646fd6f58ebc85ade3614999c725", func := "loop.example/g03109/laws.FnExactElementsOf", spec := "fnExactElementsOf", unfollowed := true, recurses := true, apart := false }
def FnExactElementsOfSaid : Prop := fnExactElementsOfRow.holds Tryz.pinned (OpenSpec.ofChange fnExactElementsOfSpec)

/-- ITS FALSE NEIGHBOUR: 'it returns false'. Refute it at one input. -/
def fnExactElementsOfWrong : ChangeSpec := { name := "fnExactElementsOf", fn := fun _ => fun
  | [d1, d2] => { results := [.lit (.bool false)], args := [d1, d2] }
  | _ => none }
def FnExactElementsOfWrongFalsely : Prop := fnExactElementsOfRow.holds Tryz.pinned (OpenSpec.ofChange fnExactElementsOfWrong)

/-- 'laws.FnExactLevelOf': WHATEVER THE INPUT: true; the input reads as it did. -/
def fnExactLevelOfSpec : ChangeSpec := { name := "fnExactLevelOf", fn := fun _ => fun
  | [d1, d2] => { results := [.lit (.bool true)], args := [d1, d2] }
  | _ => none }
def fnExactLevelOfRow : OpenClaim := { program := "ytlnpaplbcocmkaagreat", sum := "92ba5c84219d5457e9d5e7b3007e5c2691fd646fd6f58ebc85ade3614999c725", func := "loop.example/g03109/laws.FnExactLevelOf", spec := "fnExactLevelOf", unfollowed := true, recurses := true, apart := false }
def FnExactLevelOfSaid : Prop := fnExactLevelOfRow.holds Tryz.pinned (OpenSpec.ofChange fnExactLevelOfSpec)

/-- ITS FALSE NEIGHBOUR: 'it returns false'. Refute it at one input. -/
def fnExactLevelOfWrong : ChangeSpec := { name := "fnExactLevelOf", fn := fun _ => fun
  | [d1, d2] => { results := [.lit (.bool false)], args := [d1, d2] }
  | _ => none }
def FnExactLevelOfWrongFalsely : Prop := fnExactLevelOfRow.holds Tryz.pinned (OpenSpec.ofChange fnExactLevelOfWrong)

/-- 'laws.FnExactDualWeight': WHATEVER THE INPUT: true; the input reads as it did. -/
def fnExactDualWeightSpec : ChangeSpec := { name := "fnExactDualWeight", fn := fun _ => fun
  | [d1, d2] => { results := [.lit (.bool true)], args := [d1, d2] }
  | _ => none }
def fnExactDualWeightRow : OpenClaim := { program := "ytlnpaplbcocmkaagreat", sum := "92ba5c84219d5457e9d5e7b3007e5c2691fd646fd6f58ebc85ade3614999c725", func := "loop.example/g03109/laws.FnExactDualWeight", spec := "fnExactDualWeight", unfollowed := true, recurses := true, apart := false }
def FnExactDualWeightSaid : Prop := fnExactDualWeightRow.holds Tryz.pinned (OpenSpec.ofChange fnExactDualWeightSpec)

/-- ITS FALSE NEIGHBOUR: 'it returns false'. Refute it at one input. -/
def fnExactDualWeightWrong : ChangeSpec := { name := "fnExactDualWeight", fn := fun _ => fun
  | [d1, d2] => { results := [.lit (.bool false)], args := [d1, d2] }
  | _ => none }
def FnExactDualWeightWrongFalsely : Prop := fnExactDualWeightRow.holds Tryz.pinned (OpenSpec.ofChange fnExactDualWeightWrong)

/-- 'laws.FnExactCharacterOk': WHATEVER THE INPUT: true; the input reads as it did. -/
def fnExactCharacterOkSpec : ChangeSpec := { name := "fnExactCharacterOk", fn := fun _ => fun
  | [d1, d2] => { results := [.lit (.bool true)], args := [d1, d2] }
  | _ => none }
def fnExactCharacterOkRow : OpenClaim := { program := "ytlnpaplbcocmkaagreat", sum := "92ba5c84219d5457e9d5e7b3007e5c2691fd646fd6f58ebc85ade3614999c725", func := "loop.example/g03109/laws.FnExactCharacterOk", spec := "fnExactCharacterOk", unfollowed := true, recurses := true, apart := false }
def FnExactCharacterOkSaid : Prop := fnExactCharacterOkRow.holds Tryz.pinned (OpenSpec.ofChange fnExactCharacterOkSpec)

/-- ITS FALSE NEIGHBOUR: 'it returns false'. Refute it at one input. -/
def fnExactCharacterOkWrong : ChangeSpec := { name := "fnExactCharacterOk", fn := fun _ => fun
  | [d1, d2] => { results := [.lit (.bool false)], args := [d1, d2] }
  | _ => none }
def FnExactCharacterOkWrongFalsely : Prop := fnExactCharacterOkRow.holds Tryz.pinned (OpenSpec.ofChange fnExactCharacterOkWrong)

/-- 'laws.FnExactDimensionOf': WHATEVER THE INPUT: true; the input reads as it did. -/
def fnExactDimensionOfSpec : ChangeSpec := { name := "fnExactDimensionOf", fn := fun _ => fun
  | [d1, d2] => { results := [.lit (.bool true)], args := [d1, d2] }
  | _ => none }
def fnExactDimensionOfRow : OpenClaim := { program := "ytlnpaplbcocmkaagreat", sum := "92ba5c84219d5457e9d5e7b3007e5c2691fd646fd6f58ebc85ade3614999c725", func := "loop.example/g03109/laws.FnExactDimensionOf", spec := "fnExactDimensionOf", unfollowed := true, recurses := true, apart := false }
def FnExactDimensionOfSaid : Prop := fnExactDimensionOfRow.holds Tryz.pinned (OpenSpec.ofChange fnExactDimensionOfSpec)

/-- ITS FALSE NEIGHBOUR: 'it returns false'. Refute it at one input. -/
def fnExactDimensionOfWrong : ChangeSpec := { name := "fnExactDimensionOf", fn := fun _ => fun
  | [d1, d2] => { results := [.lit (.bool false)], args := [d1, d2] }
  | _ => none }
def FnExactDimensionOfWrongFalsely : Prop := fnExactDimensionOfRow.holds Tryz.pinned (OpenSpec.ofChange fnExactDimensionOfWrong)

/-- 'laws.FnExactOrbitOf': WHATEVER THE INPUT: true; the input reads as it did. -/
def fnExactOrbitOfSpec : ChangeSpec := { name := "fnExactOrbitOf", fn := fun _ => fun
  | [d1, d2] => { results := [.lit (.bool true)], args := [d1, d2] }
  | _ => none }
def fnExactOrbitOfRow : OpenClaim := { program := "ytlnpaplbcocmkaagreat", sum := "92ba5c84219d5457e9d5e7b3007e5c2691fd646fd6f58ebc85ade3614999c725", func := "loop.example/g03109/laws.FnExactOrbitOf", spec := "fnExactOrbitOf", unfollowed := true, recurses := true, apart := false }
def FnExactOrbitOfSaid : Prop := fnExactOrbitOfRow.holds Tryz.pinned (OpenSpec.ofChange fnExactOrbitOfSpec)

/-- ITS FALSE NEIGHBOUR: 'it returns false'. Refute it at one input. -/
def fnExactOrbitOfWrong : ChangeSpec := { name := "fnExactOrbitOf", fn := fun _ => fun
  | [d1, d2] => { results := [.lit (.bool false)], args := [d1, d2] }
  | _ => none }
def FnExactOrbitOfWrongFalsely : Prop := fnExactOrbitOfRow.holds Tryz.pinned (OpenSpec.ofChange fnExactOrbitOfWrong)

/-- 'laws.FnExactStabilizerOrder': WHATEVER THE INPUT: true; the input reads as it did. -/
def fnExactStabilizerOrderSpec : ChangeSpec := { name := "fnExactStabilizerOrder", fn := fun _ => fun
  | [d1, d2] => { results := [.lit (.bool true)], args := [d1, d2] }
  | _ => none }
def fnExactStabilizerOrderRow : OpenClaim := { program := "ytlnpaplbcocmkaagreat", sum := "92ba5c84219d5457e9d5e7b3007e5c2691fd646fd6f58ebc85ade3614999c725", func := "loop.example/g03109/laws.FnExactStabilizerOrder", spec := "fnExactStabilizerOrder", unfollowed := true, recurses := true, apart := false }
def FnExactStabilizerOrderSaid : Prop := fnExactStabilizerOrderRow.holds Tryz.pinned (OpenSpec.ofChange fnExactStabilizerOrderSpec)

/-- ITS FALSE NEIGHBOUR: 'it returns false'. Refute it at one input. -/
def fnExactStabilizerOrderWrong : ChangeSpec := { name := "fnExactStabilizerOrder", fn := fun _ => fun
  | [d1, d2] => { results := [.lit (.bool false)], args := [d1, d2] }
  | _ => none }
def FnExactStabilizerOrderWrongFalsely : Prop := fnExactStabilizerOrderRow.holds Tryz.pinned (OpenSpec.ofChange fnExactStabilizerOrderWrong)

/-- 'laws.FnExactDimensionBy': WHATEVER THE INPUT: true; the input reads as it did. -/
def fnExactDimensionBySpec : ChangeSpec := { name := "fnExactDimensionBy", fn := fun _ => fun
  | [d1, d2] => { results := [.lit (.bool true)], args := [d1, d2] }
  | _ => none }
def fnExactDimensionByRow : OpenClaim := { program := "ytlnpaplbcocmkaagreat", sum := "92ba5c84219d5457e9d5e7b3007e5c2691fd646fd6f58ebc85ade3614999c725", func := "loop.example/g03109/laws.FnExactDimensionBy", spec := "fnExactDimensionBy", unfollowed := true, recurses := true, apart := false }
def FnExactDimensionBySaid : Prop := fnExactDimensionByRow.holds Tryz.pinned (OpenSpec.ofChange fnExactDimensionBySpec)

/-- ITS FALSE NEIGHBOUR: 'it returns false'. Refute it at one input. -/
def fnExactDimensionByWrong : ChangeSpec := { name := "fnExactDimensionBy", fn := fun _ => fun
  | [d1, d2] => { results := [.lit (.bool false)], args := [d1, d2] }
  | _ => none }
def FnExactDimensionByWrongFalsely : Prop := fnExactDimensionByRow.holds Tryz.pinned (OpenSpec.ofChange fnExactDimensionByWrong)

/-- 'laws.FnExactPathOk': WHATEVER THE INPUT: true; the input reads as it did. -/
def fnExactPathOkSpec : ChangeSpec := { name := "fnExactPathOk", fn := fun _ => fun
  | [d1, d2] => { results := [.lit (.bool true)], args := [d1, d2] }
  | _ => none }
def fnExactPathOkRow : OpenClaim := { program := "ytlnpaplbcocmkaagreat", sum := "92ba5c84219d5457e9d5e7b3007e5c2691fd646fd6f58ebc85ade3614999c725", func := "loop.example/g03109/laws.FnExactPathOk", spec := "fnExactPathOk", unfollowed := true, recurses := true, apart := false }
def FnExactPathOkSaid : Prop := fnExactPathOkRow.holds Tryz.pinned (OpenSpec.ofChange fnExactPathOkSpec)

/-- ITS FALSE NEIGHBOUR: 'it returns false'. Refute it at one input. -/
def fnExactPathOkWrong : ChangeSpec := { name := "fnExactPathOk", fn := fun _ => fun
  | [d1, d2] => { results := [.lit (.bool false)], args := [d1, d2] }
  | _ => none }
def FnExactPathOkWrongFalsely : Prop := fnExactPathOkRow.holds Tryz.pinned (OpenSpec.ofChange fnExactPathOkWrong)

/-- 'laws.FnExactEndOf': WHATEVER THE INPUT: true; the input reads as it did. -/
def fnExactEndOfSpec : ChangeSpec := { name := "fnExactEndOf", fn := fun _ => fun
  | [d1, d2] => { results := [.lit (.bool true)], args := [d1, d2] }
  | _ => none }
def fnExactEndOfRow : OpenClaim := { program := "ytlnpaplbcocmkaagreat", sum := "92ba5c84219d5457e9d5e7b3007e5c2691fd646fd6f58ebc85ade3614999c725", func := "loop.example/g03109/laws.FnExactEndOf", spec := "fnExactEndOf", unfollowed := true, recurses := true, apart := false }
def FnExactEndOfSaid : Prop := fnExactEndOfRow.holds Tryz.pinned (OpenSpec.ofChange fnExactEndOfSpec)

/-- ITS FALSE NEIGHBOUR: 'it returns false'. Refute it at one input. -/
def fnExactEndOfWrong : ChangeSpec := { name := "fnExactEndOf", fn := fun _ => fun
  | [d1, d2] => { results := [.lit (.bool false)], args := [d1, d2] }
  | _ => none }
def FnExactEndOfWrongFalsely : Prop := fnExactEndOfRow.holds Tryz.pinned (OpenSpec.ofChange fnExactEndOfWrong)

/- THE SECOND FORM. 'bulk': how many values and letters a reading holds, each counted each time it is reached (what is shared counts as often as it is met; a slice's spare places count too). A statement '..UptoSaid' is the law's where the arguments, and the package variables that the reading takes, are together of bulk at most 1048576: NARROWER than '..Said'. Prove '..Said' where nothing that the law and all that it calls make is longer than what came in: it says more and counts as full. Else prove '..UptoSaid'. A law counts once. -/
mutual
def uptoBulk {H : Type} : DataW H → Nat
  | .lit (.string bytes) => bytes.length + 1
  | .lit _ => 1
  | .nil => 1
  | .ptr d => uptoBulk d + 1
  | .slice elems spare => uptoBulkAll elems + uptoBulkAll spare + 1
  | .agg parts => uptoBulkAll parts + 1
  | .iface _ d => uptoBulk d + 1
  | .map entries => uptoBulkEntries entries + 1
  | .held _ => 1
def uptoBulkAll {H : Type} : List (DataW H) → Nat
  | [] => 0
  | d :: r => uptoBulk d + uptoBulkAll r
def uptoBulkEntries {H : Type} : List (Lit × DataW H) → Nat
  | [] => 0
  | x :: r => uptoBulkEntry x + uptoBulkEntries r
def uptoBulkEntry {H : Type} : Lit × DataW H → Nat
  | (.string bytes, d) => bytes.length + uptoBulk d + 1
  | (_, d) => uptoBulk d + 1
 end
def uptoSmall : (H : Type) → List (DataW H) → Bool := fun _ ds => decide (uptoBulkAll ds ≤ 1048576)
def OpenSpec.upto (s : _root_.Go.ChangeSpec) : _root_.Go.OpenSpec := { _root_.Go.OpenSpec.ofChange s with cond := some uptoSmall }

/-- 'laws.FnExactWeylOrder', WHERE WHAT IT READS IS OF BULK AT MOST 1048576: true; the input reads as it did. -/
def fnExactWeylOrderUptoRow : OpenClaim := { program := "ytlnpaplbcocmkaagreat", sum := "92ba5c84219d5457e9d5e7b3007e5c2691fd646fd6f58ebc85ade3614999c725", func := "loop.example/g03109/laws.FnExactWeylOrder", spec := "fnExactWeylOrder", unfollowed := true, recurses := true, apart := false, narrowed := true }
def FnExactWeylOrderUptoSaid : Prop := fnExactWeylOrderUptoRow.holds Tryz.pinned (OpenSpec.upto fnExactWeylOrderSpec)

/-- 'laws.FnExactLengthCounts', WHERE WHAT IT READS IS OF BULK AT MOST 1048576: true; the input reads as it did. -/
def fnExactLengthCountsUptoRow : OpenClaim := { program := "ytlnpaplbcocmkaagreat", sum := "92ba5c84219d5457e9d5e7b3007e5c2691fd646fd6f58ebc85ade3614999c725", func := "loop.example/g03109/laws.FnExactLengthCounts", spec := "fnExactLengthCounts", unfollowed := true, recurses := true, apart := false, narrowed := true }
def FnExactLengthCountsUptoSaid : Prop := fnExactLengthCountsUptoRow.holds Tryz.pinned (OpenSpec.upto fnExactLengthCountsSpec)

/-- 'laws.FnExactElementsOf', WHERE WHAT IT READS IS OF BULK AT MOST 1048576: true; the input reads as it did. -/
def fnExactElementsOfUptoRow : OpenClaim := { program := "ytlnpaplbcocmkaagreat", sum := "92ba5c84219d5457e9d5e7b3007e5c2691fd646fd6f58ebc85ade3614999c725", func := "loop.example/g03109/laws.FnExactElementsOf", spec := "fnExactElementsOf", unfollowed := true, recurses := true, apart := false, narrowed := true }
def FnExactElementsOfUptoSaid : Prop := fnExactElementsOfUptoRow.holds Tryz.pinned (OpenSpec.upto fnExactElementsOfSpec)

/-- 'laws.FnExactLevelOf', WHERE WHAT IT READS IS OF BULK AT MOST 1048576: true; the input reads as it did. -/
def fnExactLevelOfUptoRow : OpenClaim := { program := "ytlnpaplbcocmkaagreat", sum := "92ba5c84219d5457e9d5e7b3007e5c2691fd646fd6f58ebc85ade3614999c725", func := "loop.example/g03109/laws.FnExactLevelOf", spec := "fnExactLevelOf", unfollowed := true, recurses := true, apart := false, narrowed := true }
def FnExactLevelOfUptoSaid : Prop := fnExactLevelOfUptoRow.holds Tryz.pinned (OpenSpec.upto fnExactLevelOfSpec)

/-- 'laws.FnExactDualWeight', WHERE WHAT IT READS IS OF BULK AT MOST 1048576: true; the input reads as it did. -/
def fnExactDualWeightUptoRow : OpenClaim := { program := "ytlnpaplbcocmkaagreat", sum := "92ba5c84219d5457e9d5e7b3007e5c2691fd646fd6f58ebc85ade3614999c725", func := "loop.example/g03109/laws.FnExactDualWeight", spec := "fnExactDualWeight", unfollowed := true, recurses := true, apart := false, narrowed := true }
def FnExactDualWeightUptoSaid : Prop := fnExactDualWeightUptoRow.holds Tryz.pinned (OpenSpec.upto fnExactDualWeightSpec)

/-- 'laws.FnExactCharacterOk', WHERE WHAT IT READS IS OF BULK AT MOST 1048576: true; the input reads as it did. -/
def fnExactCharacterOkUptoRow : OpenClaim := { program := "ytlnpaplbcocmkaagreat", sum := "92ba5c84219d5457e9d5e7b3007e5c2691fd646fd6f58ebc85ade3614999c725", func := "loop.example/g03109/laws.FnExactCharacterOk", spec := "fnExactCharacterOk", unfollowed := true, recurses := true, apart := false, narrowed := true }
def FnExactCharacterOkUptoSaid : Prop := fnExactCharacterOkUptoRow.holds Tryz.pinned (OpenSpec.upto fnExactCharacterOkSpec)

/-- 'laws.FnExactDimensionOf', WHERE WHAT IT READS IS OF BULK AT MOST 1048576: true; the input reads as it did. -/
def fnExactDimensionOfUptoRow : OpenClaim := { program := "ytlnpaplbcocmkaagreat", sum := "92ba5c84219d5457e9d5e7b3007e5c2691fd646fd6f58ebc85ade3614999c725", func := "loop.example/g03109/laws.FnExactDimensionOf", spec := "fnExactDimensionOf", unfollowed := true, recurses := true, apart := false, narrowed := true }
def FnExactDimensionOfUptoSaid : Prop := fnExactDimensionOfUptoRow.holds Tryz.pinned (OpenSpec.upto fnExactDimensionOfSpec)

/-- 'laws.FnExactOrbitOf', WHERE WHAT IT READS IS OF BULK AT MOST 1048576: true; the input reads as it did. -/
def fnExactOrbitOfUptoRow : OpenClaim := { program := "ytlnpaplbcocmkaagreat", sum := "92ba5c84219d5457e9d5e7b3007e5c2691fd646fd6f58ebc85ade3614999c725", func := "loop.example/g03109/laws.FnExactOrbitOf", spec := "fnExactOrbitOf", unfollowed := true, recurses := true, apart := false, narrowed := true }
def FnExactOrbitOfUptoSaid : Prop := fnExactOrbitOfUptoRow.holds Tryz.pinned (OpenSpec.upto fnExactOrbitOfSpec)

/-- 'laws.FnExactStabilizerOrder', WHERE WHAT IT READS IS OF BULK AT MOST 1048576: true; the input reads as it did. -/
def fnExactStabilizerOrderUptoRow : OpenClaim := { program := "ytlnpaplbcocmkaagreat", sum := "92ba5c84219d5457e9d5e7b3007e5c2691fd646fd6f58ebc85ade3614999c725", func := "loop.example/g03109/laws.FnExactStabilizerOrder", spec := "fnExactStabilizerOrder", unfollowed := true, recurses := true, apart := false, narrowed := true }
def FnExactStabilizerOrderUptoSaid : Prop := fnExactStabilizerOrderUptoRow.holds Tryz.pinned (OpenSpec.upto fnExactStabilizerOrderSpec)

/-- 'laws.FnExactDimensionBy', WHERE WHAT IT READS IS OF BULK AT MOST 1048576: true; the input reads as it did. -/
def fnExactDimensionByUptoRow : OpenClaim := { program := "ytlnpaplbcocmkaagreat", sum := "92ba5c84219d5457e9d5e7b3007e5c2691fd646fd6f58ebc85ade3614999c725", func := "loop.example/g03109/laws.FnExactDimensionBy", spec := "fnExactDimensionBy", unfollowed := true, recurses := true, apart := false, narrowed := true }
def FnExactDimensionByUptoSaid : Prop := fnExactDimensionByUptoRow.holds Tryz.pinned (OpenSpec.upto fnExactDimensionBySpec)

/-- 'laws.FnExactPathOk', WHERE WHAT IT READS IS OF BULK AT MOST 1048576: true; the input reads as it did. -/
def fnExactPathOkUptoRow : OpenClaim := { program := "ytlnpaplbcocmkaagreat", sum := "92ba5c84219d5457e9d5e7b3007e5c2691fd646fd6f58ebc85ade3614999c725", func := "loop.example/g03109/laws.FnExactPathOk", spec := "fnExactPathOk", unfollowed := true, recurses := true, apart := false, narrowed := true }
def FnExactPathOkUptoSaid : Prop := fnExactPathOkUptoRow.holds Tryz.pinned (OpenSpec.upto fnExactPathOkSpec)

/-- 'laws.FnExactEndOf', WHERE WHAT IT READS IS OF BULK AT MOST 1048576: true; the input reads as it did. -/
def fnExactEndOfUptoRow : OpenClaim := { program := "ytlnpaplbcocmkaagreat", sum := "92ba5c84219d5457e9d5e7b3007e5c2691fd646fd6f58ebc85ade3614999c725", func := "loop.example/g03109/laws.FnExactEndOf", spec := "fnExactEndOf", unfollowed := true, recurses := true, apart := false, narrowed := true }
def FnExactEndOfUptoSaid : Prop := fnExactEndOfUptoRow.holds Tryz.pinned (OpenSpec.upto fnExactEndOfSpec)

end Rows
end Go.Proofs.YtlnpaplbcocmkaaGreat
