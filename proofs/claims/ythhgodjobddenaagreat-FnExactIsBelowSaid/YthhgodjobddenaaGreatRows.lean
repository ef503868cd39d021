/-
  No cell of these rows narrows 'for every input' (looked for: loops, veiled, ifaces, maps, wideKeys, modest, calm, conditions, laid).
  DERIVED. THE GIVEN ROWS OF THIS SEAT. 11 by the template 'for every input the law returns true; each argument reads behind the call as it read before'; 0 by the template 'total and deterministic' (their statements: YthhgodjobddenaaGreatTotals.lean).
  GIVEN WITH THE SEED: the statements are not yours to turn. If you find one false, say at which input.
  Laid BY PROGRAM, IN A SANDBOX (cutbox-rows.mjs): the forced cells as the released guide's own fill.sh prints them over the translation dee13a3b29a3c8ea… (all of the seat's roots in one cut). By AI agents, Wed Nov 11 2026. No macro, syntax, notation, axiom, sorry.
-/
import Derived.Test.YthhgodjobddenaaGreatChecked
import GoSem.Claim
import GoSem.ClaimJoined
import GoSem.ClaimMapViews
import Derived.JoinedTies
import Derived.KernelRfl
namespace Go.Proofs.YthhgodjobddenaaGreat
/- THE CELL 'sum', in the pinned program and in every row, IS THE sha256 OF THE DUMP (.gsa) THAT YthhgodjobddenaaGreatProg.lean LOADS. Nothing in Lean hashes anything: it is a label: what it is worth is what the hold of that sum in a sandbox is worth. -/
noncomputable def Tryz.pinned : Pinned := { name := "ythhgodjobddenaagreat", sum := "dee13a3b29a3c8ea76f5076a60a2a192285c79a4bb806e5c22042697a2e8c6bf", checked := Tryz.checked }
namespace Rows
def none {H : Type} : Left H := { results := [], args := [] }

/-- 'laws.FnExactLongestWord': WHATEVER THE INPUT: true; the input reads as it did. -/
def fnExactLongestWordSpec : ChangeSpec := { name := "fnExactLongestWord", fn := fun _ => fun
  | [d] => { results := [.lit (.bool true)], args := [d] }
  | _ => none }
def fnExactLongestWordRow : OpenClaim := { program := "ythhgodjobddenaagreat", sum := "dee13a3b29a3c8ea76f5076a60a2a192285c79a4bb806e5c22042697a2e8c6bf", func := "loop.example/g03109/laws.FnExactLongestWord", spec := "fnExactLongestWord", unfollowed := true, recurses := true, apart := false }
def FnExactLongestWordSaid : Prop := fnExactLongestWordRow.holds Tryz.pinned (OpenSpec.ofChange fnExactLongestWordSpec)

/-- ITS FALSE NEIGHBOUR: 'it returns false'. Refute it at one input. -/
def fnExactLongestWordWrong : ChangeSpec := { name := "fnExactLongestWord", fn := fun _ => fun
  | [d] => { results := [.lit (.bool false)], args := [d] }
  | _ => none }
def FnExactLongestWordWrongFalsely : Prop := fnExactLongestWordRow.holds Tryz.pinned (OpenSpec.ofChange fnExactLongestWordWrong)

/-- 'laws.FnExactActWeight': WHATEVER THE INPUT: true; the input reads as it did. -/
def fnExactActWeightSpec : ChangeSpec := { name := "fnExactActWeight", fn := fun _ => fun
  | [d1, d2, d3] => { results := [.lit (.bool true)], args := [d1, d2, d3] }
  | _ => none }
def fnExactActWeightRow : OpenClaim := { program := "ythhgodjobddenaagreat", sum := "dee13a3b29a3c8ea76f5076a60a2a192285c79a4bb806e5c22042697a2e8c6bf", func := "loop.example/g03109/laws.FnExactActWeight", spec := "fnExactActWeight", unfollowed := true, recurses := true, apart := false }
def FnExactActWeightSaid : Prop := fnExactActWeightRow.holds Tryz.pinned (OpenSpec.ofChange fnExactActWeightSpec)

/-- ITS FALSE NEIGHBOUR: 'it returns false'. Refute it at one input. -/
def fnExactActWeightWrong : ChangeSpec := { name := "fnExactActWeight", fn := fun _ => fun
  | [d1, d2, d3] => { results := [.lit (.bool false)], args := [d1, d2, d3] }
  | _ => none }
def FnExactActWeightWrongFalsely : Prop := fnExactActWeightRow.holds Tryz.pinned (OpenSpec.ofChange fnExactActWeightWrong)

/-- 'laws.FnExactActRoot': WHATEVER THE INPUT: true; the input reads as it did. -/
def fnExactActRootSpec : ChangeSpec := { name := "fnExactActRoot", fn := fun _ => fun
  | [d1, d2, d3] => { results := [.lit (.bool true)], args := [d1, d2, d3] }
  | _ => none }
def fnExactActRootRow : OpenClaim := { program := "ythhgodjobddenaagreat", sum := "dee13a3b29a3c8ea76f5076a60a2a192285c79a4bb806e5c22042697a2e8c6bf", func := "loop.example/g03109/laws.FnExactActRoot", spec := "fnExactActRoot", unfollowed := true, recurses := true, apart := false }
def FnExactActRootSaid : Prop := fnExactActRootRow.holds Tryz.pinned (OpenSpec.ofChange fnExactActRootSpec)

/-- ITS FALSE NEIGHBOUR: 'it returns false'. Refute it at one input. -/
def fnExactActRootWrong : ChangeSpec := { name := "fnExactActRoot", fn := fun _ => fun
  | [d1, d2, d3] => { results := [.lit (.bool false)], args := [d1, d2, d3] }
  | _ => none }
def FnExactActRootWrongFalsely : Prop := fnExactActRootRow.holds Tryz.pinned (OpenSpec.ofChange fnExactActRootWrong)

/-- 'laws.FnExactSameElement': WHATEVER THE INPUT: true; the input reads as it did. -/
def fnExactSameElementSpec : ChangeSpec := { name := "fnExactSameElement", fn := fun _ => fun
  | [d1, d2, d3] => { results := [.lit (.bool true)], args := [d1, d2, d3] }
  | _ => none }
def fnExactSameElementRow : OpenClaim := { program := "ythhgodjobddenaagreat", sum := "dee13a3b29a3c8ea76f5076a60a2a192285c79a4bb806e5c22042697a2e8c6bf", func := "loop.example/g03109/laws.FnExactSameElement", spec := "fnExactSameElement", unfollowed := true, recurses := true, apart := false }
def FnExactSameElementSaid : Prop := fnExactSameElementRow.holds Tryz.pinned (OpenSpec.ofChange fnExactSameElementSpec)

/-- ITS FALSE NEIGHBOUR: 'it returns false'. Refute it at one input. -/
def fnExactSameElementWrong : ChangeSpec := { name := "fnExactSameElement", fn := fun _ => fun
  | [d1, d2, d3] => { results := [.lit (.bool false)], args := [d1, d2, d3] }
  | _ => none }
def FnExactSameElementWrongFalsely : Prop := fnExactSameElementRow.holds Tryz.pinned (OpenSpec.ofChange fnExactSameElementWrong)

/-- 'laws.FnExactNormalWord': WHATEVER THE INPUT: true; the input reads as it did. -/
def fnExactNormalWordSpec : ChangeSpec := { name := "fnExactNormalWord", fn := fun _ => fun
  | [d1, d2] => { results := [.lit (.bool true)], args := [d1, d2] }
  | _ => none }
def fnExactNormalWordRow : OpenClaim := { program := "ythhgodjobddenaagreat", sum := "dee13a3b29a3c8ea76f5076a60a2a192285c79a4bb806e5c22042697a2e8c6bf", func := "loop.example/g03109/laws.FnExactNormalWord", spec := "fnExactNormalWord", unfollowed := true, recurses := true, apart := false }
def FnExactNormalWordSaid : Prop := fnExactNormalWordRow.holds Tryz.pinned (OpenSpec.ofChange fnExactNormalWordSpec)

/-- ITS FALSE NEIGHBOUR: 'it returns false'. Refute it at one input. -/
def fnExactNormalWordWrong : ChangeSpec := { name := "fnExactNormalWord", fn := fun _ => fun
  | [d1, d2] => { results := [.lit (.bool false)], args := [d1, d2] }
  | _ => none }
def FnExactNormalWordWrongFalsely : Prop := fnExactNormalWordRow.holds Tryz.pinned (OpenSpec.ofChange fnExactNormalWordWrong)

/-- 'laws.FnExactInverseWord': WHATEVER THE INPUT: true; the input reads as it did. -/
def fnExactInverseWordSpec : ChangeSpec := { name := "fnExactInverseWord", fn := fun _ => fun
  | [d1, d2] => { results := [.lit (.bool true)], args := [d1, d2] }
  | _ => none }
def fnExactInverseWordRow : OpenClaim := { program := "ythhgodjobddenaagreat", sum := "dee13a3b29a3c8ea76f5076a60a2a192285c79a4bb806e5c22042697a2e8c6bf", func := "loop.example/g03109/laws.FnExactInverseWord", spec := "fnExactInverseWord", unfollowed := true, recurses := true, apart := false }
def FnExactInverseWordSaid : Prop := fnExactInverseWordRow.holds Tryz.pinned (OpenSpec.ofChange fnExactInverseWordSpec)

/-- ITS FALSE NEIGHBOUR: 'it returns false'. Refute it at one input. -/
def fnExactInverseWordWrong : ChangeSpec := { name := "fnExactInverseWord", fn := fun _ => fun
  | [d1, d2] => { results := [.lit (.bool false)], args := [d1, d2] }
  | _ => none }
def FnExactInverseWordWrongFalsely : Prop := fnExactInverseWordRow.holds Tryz.pinned (OpenSpec.ofChange fnExactInverseWordWrong)

/-- 'laws.FnExactIsBelow': WHATEVER THE INPUT: true; the input reads as it did. -/
def fnExactIsBelowSpec : ChangeSpec := { name := "fnExactIsBelow", fn := fun _ => fun
  | [d1, d2, d3] => { results := [.lit (.bool true)], args := [d1, d2, d3] }
  | _ => none }
def fnExactIsBelowRow : OpenClaim := { program := "ythhgodjobddenaagreat", sum := "dee13a3b29a3c8ea76f5076a60a2a192285c79a4bb806e5c22042697a2e8c6bf", func := "loop.example/g03109/laws.FnExactIsBelow", spec := "fnExactIsBelow", unfollowed := true, recurses := true, apart := false }
def FnExactIsBelowSaid : Prop := fnExactIsBelowRow.holds Tryz.pinned (OpenSpec.ofChange fnExactIsBelowSpec)

/-- ITS FALSE NEIGHBOUR: 'it returns false'. Refute it at one input. -/
def fnExactIsBelowWrong : ChangeSpec := { name := "fnExactIsBelow", fn := fun _ => fun
  | [d1, d2, d3] => { results := [.lit (.bool false)], args := [d1, d2, d3] }
  | _ => none }
def FnExactIsBelowWrongFalsely : Prop := fnExactIsBelowRow.holds Tryz.pinned (OpenSpec.ofChange fnExactIsBelowWrong)

/-- 'laws.FnExactLengthCounts': WHATEVER THE INPUT: true; the input reads as it did. -/
def fnExactLengthCountsSpec : ChangeSpec := { name := "fnExactLengthCounts", fn := fun _ => fun
  | [d] => { results := [.lit (.bool true)], args := [d] }
  | _ => none }
def fnExactLengthCountsRow : OpenClaim := { program := "ythhgodjobddenaagreat", sum := "dee13a3b29a3c8ea76f5076a60a2a192285c79a4bb806e5c22042697a2e8c6bf", func := "loop.example/g03109/laws.FnExactLengthCounts", spec := "fnExactLengthCounts", unfollowed := true, recurses := true, apart := false }
def FnExactLengthCountsSaid : Prop := fnExactLengthCountsRow.holds Tryz.pinned (OpenSpec.ofChange fnExactLengthCountsSpec)

/-- ITS FALSE NEIGHBOUR: 'it returns false'. Refute it at one input. -/
def fnExactLengthCountsWrong : ChangeSpec := { name := "fnExactLengthCounts", fn := fun _ => fun
  | [d] => { results := [.lit (.bool false)], args := [d] }
  | _ => none }
def FnExactLengthCountsWrongFalsely : Prop := fnExactLengthCountsRow.holds Tryz.pinned (OpenSpec.ofChange fnExactLengthCountsWrong)

/-- 'laws.FnExactWeylOrder': WHATEVER THE INPUT: true; the input reads as it did. -/
def fnExactWeylOrderSpec : ChangeSpec := { name := "fnExactWeylOrder", fn := fun _ => fun
  | [d] => { results := [.lit (.bool true)], args := [d] }
  | _ => none }
def fnExactWeylOrderRow : OpenClaim := { program := "ythhgodjobddenaagreat", sum := "dee13a3b29a3c8ea76f5076a60a2a192285c79a4bb806e5c22042697a2e8c6bf", func := "loop.example/g03109/laws.FnExactWeylOrder", spec := "fnExactWeylOrder", unfollowed := true, recurses := true, apart := false }
def FnExactWeylOrderSaid : Prop := fnExactWeylOrderRow.holds Tryz.pinned (OpenSpec.ofChange fnExactWeylOrderSpec)

/-- ITS FALSE NEIGHBOUR: 'it returns false'. Refute it at one input. -/
def fnExactWeylOrderWrong : ChangeSpec := { name := "fnExactWeylOrder", fn := fun _ => fun
  | [d] => { results := [.lit (.bool false)], args := [d] }
  | _ => none }
def FnExactWeylOrderWrongFalsely : Prop := fnExactWeylOrderRow.holds Tryz.pinned (OpenSpec.ofChange fnExactWeylOrderWrong)

/-- 'laws.FnExactInversionsOf': WHATEVER THE INPUT: true; the input reads as it did. -/
def fnExactInversionsOfSpec : ChangeSpec := { name := "fnExactInversionsOf", fn := fun _ => fun
  | [d1, d2] => { results := [.lit (.bool true)], args := [d1, d2] }
  | _ => none }
def fnExactInversionsOfRow : OpenClaim := { program := "ythhgodjobddenaagreat", sum := "dee13a3b29a3c8ea76f5076a60a2a192285c79a4bb806e5c22042697a2e8c6bf", func := "loop.example/g03109/laws.FnExactInversionsOf", spec := "fnExactInversionsOf", unfollowed := true, recurses := true, apart := false }
def FnExactInversionsOfSaid : Prop := fnExactInversionsOfRow.holds Tryz.pinned (OpenSpec.ofChange fnExactInversionsOfSpec)

/-- ITS FALSE NEIGHBOUR: 'it returns false'. Refute it at one input. -/
def fnExactInversionsOfWrong : ChangeSpec := { name := "fnExactInversionsOf", fn := fun _ => fun
  | [d1, d2] => { results := [.lit (.bool false)], args := [d1, d2] }
  | _ => none }
def FnExactInversionsOfWrongFalsely : Prop := fnExactInversionsOfRow.holds Tryz.pinned (OpenSpec.ofChange fnExactInversionsOfWrong)

/-- 'laws.FnExactElementsOf': WHATEVER THE INPUT: true; the input reads as it did. -/
def fnExactElementsOfSpec : ChangeSpec := { name := "fnExactElementsOf", fn := fun _ => fun
  | [d1, d2] => { results := [.lit (.bool true)], args := [d1, d2] }
  | _ => none }
def fnExactElementsOfRow : OpenClaim := { program := "ythhgodjobddenaagreat", sum := "dee13a3b29a3c8ea76f5076a60a2a192285c79a4bb806e5c22042697a2e8c6bf", func := "loop.example/g03109/laws.FnExactElementsOf", spec := "fnExactElementsOf", unfollowed := true, recurses := true, apart := false }
def FnExactElementsOfSaid : Prop := fnExactElementsOfRow.holds Tryz.pinned (OpenSpec.ofChange fnExactElementsOfSpec)

/-- ITS FALSE NEIGHBOUR: 'it returns false'. Refute it at one input. -/
def fnExactElementsOfWrong : ChangeSpec := { name := "fnExactElementsOf", fn := fun _ => fun
  | [d1, d2] => { results := [.lit (.bool false)], args := [d1, d2] }
  | _ => none }
def FnExactElementsOfWrongFalsely : Prop := fnExactElementsOfRow.holds Tryz.pinned (OpenSpec.ofChange fnExactElementsOfWrong)

/- THE SECOND FORM. 'bulk': how many values and letters a reading holds, each counted each time it is reached (what is shared counts as often as it is met; a slice's spare places count too). A statement '..UptoSaid' is the law's where the arguments, and the package variables that the reading takes, are together of bulk at most 1048576: NARROWER than '..Said'. Prove '..Said' where nothing that the law and all that it calls make is longer than what came in: it says more and counts as full. Else prove '..UptoSaid'. A law counts once. -/
mutual
def uptoBulk {H : Type} : DataW H → Nat
  | .lit (.string bytes) => bytes.length + 1
  | .lit _ => 1
  | .nil => 1
  | .ptr d => uptoBulk d + 1
  | .slice elems spare => uptoBulkAll elems + uptoBulkAll spare + 1
  | .agg parts => uptoBulkAll parts + 1
  | .iface _ d => uptoBulk d + 1
  | .map entries => uptoBulkEntries entries + 1
  | .held _ => 1
def uptoBulkAll {H : Type} : List (DataW H) → Nat
  | [] => 0
  | d :: r => uptoBulk d + uptoBulkAll r
def uptoBulkEntries {H : Type} : List (Lit × DataW H) → Nat
  | [] => 0
  | x :: r => uptoBulkEntry x + uptoBulkEntries r
def uptoBulkEntry {H : Type} : Lit × DataW H → Nat
  | (.string bytes, d) => bytes.length + uptoBulk d + 1
  | (_, d) => uptoBulk d + 1
 end
def uptoSmall : (H : Type) → List (DataW H) → Bool := fun _ ds => decide (uptoBulkAll ds ≤ 1048576)
def OpenSpec.upto (s : _root_.Go.ChangeSpec) : _root_.Go.OpenSpec := { _root_.Go.OpenSpec.ofChange s with cond := some uptoSmall }

/-- 'laws.FnExactLongestWord', WHERE WHAT IT READS IS OF BULK AT MOST 1048576: true; the input reads as it did. -/
def fnExactLongestWordUptoRow : OpenClaim := { program := "ythhgodjobddenaagreat", sum := "dee13a3b29a3c8ea76f5076a60a2a192285c79a4bb806e5c22042697a2e8c6bf", func := "loop.example/g03109/laws.FnExactLongestWord", spec := "fnExactLongestWord", unfollowed := true, recurses := true, apart := false, narrowed := true }
def FnExactLongestWordUptoSaid : Prop := fnExactLongestWordUptoRow.holds Tryz.pinned (OpenSpec.upto fnExactLongestWordSpec)

/-- 'laws.FnExactActWeight', WHERE WHAT IT READS IS OF BULK AT MOST 1048576: true; the input reads as it did. -/
def fnExactActWeightUptoRow : OpenClaim := { program := "ythhgodjobddenaagreat", sum := "dee13a3b29a3c8ea76f5076a60a2a192285c79a4bb806e5c22042697a2e8c6bf", func := "loop.example/g03109/laws.FnExactActWeight", spec := "fnExactActWeight", unfollowed := true, recurses := true, apart := false, narrowed := true }
def FnExactActWeightUptoSaid : Prop := fnExactActWeightUptoRow.holds Tryz.pinned (OpenSpec.upto fnExactActWeightSpec)

/-- 'laws.FnExactActRoot', WHERE WHAT IT READS IS OF BULK AT MOST 1048576: true; the input reads as it did. -/
def fnExactActRootUptoRow : OpenClaim := { program := "ythhgodjobddenaagreat", sum := "dee13a3b29a3c8ea76f5076a60a2a192285c79a4bb806e5c22042697a2e8c6bf", func := "loop.example/g03109/laws.FnExactActRoot", spec := "fnExactActRoot", unfollowed := true, recurses := true, apart := false, narrowed := true }
def FnExactActRootUptoSaid : Prop := fnExactActRootUptoRow.holds Tryz.pinned (OpenSpec.upto fnExactActRootSpec)

/-- 'laws.FnExactSameElement', WHERE WHAT IT READS IS OF BULK AT MOST 1048576: true; the input reads as it did. -/
def fnExactSameElementUptoRow : OpenClaim := { program := "ythhgodjobddenaagreat", sum := "dee13a3b29a3c8ea76f5076a60a2a192285c79a4bb806e5c22042697a2e8c6bf", func := "loop.example/g03109/laws.FnExactSameElement", spec := "fnExactSameElement", unfollowed := true, recurses := true, apart := false, narrowed := true }
def FnExactSameElementUptoSaid : Prop := fnExactSameElementUptoRow.holds Tryz.pinned (OpenSpec.upto fnExactSameElementSpec)

/-- 'laws.FnExactNormalWord', WHERE WHAT IT READS IS OF BULK AT MOST 1048576: true; the input reads as it did. -/
def fnExactNormalWordUptoRow : OpenClaim := { program := "ythhgodjobddenaagreat", sum := "dee13a3b29a3c8ea76f5076a60a2a192285c79a4bb806e5c22042697a2e8c6bf", func := "loop.example/g03109/laws.FnExactNormalWord", spec := "fnExactNormalWord", unfollowed := true, recurses := true, apart := false, narrowed := true }
def FnExactNormalWordUptoSaid : Prop := fnExactNormalWordUptoRow.holds Tryz.pinned (OpenSpec.upto fnExactNormalWordSpec)

/-- 'laws.FnExactInverseWord', WHERE WHAT IT READS IS OF BULK AT MOST 1048576: true; the input reads as it did. -/
def fnExactInverseWordUptoRow : OpenClaim := { program := "ythhgodjobddenaagreat", sum := "dee13a3b29a3c8ea76f5076a60a2a192285c79a4bb806e5c22042697a2e8c6bf", func := "loop.example/g03109/laws.FnExactInverseWord", spec := "fnExactInverseWord", unfollowed := true, recurses := true, apart := false, narrowed := true }
def FnExactInverseWordUptoSaid : Prop := fnExactInverseWordUptoRow.holds Tryz.pinned (OpenSpec.upto fnExactInverseWordSpec)

/-- 'laws.FnExactIsBelow', WHERE WHAT IT READS IS OF BULK AT MOST 1048576: true; the input reads as it did. -/
def fnExactIsBelowUptoRow : OpenClaim := { program := "ythhgodjobddenaagreat", sum := "dee13a3b29a3c8ea76f5076a60a2a192285c79a4bb806e5c22042697a2e8c6bf", func := "loop.example/g03109/laws.FnExactIsBelow", spec := "fnExactIsBelow", unfollowed := true, recurses := true, apart := false, narrowed := true }
def FnExactIsBelowUptoSaid : Prop := fnExactIsBelowUptoRow.holds Tryz.pinned (OpenSpec.upto fnExactIsBelowSpec)

/-- 'laws.FnExactLengthCounts', WHERE WHAT IT READS IS OF BULK AT MOST 1048576: true; the input reads as it did. -/
def fnExactLengthCountsUptoRow : OpenClaim := { program := "ythhgodjobddenaagreat", sum := "dee13a3b29a3c8ea76f5076a60a2a192285c79a4bb806e5c22042697a2e8c6bf", func := "loop.example/g03109/laws.FnExactLengthCounts", spec := "fnExactLengthCounts", unfollowed := true, recurses := true, apart := false, narrowed := true }
def FnExactLengthCountsUptoSaid : Prop := fnExactLengthCountsUptoRow.holds Tryz.pinned (OpenSpec.upto fnExactLengthCountsSpec)

/-- 'laws.FnExactWeylOrder', WHERE WHAT IT READS IS OF BULK AT MOST 1048576: true; the input reads as it did. -/
def fnExactWeylOrderUptoRow : OpenClaim := { program := "ythhgodjobddenaagreat", sum := "dee13a3b29a3c8ea76f5076a60a2a192285c79a4bb806e5c22042697a2e8c6bf", func := "loop.example/g03109/laws.FnExactWeylOrder", spec := "fnExactWeylOrder", unfollowed := true, recurses := true, apart := false, narrowed := true }
def FnExactWeylOrderUptoSaid : Prop := fnExactWeylOrderUptoRow.holds Tryz.pinned (OpenSpec.upto fnExactWeylOrderSpec)

/-- 'laws.FnExactInversionsOf', WHERE WHAT IT READS IS OF BULK AT MOST 1048576: true; the input reads as it did. -/
def fnExactInversionsOfUptoRow : OpenClaim := { program := "ythhgodjobddenaagreat", sum := "dee13a3b29a3c8ea76f5076a60a2a192285c79a4bb806e5c22042697a2e8c6bf", func := "loop.example/g03109/laws.FnExactInversionsOf", spec := "fnExactInversionsOf", unfollowed := true, recurses := true, apart := false, narrowed := true }
def FnExactInversionsOfUptoSaid : Prop := fnExactInversionsOfUptoRow.holds Tryz.pinned (OpenSpec.upto fnExactInversionsOfSpec)

/-- 'laws.FnExactElementsOf', WHERE WHAT IT READS IS OF BULK AT MOST 1048576: true; the input reads as it did. -/
def fnExactElementsOfUptoRow : OpenClaim := { program := "ythhgodjobddenaagreat", sum := "dee13a3b29a3c8ea76f5076a60a2a192285c79a4bb806e5c22042697a2e8c6bf", func := "loop.example/g03109/laws.FnExactElementsOf", spec := "fnExactElementsOf", unfollowed := true, recurses := true, apart := false, narrowed := true }
def FnExactElementsOfUptoSaid : Prop := fnExactElementsOfUptoRow.holds Tryz.pinned (OpenSpec.upto fnExactElementsOfSpec)

end Rows
end Go.Proofs.YthhgodjobddenaaGreat
