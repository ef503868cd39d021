/-
  No cell of these rows narrows 'for every input' (looked for: loops, veiled, ifaces, maps, wideKeys, modest, calm, conditions, laid).
  DERIVED. THE GIVEN ROWS OF THIS SEAT. 12 by the template 'for every input the law returns true; each argument reads behind the call as it read before'; 0 by the template 'total and deterministic' (their statements: YtkbpigpanookjaaTotals.lean).
  GIVEN WITH THE SEED: the statements are not yours to turn. If you find one false, say at which input.
  Laid BY PROGRAM, IN A SANDBOX (cutbox-rows.mjs): the forced cells as the released guide's own fill.sh prints them over the translation 2b01ab16803eb882… (all of the seat's roots in one cut). By AI agents, Wed Nov 11 2026. No macro, syntax, notation, axiom, sorry.
-/
import Derived.Test.YtkbpigpanookjaaChecked
import GoSem.Claim
import GoSem.ClaimJoined
import GoSem.ClaimMapViews
import Derived.JoinedTies
import Derived.KernelRfl
namespace Go.Proofs.Ytkbpigpanookjaa
/- THE CELL 'sum', in the pinned program and in every row, IS THE sha256 OF THE DUMP (.gsa) THAT YtkbpigpanookjaaProg.lean LOADS. Nothing in Lean hashes anything: it is a label: what it is worth is what the hold of that sum in a sandbox is worth. -/
noncomputable def Try.pinned : Pinned := { name := "ytkbpigpanookjaa", sum := "2b01ab16803eb8823a906c48d981e75d8dfb1a44e4a631f121608b380e66bddf", checked := Try.checked }
namespace Rows
def none {H : Type} : Left H := { results := [], args := [] }

/-- 'laws.FnExactIsUnimodular': WHATEVER THE INPUT: true; the input reads as it did. -/
def fnExactIsUnimodularSpec : ChangeSpec := { name := "fnExactIsUnimodular", fn := fun _ => fun
  | [d] => { results := [.lit (.bool true)], args := [d] }
  | _ => none }
def fnExactIsUnimodularRow : OpenClaim := { program := "ytkbpigpanookjaa", sum := "2b01ab16803eb8823a906c48d981e75d8dfb1a44e4a631f121608b380e66bddf", func := "loop.example/g03109/laws.FnExactIsUnimodular", spec := "fnExactIsUnimodular", unfollowed := true, recurses := true, apart := false }
def FnExactIsUnimodularSaid : Prop := fnExactIsUnimodularRow.holds Try.pinned (OpenSpec.ofChange fnExactIsUnimodularSpec)

/-- ITS FALSE NEIGHBOUR: 'it returns false'. Refute it at one input. -/
def fnExactIsUnimodularWrong : ChangeSpec := { name := "fnExactIsUnimodular", fn := fun _ => fun
  | [d] => { results := [.lit (.bool false)], args := [d] }
  | _ => none }
def FnExactIsUnimodularWrongFalsely : Prop := fnExactIsUnimodularRow.holds Try.pinned (OpenSpec.ofChange fnExactIsUnimodularWrong)

/-- 'laws.FnExactDerivedSeries': WHATEVER THE INPUT: true; the input reads as it did. -/
def fnExactDerivedSeriesSpec : ChangeSpec := { name := "fnExactDerivedSeries", fn := fun _ => fun
  | [d] => { results := [.lit (.bool true)], args := [d] }
  | _ => none }
def fnExactDerivedSeriesRow : OpenClaim := { program := "ytkbpigpanookjaa", sum := "2b01ab16803eb8823a906c48d981e75d8dfb1a44e4a631f121608b380e66bddf", func := "loop.example/g03109/laws.FnExactDerivedSeries", spec := "fnExactDerivedSeries", unfollowed := true, recurses := true, apart := false }
def FnExactDerivedSeriesSaid : Prop := fnExactDerivedSeriesRow.holds Try.pinned (OpenSpec.ofChange fnExactDerivedSeriesSpec)

/-- ITS FALSE NEIGHBOUR: 'it returns false'. Refute it at one input. -/
def fnExactDerivedSeriesWrong : ChangeSpec := { name := "fnExactDerivedSeries", fn := fun _ => fun
  | [d] => { results := [.lit (.bool false)], args := [d] }
  | _ => none }
def FnExactDerivedSeriesWrongFalsely : Prop := fnExactDerivedSeriesRow.holds Try.pinned (OpenSpec.ofChange fnExactDerivedSeriesWrong)

/-- 'laws.FnExactLowerSeries': WHATEVER THE INPUT: true; the input reads as it did. -/
def fnExactLowerSeriesSpec : ChangeSpec := { name := "fnExactLowerSeries", fn := fun _ => fun
  | [d] => { results := [.lit (.bool true)], args := [d] }
  | _ => none }
def fnExactLowerSeriesRow : OpenClaim := { program := "ytkbpigpanookjaa", sum := "2b01ab16803eb8823a906c48d981e75d8dfb1a44e4a631f121608b380e66bddf", func := "loop.example/g03109/laws.FnExactLowerSeries", spec := "fnExactLowerSeries", unfollowed := true, recurses := true, apart := false }
def FnExactLowerSeriesSaid : Prop := fnExactLowerSeriesRow.holds Try.pinned (OpenSpec.ofChange fnExactLowerSeriesSpec)

/-- ITS FALSE NEIGHBOUR: 'it returns false'. Refute it at one input. -/
def fnExactLowerSeriesWrong : ChangeSpec := { name := "fnExactLowerSeries", fn := fun _ => fun
  | [d] => { results := [.lit (.bool false)], args := [d] }
  | _ => none }
def FnExactLowerSeriesWrongFalsely : Prop := fnExactLowerSeriesRow.holds Try.pinned (OpenSpec.ofChange fnExactLowerSeriesWrong)

/-- 'laws.FnExactUpperSeries': WHATEVER THE INPUT: true; the input reads as it did. -/
def fnExactUpperSeriesSpec : ChangeSpec := { name := "fnExactUpperSeries", fn := fun _ => fun
  | [d] => { results := [.lit (.bool true)], args := [d] }
  | _ => none }
def fnExactUpperSeriesRow : OpenClaim := { program := "ytkbpigpanookjaa", sum := "2b01ab16803eb8823a906c48d981e75d8dfb1a44e4a631f121608b380e66bddf", func := "loop.example/g03109/laws.FnExactUpperSeries", spec := "fnExactUpperSeries", unfollowed := true, recurses := true, apart := false }
def FnExactUpperSeriesSaid : Prop := fnExactUpperSeriesRow.holds Try.pinned (OpenSpec.ofChange fnExactUpperSeriesSpec)

/-- ITS FALSE NEIGHBOUR: 'it returns false'. Refute it at one input. -/
def fnExactUpperSeriesWrong : ChangeSpec := { name := "fnExactUpperSeries", fn := fun _ => fun
  | [d] => { results := [.lit (.bool false)], args := [d] }
  | _ => none }
def FnExactUpperSeriesWrongFalsely : Prop := fnExactUpperSeriesRow.holds Try.pinned (OpenSpec.ofChange fnExactUpperSeriesWrong)

/-- 'laws.FnExactIsSolvable': WHATEVER THE INPUT: true; the input reads as it did. -/
def fnExactIsSolvableSpec : ChangeSpec := { name := "fnExactIsSolvable", fn := fun _ => fun
  | [d] => { results := [.lit (.bool true)], args := [d] }
  | _ => none }
def fnExactIsSolvableRow : OpenClaim := { program := "ytkbpigpanookjaa", sum := "2b01ab16803eb8823a906c48d981e75d8dfb1a44e4a631f121608b380e66bddf", func := "loop.example/g03109/laws.FnExactIsSolvable", spec := "fnExactIsSolvable", unfollowed := true, recurses := true, apart := false }
def FnExactIsSolvableSaid : Prop := fnExactIsSolvableRow.holds Try.pinned (OpenSpec.ofChange fnExactIsSolvableSpec)

/-- ITS FALSE NEIGHBOUR: 'it returns false'. Refute it at one input. -/
def fnExactIsSolvableWrong : ChangeSpec := { name := "fnExactIsSolvable", fn := fun _ => fun
  | [d] => { results := [.lit (.bool false)], args := [d] }
  | _ => none }
def FnExactIsSolvableWrongFalsely : Prop := fnExactIsSolvableRow.holds Try.pinned (OpenSpec.ofChange fnExactIsSolvableWrong)

/-- 'laws.FnExactClassOf': WHATEVER THE INPUT: true; the input reads as it did. -/
def fnExactClassOfSpec : ChangeSpec := { name := "fnExactClassOf", fn := fun _ => fun
  | [d] => { results := [.lit (.bool true)], args := [d] }
  | _ => none }
def fnExactClassOfRow : OpenClaim := { program := "ytkbpigpanookjaa", sum := "2b01ab16803eb8823a906c48d981e75d8dfb1a44e4a631f121608b380e66bddf", func := "loop.example/g03109/laws.FnExactClassOf", spec := "fnExactClassOf", unfollowed := true, recurses := true, apart := false }
def FnExactClassOfSaid : Prop := fnExactClassOfRow.holds Try.pinned (OpenSpec.ofChange fnExactClassOfSpec)

/-- ITS FALSE NEIGHBOUR: 'it returns false'. Refute it at one input. -/
def fnExactClassOfWrong : ChangeSpec := { name := "fnExactClassOf", fn := fun _ => fun
  | [d] => { results := [.lit (.bool false)], args := [d] }
  | _ => none }
def FnExactClassOfWrongFalsely : Prop := fnExactClassOfRow.holds Try.pinned (OpenSpec.ofChange fnExactClassOfWrong)

/-- 'laws.FnExactIsAutomorphism': WHATEVER THE INPUT: true; the input reads as it did. -/
def fnExactIsAutomorphismSpec : ChangeSpec := { name := "fnExactIsAutomorphism", fn := fun _ => fun
  | [d1, d2] => { results := [.lit (.bool true)], args := [d1, d2] }
  | _ => none }
def fnExactIsAutomorphismRow : OpenClaim := { program := "ytkbpigpanookjaa", sum := "2b01ab16803eb8823a906c48d981e75d8dfb1a44e4a631f121608b380e66bddf", func := "loop.example/g03109/laws.FnExactIsAutomorphism", spec := "fnExactIsAutomorphism", unfollowed := true, recurses := true, apart := false }
def FnExactIsAutomorphismSaid : Prop := fnExactIsAutomorphismRow.holds Try.pinned (OpenSpec.ofChange fnExactIsAutomorphismSpec)

/-- ITS FALSE NEIGHBOUR: 'it returns false'. Refute it at one input. -/
def fnExactIsAutomorphismWrong : ChangeSpec := { name := "fnExactIsAutomorphism", fn := fun _ => fun
  | [d1, d2] => { results := [.lit (.bool false)], args := [d1, d2] }
  | _ => none }
def FnExactIsAutomorphismWrongFalsely : Prop := fnExactIsAutomorphismRow.holds Try.pinned (OpenSpec.ofChange fnExactIsAutomorphismWrong)

/-- 'laws.FnExactInnerDerivations': WHATEVER THE INPUT: true; the input reads as it did. -/
def fnExactInnerDerivationsSpec : ChangeSpec := { name := "fnExactInnerDerivations", fn := fun _ => fun
  | [d] => { results := [.lit (.bool true)], args := [d] }
  | _ => none }
def fnExactInnerDerivationsRow : OpenClaim := { program := "ytkbpigpanookjaa", sum := "2b01ab16803eb8823a906c48d981e75d8dfb1a44e4a631f121608b380e66bddf", func := "loop.example/g03109/laws.FnExactInnerDerivations", spec := "fnExactInnerDerivations", unfollowed := true, recurses := true, apart := false }
def FnExactInnerDerivationsSaid : Prop := fnExactInnerDerivationsRow.holds Try.pinned (OpenSpec.ofChange fnExactInnerDerivationsSpec)

/-- ITS FALSE NEIGHBOUR: 'it returns false'. Refute it at one input. -/
def fnExactInnerDerivationsWrong : ChangeSpec := { name := "fnExactInnerDerivations", fn := fun _ => fun
  | [d] => { results := [.lit (.bool false)], args := [d] }
  | _ => none }
def FnExactInnerDerivationsWrongFalsely : Prop := fnExactInnerDerivationsRow.holds Try.pinned (OpenSpec.ofChange fnExactInnerDerivationsWrong)

/-- 'laws.FnExactIsInvariant': WHATEVER THE INPUT: true; the input reads as it did. -/
def fnExactIsInvariantSpec : ChangeSpec := { name := "fnExactIsInvariant", fn := fun _ => fun
  | [d1, d2] => { results := [.lit (.bool true)], args := [d1, d2] }
  | _ => none }
def fnExactIsInvariantRow : OpenClaim := { program := "ytkbpigpanookjaa", sum := "2b01ab16803eb8823a906c48d981e75d8dfb1a44e4a631f121608b380e66bddf", func := "loop.example/g03109/laws.FnExactIsInvariant", spec := "fnExactIsInvariant", unfollowed := true, recurses := true, apart := false }
def FnExactIsInvariantSaid : Prop := fnExactIsInvariantRow.holds Try.pinned (OpenSpec.ofChange fnExactIsInvariantSpec)

/-- ITS FALSE NEIGHBOUR: 'it returns false'. Refute it at one input. -/
def fnExactIsInvariantWrong : ChangeSpec := { name := "fnExactIsInvariant", fn := fun _ => fun
  | [d1, d2] => { results := [.lit (.bool false)], args := [d1, d2] }
  | _ => none }
def FnExactIsInvariantWrongFalsely : Prop := fnExactIsInvariantRow.holds Try.pinned (OpenSpec.ofChange fnExactIsInvariantWrong)

/-- 'laws.FnExactIsDerivation': WHATEVER THE INPUT: true; the input reads as it did. -/
def fnExactIsDerivationSpec : ChangeSpec := { name := "fnExactIsDerivation", fn := fun _ => fun
  | [d1, d2] => { results := [.lit (.bool true)], args := [d1, d2] }
  | _ => none }
def fnExactIsDerivationRow : OpenClaim := { program := "ytkbpigpanookjaa", sum := "2b01ab16803eb8823a906c48d981e75d8dfb1a44e4a631f121608b380e66bddf", func := "loop.example/g03109/laws.FnExactIsDerivation", spec := "fnExactIsDerivation", unfollowed := true, recurses := true, apart := false }
def FnExactIsDerivationSaid : Prop := fnExactIsDerivationRow.holds Try.pinned (OpenSpec.ofChange fnExactIsDerivationSpec)

/-- ITS FALSE NEIGHBOUR: 'it returns false'. Refute it at one input. -/
def fnExactIsDerivationWrong : ChangeSpec := { name := "fnExactIsDerivation", fn := fun _ => fun
  | [d1, d2] => { results := [.lit (.bool false)], args := [d1, d2] }
  | _ => none }
def FnExactIsDerivationWrongFalsely : Prop := fnExactIsDerivationRow.holds Try.pinned (OpenSpec.ofChange fnExactIsDerivationWrong)

/-- 'laws.FnExactIsCocycle': WHATEVER THE INPUT: true; the input reads as it did. -/
def fnExactIsCocycleSpec : ChangeSpec := { name := "fnExactIsCocycle", fn := fun _ => fun
  | [d1, d2] => { results := [.lit (.bool true)], args := [d1, d2] }
  | _ => none }
def fnExactIsCocycleRow : OpenClaim := { program := "ytkbpigpanookjaa", sum := "2b01ab16803eb8823a906c48d981e75d8dfb1a44e4a631f121608b380e66bddf", func := "loop.example/g03109/laws.FnExactIsCocycle", spec := "fnExactIsCocycle", unfollowed := true, recurses := true, apart := false }
def FnExactIsCocycleSaid : Prop := fnExactIsCocycleRow.holds Try.pinned (OpenSpec.ofChange fnExactIsCocycleSpec)

/-- ITS FALSE NEIGHBOUR: 'it returns false'. Refute it at one input. -/
def fnExactIsCocycleWrong : ChangeSpec := { name := "fnExactIsCocycle", fn := fun _ => fun
  | [d1, d2] => { results := [.lit (.bool false)], args := [d1, d2] }
  | _ => none }
def FnExactIsCocycleWrongFalsely : Prop := fnExactIsCocycleRow.holds Try.pinned (OpenSpec.ofChange fnExactIsCocycleWrong)

/-- 'laws.FnExactSubsetsOf': WHATEVER THE INPUT: true; the input reads as it did. -/
def fnExactSubsetsOfSpec : ChangeSpec := { name := "fnExactSubsetsOf", fn := fun _ => fun
  | [d1, d2] => { results := [.lit (.bool true)], args := [d1, d2] }
  | _ => none }
def fnExactSubsetsOfRow : OpenClaim := { program := "ytkbpigpanookjaa", sum := "2b01ab16803eb8823a906c48d981e75d8dfb1a44e4a631f121608b380e66bddf", func := "loop.example/g03109/laws.FnExactSubsetsOf", spec := "fnExactSubsetsOf", recurses := true, apart := false }
def FnExactSubsetsOfSaid : Prop := fnExactSubsetsOfRow.holds Try.pinned (OpenSpec.ofChange fnExactSubsetsOfSpec)

/-- ITS FALSE NEIGHBOUR: 'it returns false'. Refute it at one input. -/
def fnExactSubsetsOfWrong : ChangeSpec := { name := "fnExactSubsetsOf", fn := fun _ => fun
  | [d1, d2] => { results := [.lit (.bool false)], args := [d1, d2] }
  | _ => none }
def FnExactSubsetsOfWrongFalsely : Prop := fnExactSubsetsOfRow.holds Try.pinned (OpenSpec.ofChange fnExactSubsetsOfWrong)

/- THE SECOND FORM. 'bulk': how many values and letters a reading holds, each counted each time it is reached (what is shared counts as often as it is met; a slice's spare places count too). A statement '..UptoSaid' is the law's where the arguments, and the package variables that the reading takes, are together of bulk at most 1048576: NARROWER than '..Said'. Prove '..Said' where nothing that the law and all that it calls make is longer than what came in: it says more and counts as full. Else prove '..UptoSaid'. A law counts once. -/
mutual
def uptoBulk {H : Type} : DataW H → Nat
  | .lit (.string bytes) => bytes.length + 1
  | .lit _ => 1
  | .nil => 1
  | .ptr d => uptoBulk d + 1
  | .slice elems spare => uptoBulkAll elems + uptoBulkAll spare + 1
  | .agg parts => uptoBulkAll parts + 1
  | .iface _ d => uptoBulk d + 1
  | .map entries => uptoBulkEntries entries + 1
  | .held _ => 1
def uptoBulkAll {H : Type} : List (DataW H) → Nat
  | [] => 0
  | d :: r => uptoBulk d + uptoBulkAll r
def uptoBulkEntries {H : Type} : List (Lit × DataW H) → Nat
  | [] => 0
  | x :: r => uptoBulkEntry x + uptoBulkEntries r
def uptoBulkEntry {H : Type} : Lit × DataW H → Nat
  | (.string bytes, d) => bytes.length + uptoBulk d + 1
  | (_, d) => uptoBulk d + 1
 end
def uptoSmall : (H : Type) → List (DataW H) → Bool := fun _ ds => decide (uptoBulkAll ds ≤ 1048576)
def OpenSpec.upto (s : _root_.Go.ChangeSpec) : _root_.Go.OpenSpec := { _root_.Go.OpenSpec.ofChange s with cond := some uptoSmall }

/-- 'laws.FnExactIsUnimodular', WHERE WHAT IT READS IS OF BULK AT MOST 1048576: true; the input reads as it did. -/
def fnExactIsUnimodularUptoRow : OpenClaim := { program := "ytkbpigpanookjaa", sum := "2b01ab16803eb8823a906c48d981e75d8dfb1a44e4a631f121608b380e66bddf", func := "loop.example/g03109/laws.FnExactIsUnimodular", spec := "fnExactIsUnimodular", unfollowed := true, recurses := true, apart := false, narrowed := true }
def FnExactIsUnimodularUptoSaid : Prop := fnExactIsUnimodularUptoRow.holds Try.pinned (OpenSpec.upto fnExactIsUnimodularSpec)

/-- 'laws.FnExactDerivedSeries', WHERE WHAT IT READS IS OF BULK AT MOST 1048576: true; the input reads as it did. -/
def fnExactDerivedSeriesUptoRow : OpenClaim := { program := "ytkbpigpanookjaa", sum := "2b01ab16803eb8823a906c48d981e75d8dfb1a44e4a631f121608b380e66bddf", func := "loop.example/g03109/laws.FnExactDerivedSeries", spec := "fnExactDerivedSeries", unfollowed := true, recurses := true, apart := false, narrowed := true }
def FnExactDerivedSeriesUptoSaid : Prop := fnExactDerivedSeriesUptoRow.holds Try.pinned (OpenSpec.upto fnExactDerivedSeriesSpec)

/-- 'laws.FnExactLowerSeries', WHERE WHAT IT READS IS OF BULK AT MOST 1048576: true; the input reads as it did. -/
def fnExactLowerSeriesUptoRow : OpenClaim := { program := "ytkbpigpanookjaa", sum := "2b01ab16803eb8823a906c48d981e75d8dfb1a44e4a631f121608b380e66bddf", func := "loop.example/g03109/laws.FnExactLowerSeries", spec := "fnExactLowerSeries", unfollowed := true, recurses := true, apart := false, narrowed := true }
def FnExactLowerSeriesUptoSaid : Prop := fnExactLowerSeriesUptoRow.holds Try.pinned (OpenSpec.upto fnExactLowerSeriesSpec)

/-- 'laws.FnExactUpperSeries', WHERE WHAT IT READS IS OF BULK AT MOST 1048576: true; the input reads as it did. -/
def fnExactUpperSeriesUptoRow : OpenClaim := { program := "ytkbpigpanookjaa", sum := "2b01ab16803eb8823a906c48d981e75d8dfb1a44e4a631f121608b380e66bddf", func := "loop.example/g03109/laws.FnExactUpperSeries", spec := "fnExactUpperSeries", unfollowed := true, recurses := true, apart := false, narrowed := true }
def FnExactUpperSeriesUptoSaid : Prop := fnExactUpperSeriesUptoRow.holds Try.pinned (OpenSpec.upto fnExactUpperSeriesSpec)

/-- 'laws.FnExactIsSolvable', WHERE WHAT IT READS IS OF BULK AT MOST 1048576: true; the input reads as it did. -/
def fnExactIsSolvableUptoRow : OpenClaim := { program := "ytkbpigpanookjaa", sum := "2b01ab16803eb8823a906c48d981e75d8dfb1a44e4a631f121608b380e66bddf", func := "loop.example/g03109/laws.FnExactIsSolvable", spec := "fnExactIsSolvable", unfollowed := true, recurses := true, apart := false, narrowed := true }
def FnExactIsSolvableUptoSaid : Prop := fnExactIsSolvableUptoRow.holds Try.pinned (OpenSpec.upto fnExactIsSolvableSpec)

/-- 'laws.FnExactClassOf', WHERE WHAT IT READS IS OF BULK AT MOST 1048576: true; the input reads as it did. -/
def fnExactClassOfUptoRow : OpenClaim := { program := "ytkbpigpanookjaa", sum := "2b01ab16803eb8823a906c48d981e75d8dfb1a44e4a631f121608b380e66bddf", func := "loop.example/g03109/laws.FnExactClassOf", spec := "fnExactClassOf", unfollowed := true, recurses := true, apart := false, narrowed := true }
def FnExactClassOfUptoSaid : Prop := fnExactClassOfUptoRow.holds Try.pinned (OpenSpec.upto fnExactClassOfSpec)

/-- 'laws.FnExactIsAutomorphism', WHERE WHAT IT READS IS OF BULK AT MOST 1048576: true; the input reads as it did. -/
def fnExactIsAutomorphismUptoRow : OpenClaim := { program := "ytkbpigpanookjaa", sum := "2b01ab16803eb8823a906c48d981e75d8dfb1a44e4a631f121608b380e66bddf", func := "loop.example/g03109/laws.FnExactIsAutomorphism", spec := "fnExactIsAutomorphism", unfollowed := true, recurses := true, apart := false, narrowed := true }
def FnExactIsAutomorphismUptoSaid : Prop := fnExactIsAutomorphismUptoRow.holds Try.pinned (OpenSpec.upto fnExactIsAutomorphismSpec)

/-- 'laws.FnExactInnerDerivations', WHERE WHAT IT READS IS OF BULK AT MOST 1048576: true; the input reads as it did. -/
def fnExactInnerDerivationsUptoRow : OpenClaim := { program := "ytkbpigpanookjaa", sum := "2b01ab16803eb8823a906c48d981e75d8dfb1a44e4a631f121608b380e66bddf", func := "loop.example/g03109/laws.FnExactInnerDerivations", spec := "fnExactInnerDerivations", unfollowed := true, recurses := true, apart := false, narrowed := true }
def FnExactInnerDerivationsUptoSaid : Prop := fnExactInnerDerivationsUptoRow.holds Try.pinned (OpenSpec.upto fnExactInnerDerivationsSpec)

/-- 'laws.FnExactIsInvariant', WHERE WHAT IT READS IS OF BULK AT MOST 1048576: true; the input reads as it did. -/
def fnExactIsInvariantUptoRow : OpenClaim := { program := "ytkbpigpanookjaa", sum := "2b01ab16803eb8823a906c48d981e75d8dfb1a44e4a631f121608b380e66bddf", func := "loop.example/g03109/laws.FnExactIsInvariant", spec := "fnExactIsInvariant", unfollowed := true, recurses := true, apart := false, narrowed := true }
def FnExactIsInvariantUptoSaid : Prop := fnExactIsInvariantUptoRow.holds Try.pinned (OpenSpec.upto fnExactIsInvariantSpec)

/-- 'laws.FnExactIsDerivation', WHERE WHAT IT READS IS OF BULK AT MOST 1048576: true; the input reads as it did. -/
def fnExactIsDerivationUptoRow : OpenClaim := { program := "ytkbpigpanookjaa", sum := "2b01ab16803eb8823a906c48d981e75d8dfb1a44e4a631f121608b380e66bddf", func := "loop.example/g03109/laws.FnExactIsDerivation", spec := "fnExactIsDerivation", unfollowed := true, recurses := true, apart := false, narrowed := true }
def FnExactIsDerivationUptoSaid : Prop := fnExactIsDerivationUptoRow.holds Try.pinned (OpenSpec.upto fnExactIsDerivationSpec)

/-- 'laws.FnExactIsCocycle', WHERE WHAT IT READS IS OF BULK AT MOST 1048576: true; the input reads as it did. -/
def fnExactIsCocycleUptoRow : OpenClaim := { program := "ytkbpigpanookjaa", sum := "2b01ab16803eb8823a906c48d981e75d8dfb1a44e4a631f121608b380e66bddf", func := "loop.example/g03109/laws.FnExactIsCocycle", spec := "fnExactIsCocycle", unfollowed := true, recurses := true, apart := false, narrowed := true }
def FnExactIsCocycleUptoSaid : Prop := fnExactIsCocycleUptoRow.holds Try.pinned (OpenSpec.upto fnExactIsCocycleSpec)

/-- 'laws.FnExactSubsetsOf', WHERE WHAT IT READS IS OF BULK AT MOST 1048576: true; the input reads as it did. -/
def fnExactSubsetsOfUptoRow : OpenClaim := { program := "ytkbpigpanookjaa", sum := "2b01ab16803eb8823a906c48d981e75d8dfb1a44e4a631f121608b380e66bddf", func := "loop.example/g03109/laws.FnExactSubsetsOf", spec := "fnExactSubsetsOf", recurses := true, apart := false, narrowed := true }
def FnExactSubsetsOfUptoSaid : Prop := fnExactSubsetsOfUptoRow.holds Try.pinned (OpenSpec.upto fnExactSubsetsOfSpec)

end Rows
end Go.Proofs.Ytkbpigpanookjaa
