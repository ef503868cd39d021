/-
  No cell of these rows narrows 'for every input' (looked for: loops, veiled, ifaces, maps, wideKeys, modest, calm, conditions, laid).
  DERIVED. THE GIVEN ROWS OF THIS SEAT. 12 by the template 'for every input the law returns true; each argument reads behind the call as it read before'; 0 by the template 'total and deterministic' (their statements: YtapaopapgnfdkaaTotals.lean).
  GIVEN WITH THE SEED: the statements are not yours to turn. If you find one false, say at which input.
  Laid BY PROGRAM, IN A SANDBOX (cutbox-rows.mjs): the forced cells as the released guide's own fill.sh prints them over the translation 737785991dd49fec… (all of the seat's roots in one cut). By AI agents, Wed Nov 11 2026. No macro, syntax, notation, axiom, sorry.
-/
import Derived.Test.YtapaopapgnfdkaaChecked
import GoSem.Claim
import GoSem.ClaimJoined
import GoSem.ClaimMapViews
import Derived.JoinedTies
import Derived.KernelRfl
namespace Go.Proofs.Ytapaopapgnfdkaa
/- THE CELL 'sum', in the pinned program and in every row, IS THE sha256 OF THE DUMP (.gsa) THAT YtapaopapgnfdkaaProg.lean LOADS. Nothing in Lean hashes anything: it is a label: what it is worth is what the hold of that sum in a sandbox is worth. -/
noncomputable def Try.pinned : Pinned := { name := "ytapaopapgnfdkaa", sum := "737785991dd49feced0dae3710e4872459b3c5bc243fd13edee332570d445215", checked := Try.checked }
namespace Rows
def none {H : Type} : Left H := { results := [], args := [] }

/-- 'laws.FnExactUpperSeries': WHATEVER THE INPUT: true; the input reads as it did. -/
def fnExactUpperSeriesSpec : ChangeSpec := { name := "fnExactUpperSeries", fn := fun _ => fun
  | [d] => { results := [.lit (.bool true)], args := [d] }
  | _ => none }
def fnExactUpperSeriesRow : OpenClaim := { program := "ytapaopapgnfdkaa", sum := "737785991dd49feced0dae3710e4872459b3c5bc243fd13edee332570d445215", func := "loop.example/g03109/laws.FnExactUpperSeries", spec := "fnExactUpperSeries", unfollowed := true, recurses := true, apart := false }
def FnExactUpperSeriesSaid : Prop := fnExactUpperSeriesRow.holds Try.pinned (OpenSpec.ofChange fnExactUpperSeriesSpec)

/-- ITS FALSE NEIGHBOUR: 'it returns false'. Refute it at one input. -/
def fnExactUpperSeriesWrong : ChangeSpec := { name := "fnExactUpperSeries", fn := fun _ => fun
  | [d] => { results := [.lit (.bool false)], args := [d] }
  | _ => none }
def FnExactUpperSeriesWrongFalsely : Prop := fnExactUpperSeriesRow.holds Try.pinned (OpenSpec.ofChange fnExactUpperSeriesWrong)

/-- 'laws.FnExactSemidirectBy': WHATEVER THE INPUT: true; the input reads as it did. -/
def fnExactSemidirectBySpec : ChangeSpec := { name := "fnExactSemidirectBy", fn := fun _ => fun
  | [d1, d2] => { results := [.lit (.bool true)], args := [d1, d2] }
  | _ => none }
def fnExactSemidirectByRow : OpenClaim := { program := "ytapaopapgnfdkaa", sum := "737785991dd49feced0dae3710e4872459b3c5bc243fd13edee332570d445215", func := "loop.example/g03109/laws.FnExactSemidirectBy", spec := "fnExactSemidirectBy", unfollowed := true, recurses := true, apart := false }
def FnExactSemidirectBySaid : Prop := fnExactSemidirectByRow.holds Try.pinned (OpenSpec.ofChange fnExactSemidirectBySpec)

/-- ITS FALSE NEIGHBOUR: 'it returns false'. Refute it at one input. -/
def fnExactSemidirectByWrong : ChangeSpec := { name := "fnExactSemidirectBy", fn := fun _ => fun
  | [d1, d2] => { results := [.lit (.bool false)], args := [d1, d2] }
  | _ => none }
def FnExactSemidirectByWrongFalsely : Prop := fnExactSemidirectByRow.holds Try.pinned (OpenSpec.ofChange fnExactSemidirectByWrong)

/-- 'laws.FnExactExtendBy': WHATEVER THE INPUT: true; the input reads as it did. -/
def fnExactExtendBySpec : ChangeSpec := { name := "fnExactExtendBy", fn := fun _ => fun
  | [d1, d2] => { results := [.lit (.bool true)], args := [d1, d2] }
  | _ => none }
def fnExactExtendByRow : OpenClaim := { program := "ytapaopapgnfdkaa", sum := "737785991dd49feced0dae3710e4872459b3c5bc243fd13edee332570d445215", func := "loop.example/g03109/laws.FnExactExtendBy", spec := "fnExactExtendBy", unfollowed := true, recurses := true, apart := false }
def FnExactExtendBySaid : Prop := fnExactExtendByRow.holds Try.pinned (OpenSpec.ofChange fnExactExtendBySpec)

/-- ITS FALSE NEIGHBOUR: 'it returns false'. Refute it at one input. -/
def fnExactExtendByWrong : ChangeSpec := { name := "fnExactExtendBy", fn := fun _ => fun
  | [d1, d2] => { results := [.lit (.bool false)], args := [d1, d2] }
  | _ => none }
def FnExactExtendByWrongFalsely : Prop := fnExactExtendByRow.holds Try.pinned (OpenSpec.ofChange fnExactExtendByWrong)

/-- 'laws.FnExactSubalgebraBy': WHATEVER THE INPUT: true; the input reads as it did. -/
def fnExactSubalgebraBySpec : ChangeSpec := { name := "fnExactSubalgebraBy", fn := fun _ => fun
  | [d1, d2] => { results := [.lit (.bool true)], args := [d1, d2] }
  | _ => none }
def fnExactSubalgebraByRow : OpenClaim := { program := "ytapaopapgnfdkaa", sum := "737785991dd49feced0dae3710e4872459b3c5bc243fd13edee332570d445215", func := "loop.example/g03109/laws.FnExactSubalgebraBy", spec := "fnExactSubalgebraBy", unfollowed := true, recurses := true, apart := false }
def FnExactSubalgebraBySaid : Prop := fnExactSubalgebraByRow.holds Try.pinned (OpenSpec.ofChange fnExactSubalgebraBySpec)

/-- ITS FALSE NEIGHBOUR: 'it returns false'. Refute it at one input. -/
def fnExactSubalgebraByWrong : ChangeSpec := { name := "fnExactSubalgebraBy", fn := fun _ => fun
  | [d1, d2] => { results := [.lit (.bool false)], args := [d1, d2] }
  | _ => none }
def FnExactSubalgebraByWrongFalsely : Prop := fnExactSubalgebraByRow.holds Try.pinned (OpenSpec.ofChange fnExactSubalgebraByWrong)

/-- 'laws.FnExactIdealBy': WHATEVER THE INPUT: true; the input reads as it did. -/
def fnExactIdealBySpec : ChangeSpec := { name := "fnExactIdealBy", fn := fun _ => fun
  | [d1, d2] => { results := [.lit (.bool true)], args := [d1, d2] }
  | _ => none }
def fnExactIdealByRow : OpenClaim := { program := "ytapaopapgnfdkaa", sum := "737785991dd49feced0dae3710e4872459b3c5bc243fd13edee332570d445215", func := "loop.example/g03109/laws.FnExactIdealBy", spec := "fnExactIdealBy", unfollowed := true, recurses := true, apart := false }
def FnExactIdealBySaid : Prop := fnExactIdealByRow.holds Try.pinned (OpenSpec.ofChange fnExactIdealBySpec)

/-- ITS FALSE NEIGHBOUR: 'it returns false'. Refute it at one input. -/
def fnExactIdealByWrong : ChangeSpec := { name := "fnExactIdealBy", fn := fun _ => fun
  | [d1, d2] => { results := [.lit (.bool false)], args := [d1, d2] }
  | _ => none }
def FnExactIdealByWrongFalsely : Prop := fnExactIdealByRow.holds Try.pinned (OpenSpec.ofChange fnExactIdealByWrong)

/-- 'laws.FnExactDerivations': WHATEVER THE INPUT: true; the input reads as it did. -/
def fnExactDerivationsSpec : ChangeSpec := { name := "fnExactDerivations", fn := fun _ => fun
  | [d] => { results := [.lit (.bool true)], args := [d] }
  | _ => none }
def fnExactDerivationsRow : OpenClaim := { program := "ytapaopapgnfdkaa", sum := "737785991dd49feced0dae3710e4872459b3c5bc243fd13edee332570d445215", func := "loop.example/g03109/laws.FnExactDerivations", spec := "fnExactDerivations", unfollowed := true, recurses := true, apart := false }
def FnExactDerivationsSaid : Prop := fnExactDerivationsRow.holds Try.pinned (OpenSpec.ofChange fnExactDerivationsSpec)

/-- ITS FALSE NEIGHBOUR: 'it returns false'. Refute it at one input. -/
def fnExactDerivationsWrong : ChangeSpec := { name := "fnExactDerivations", fn := fun _ => fun
  | [d] => { results := [.lit (.bool false)], args := [d] }
  | _ => none }
def FnExactDerivationsWrongFalsely : Prop := fnExactDerivationsRow.holds Try.pinned (OpenSpec.ofChange fnExactDerivationsWrong)

/-- 'laws.FnExactInvariantForms': WHATEVER THE INPUT: true; the input reads as it did. -/
def fnExactInvariantFormsSpec : ChangeSpec := { name := "fnExactInvariantForms", fn := fun _ => fun
  | [d] => { results := [.lit (.bool true)], args := [d] }
  | _ => none }
def fnExactInvariantFormsRow : OpenClaim := { program := "ytapaopapgnfdkaa", sum := "737785991dd49feced0dae3710e4872459b3c5bc243fd13edee332570d445215", func := "loop.example/g03109/laws.FnExactInvariantForms", spec := "fnExactInvariantForms", unfollowed := true, recurses := true, apart := false }
def FnExactInvariantFormsSaid : Prop := fnExactInvariantFormsRow.holds Try.pinned (OpenSpec.ofChange fnExactInvariantFormsSpec)

/-- ITS FALSE NEIGHBOUR: 'it returns false'. Refute it at one input. -/
def fnExactInvariantFormsWrong : ChangeSpec := { name := "fnExactInvariantForms", fn := fun _ => fun
  | [d] => { results := [.lit (.bool false)], args := [d] }
  | _ => none }
def FnExactInvariantFormsWrongFalsely : Prop := fnExactInvariantFormsRow.holds Try.pinned (OpenSpec.ofChange fnExactInvariantFormsWrong)

/-- 'laws.FnExactSubTable': WHATEVER THE INPUT: true; the input reads as it did. -/
def fnExactSubTableSpec : ChangeSpec := { name := "fnExactSubTable", fn := fun _ => fun
  | [d1, d2] => { results := [.lit (.bool true)], args := [d1, d2] }
  | _ => none }
def fnExactSubTableRow : OpenClaim := { program := "ytapaopapgnfdkaa", sum := "737785991dd49feced0dae3710e4872459b3c5bc243fd13edee332570d445215", func := "loop.example/g03109/laws.FnExactSubTable", spec := "fnExactSubTable", unfollowed := true, recurses := true, apart := false }
def FnExactSubTableSaid : Prop := fnExactSubTableRow.holds Try.pinned (OpenSpec.ofChange fnExactSubTableSpec)

/-- ITS FALSE NEIGHBOUR: 'it returns false'. Refute it at one input. -/
def fnExactSubTableWrong : ChangeSpec := { name := "fnExactSubTable", fn := fun _ => fun
  | [d1, d2] => { results := [.lit (.bool false)], args := [d1, d2] }
  | _ => none }
def FnExactSubTableWrongFalsely : Prop := fnExactSubTableRow.holds Try.pinned (OpenSpec.ofChange fnExactSubTableWrong)

/-- 'laws.FnExactQuotientTable': WHATEVER THE INPUT: true; the input reads as it did. -/
def fnExactQuotientTableSpec : ChangeSpec := { name := "fnExactQuotientTable", fn := fun _ => fun
  | [d1, d2] => { results := [.lit (.bool true)], args := [d1, d2] }
  | _ => none }
def fnExactQuotientTableRow : OpenClaim := { program := "ytapaopapgnfdkaa", sum := "737785991dd49feced0dae3710e4872459b3c5bc243fd13edee332570d445215", func := "loop.example/g03109/laws.FnExactQuotientTable", spec := "fnExactQuotientTable", unfollowed := true, recurses := true, apart := false }
def FnExactQuotientTableSaid : Prop := fnExactQuotientTableRow.holds Try.pinned (OpenSpec.ofChange fnExactQuotientTableSpec)

/-- ITS FALSE NEIGHBOUR: 'it returns false'. Refute it at one input. -/
def fnExactQuotientTableWrong : ChangeSpec := { name := "fnExactQuotientTable", fn := fun _ => fun
  | [d1, d2] => { results := [.lit (.bool false)], args := [d1, d2] }
  | _ => none }
def FnExactQuotientTableWrongFalsely : Prop := fnExactQuotientTableRow.holds Try.pinned (OpenSpec.ofChange fnExactQuotientTableWrong)

/-- 'laws.FnExactChangeBasis': WHATEVER THE INPUT: true; the input reads as it did. -/
def fnExactChangeBasisSpec : ChangeSpec := { name := "fnExactChangeBasis", fn := fun _ => fun
  | [d1, d2] => { results := [.lit (.bool true)], args := [d1, d2] }
  | _ => none }
def fnExactChangeBasisRow : OpenClaim := { program := "ytapaopapgnfdkaa", sum := "737785991dd49feced0dae3710e4872459b3c5bc243fd13edee332570d445215", func := "loop.example/g03109/laws.FnExactChangeBasis", spec := "fnExactChangeBasis", unfollowed := true, recurses := true, apart := false }
def FnExactChangeBasisSaid : Prop := fnExactChangeBasisRow.holds Try.pinned (OpenSpec.ofChange fnExactChangeBasisSpec)

/-- ITS FALSE NEIGHBOUR: 'it returns false'. Refute it at one input. -/
def fnExactChangeBasisWrong : ChangeSpec := { name := "fnExactChangeBasis", fn := fun _ => fun
  | [d1, d2] => { results := [.lit (.bool false)], args := [d1, d2] }
  | _ => none }
def FnExactChangeBasisWrongFalsely : Prop := fnExactChangeBasisRow.holds Try.pinned (OpenSpec.ofChange fnExactChangeBasisWrong)

/-- 'laws.FnExactAlgebraOfMatrices': WHATEVER THE INPUT: true; the input reads as it did. -/
def fnExactAlgebraOfMatricesSpec : ChangeSpec := { name := "fnExactAlgebraOfMatrices", fn := fun _ => fun
  | [d] => { results := [.lit (.bool true)], args := [d] }
  | _ => none }
def fnExactAlgebraOfMatricesRow : OpenClaim := { program := "ytapaopapgnfdkaa", sum := "737785991dd49feced0dae3710e4872459b3c5bc243fd13edee332570d445215", func := "loop.example/g03109/laws.FnExactAlgebraOfMatrices", spec := "fnExactAlgebraOfMatrices", apart := false }
def FnExactAlgebraOfMatricesSaid : Prop := fnExactAlgebraOfMatricesRow.holds Try.pinned (OpenSpec.ofChange fnExactAlgebraOfMatricesSpec)

/-- ITS FALSE NEIGHBOUR: 'it returns false'. Refute it at one input. -/
def fnExactAlgebraOfMatricesWrong : ChangeSpec := { name := "fnExactAlgebraOfMatrices", fn := fun _ => fun
  | [d] => { results := [.lit (.bool false)], args := [d] }
  | _ => none }
def FnExactAlgebraOfMatricesWrongFalsely : Prop := fnExactAlgebraOfMatricesRow.holds Try.pinned (OpenSpec.ofChange fnExactAlgebraOfMatricesWrong)

/-- 'laws.FnExactCochainOk': WHATEVER THE INPUT: true; the input reads as it did. -/
def fnExactCochainOkSpec : ChangeSpec := { name := "fnExactCochainOk", fn := fun _ => fun
  | [d1, d2, d3] => { results := [.lit (.bool true)], args := [d1, d2, d3] }
  | _ => none }
def fnExactCochainOkRow : OpenClaim := { program := "ytapaopapgnfdkaa", sum := "737785991dd49feced0dae3710e4872459b3c5bc243fd13edee332570d445215", func := "loop.example/g03109/laws.FnExactCochainOk", spec := "fnExactCochainOk", unfollowed := true, recurses := true, apart := false }
def FnExactCochainOkSaid : Prop := fnExactCochainOkRow.holds Try.pinned (OpenSpec.ofChange fnExactCochainOkSpec)

/-- ITS FALSE NEIGHBOUR: 'it returns false'. Refute it at one input. -/
def fnExactCochainOkWrong : ChangeSpec := { name := "fnExactCochainOk", fn := fun _ => fun
  | [d1, d2, d3] => { results := [.lit (.bool false)], args := [d1, d2, d3] }
  | _ => none }
def FnExactCochainOkWrongFalsely : Prop := fnExactCochainOkRow.holds Try.pinned (OpenSpec.ofChange fnExactCochainOkWrong)

/- THE SECOND FORM. 'bulk': how many values and letters a reading holds, each counted each time it is reached (what is shared counts as often as it is met; a slice's spare places count too). A statement '..UptoSaid' is the law's where the arguments, and the package variables that the reading takes, are together of bulk at most 1048576: NARROWER than '..Said'. Prove '..Said' where nothing that the law and all that it calls make is longer than what came in: it says more and counts as full. Else prove '..UptoSaid'. A law counts once. -/
mutual
def uptoBulk {H : Type} : DataW H → Nat
  | .lit (.string bytes) => bytes.length + 1
  | .lit _ => 1
  | .nil => 1
  | .ptr d => uptoBulk d + 1
  | .slice elems spare => uptoBulkAll elems + uptoBulkAll spare + 1
  | .agg parts => uptoBulkAll parts + 1
  | .iface _ d => uptoBulk d + 1
  | .map entries => uptoBulkEntries entries + 1
  | .held _ => 1
def uptoBulkAll {H : Type} : List (DataW H) → Nat
  | [] => 0
  | d :: r => uptoBulk d + uptoBulkAll r
def uptoBulkEntries {H : Type} : List (Lit × DataW H) → Nat
  | [] => 0
  | x :: r => uptoBulkEntry x + uptoBulkEntries r
def uptoBulkEntry {H : Type} : Lit × DataW H → Nat
  | (.string bytes, d) => bytes.length + uptoBulk d + 1
  | (_, d) => uptoBulk d + 1
 end
def uptoSmall : (H : Type) → List (DataW H) → Bool := fun _ ds => decide (uptoBulkAll ds ≤ 1048576)
def OpenSpec.upto (s : _root_.Go.ChangeSpec) : _root_.Go.OpenSpec := { _root_.Go.OpenSpec.ofChange s with cond := some uptoSmall }

/-- 'laws.FnExactUpperSeries', WHERE WHAT IT READS IS OF BULK AT MOST 1048576: true; the input reads as it did. -/
def fnExactUpperSeriesUptoRow : OpenClaim := { program := "ytapaopapgnfdkaa", sum := "737785991dd49feced0dae3710e4872459b3c5bc243fd13edee332570d445215", func := "loop.example/g03109/laws.FnExactUpperSeries", spec := "fnExactUpperSeries", unfollowed := true, recurses := true, apart := false, narrowed := true }
def FnExactUpperSeriesUptoSaid : Prop := fnExactUpperSeriesUptoRow.holds Try.pinned (OpenSpec.upto fnExactUpperSeriesSpec)

/-- 'laws.FnExactSemidirectBy', WHERE WHAT IT READS IS OF BULK AT MOST 1048576: true; the input reads as it did. -/
def fnExactSemidirectByUptoRow : OpenClaim := { program := "ytapaopapgnfdkaa", sum := "737785991dd49feced0dae3710e4872459b3c5bc243fd13edee332570d445215", func := "loop.example/g03109/laws.FnExactSemidirectBy", spec := "fnExactSemidirectBy", unfollowed := true, recurses := true, apart := false, narrowed := true }
def FnExactSemidirectByUptoSaid : Prop := fnExactSemidirectByUptoRow.holds Try.pinned (OpenSpec.upto fnExactSemidirectBySpec)

/-- 'laws.FnExactExtendBy', WHERE WHAT IT READS IS OF BULK AT MOST 1048576: true; the input reads as it did. -/
def fnExactExtendByUptoRow : OpenClaim := { program := "ytapaopapgnfdkaa", sum := "737785991dd49feced0dae3710e4872459b3c5bc243fd13edee332570d445215", func := "loop.example/g03109/laws.FnExactExtendBy", spec := "fnExactExtendBy", unfollowed := true, recurses := true, apart := false, narrowed := true }
def FnExactExtendByUptoSaid : Prop := fnExactExtendByUptoRow.holds Try.pinned (OpenSpec.upto fnExactExtendBySpec)

/-- 'laws.FnExactSubalgebraBy', WHERE WHAT IT READS IS OF BULK AT MOST 1048576: true; the input reads as it did. -/
def fnExactSubalgebraByUptoRow : OpenClaim := { program := "ytapaopapgnfdkaa", sum := "737785991dd49feced0dae3710e4872459b3c5bc243fd13edee332570d445215", func := "loop.example/g03109/laws.FnExactSubalgebraBy", spec := "fnExactSubalgebraBy", unfollowed := true, recurses := true, apart := false, narrowed := true }
def FnExactSubalgebraByUptoSaid : Prop := fnExactSubalgebraByUptoRow.holds Try.pinned (OpenSpec.upto fnExactSubalgebraBySpec)

/-- 'laws.FnExactIdealBy', WHERE WHAT IT READS IS OF BULK AT MOST 1048576: true; the input reads as it did. -/
def fnExactIdealByUptoRow : OpenClaim := { program := "ytapaopapgnfdkaa", sum := "737785991dd49feced0dae3710e4872459b3c5bc243fd13edee332570d445215", func := "loop.example/g03109/laws.FnExactIdealBy", spec := "fnExactIdealBy", unfollowed := true, recurses := true, apart := false, narrowed := true }
def FnExactIdealByUptoSaid : Prop := fnExactIdealByUptoRow.holds Try.pinned (OpenSpec.upto fnExactIdealBySpec)

/-- 'laws.FnExactDerivations', WHERE WHAT IT READS IS OF BULK AT MOST 1048576: true; the input reads as it did. -/
def fnExactDerivationsUptoRow : OpenClaim := { program := "ytapaopapgnfdkaa", sum := "737785991dd49feced0dae3710e4872459b3c5bc243fd13edee332570d445215", func := "loop.example/g03109/laws.FnExactDerivations", spec := "fnExactDerivations", unfollowed := true, recurses := true, apart := false, narrowed := true }
def FnExactDerivationsUptoSaid : Prop := fnExactDerivationsUptoRow.holds Try.pinned (OpenSpec.upto fnExactDerivationsSpec)

/-- 'laws.FnExactInvariantForms', WHERE WHAT IT READS IS OF BULK AT MOST 1048576: true; the input reads as it did. -/
def fnExactInvariantFormsUptoRow : OpenClaim := { program := "ytapaopapgnfdkaa", sum := "737785991dd49feced0dae3710e4872459b3c5bc243fd13edee332570d445215", func := "loop.example/g03109/laws.FnExactInvariantForms", spec := "fnExactInvariantForms", unfollowed := true, recurses := true, apart := false, narrowed := true }
def FnExactInvariantFormsUptoSaid : Prop := fnExactInvariantFormsUptoRow.holds Try.pinned (OpenSpec.upto fnExactInvariantFormsSpec)

/-- 'laws.FnExactSubTable', WHERE WHAT IT READS IS OF BULK AT MOST 1048576: true; the input reads as it did. -/
def fnExactSubTableUptoRow : OpenClaim := { program := "ytapaopapgnfdkaa", sum := "737785991dd49feced0dae3710e4872459b3c5bc243fd13edee332570d445215", func := "loop.example/g03109/laws.FnExactSubTable", spec := "fnExactSubTable", unfollowed := true, recurses := true, apart := false, narrowed := true }
def FnExactSubTableUptoSaid : Prop := fnExactSubTableUptoRow.holds Try.pinned (OpenSpec.upto fnExactSubTableSpec)

/-- 'laws.FnExactQuotientTable', WHERE WHAT IT READS IS OF BULK AT MOST 1048576: true; the input reads as it did. -/
def fnExactQuotientTableUptoRow : OpenClaim := { program := "ytapaopapgnfdkaa", sum := "737785991dd49feced0dae3710e4872459b3c5bc243fd13edee332570d445215", func := "loop.example/g03109/laws.FnExactQuotientTable", spec := "fnExactQuotientTable", unfollowed := true, recurses := true, apart := false, narrowed := true }
def FnExactQuotientTableUptoSaid : Prop := fnExactQuotientTableUptoRow.holds Try.pinned (OpenSpec.upto fnExactQuotientTableSpec)

/-- 'laws.FnExactChangeBasis', WHERE WHAT IT READS IS OF BULK AT MOST 1048576: true; the input reads as it did. -/
def fnExactChangeBasisUptoRow : OpenClaim := { program := "ytapaopapgnfdkaa", sum := "737785991dd49feced0dae3710e4872459b3c5bc243fd13edee332570d445215", func := "loop.example/g03109/laws.FnExactChangeBasis", spec := "fnExactChangeBasis", unfollowed := true, recurses := true, apart := false, narrowed := true }
def FnExactChangeBasisUptoSaid : Prop := fnExactChangeBasisUptoRow.holds Try.pinned (OpenSpec.upto fnExactChangeBasisSpec)

/-- 'laws.FnExactAlgebraOfMatrices', WHERE WHAT IT READS IS OF BULK AT MOST 1048576: true; the input reads as it did. -/
def fnExactAlgebraOfMatricesUptoRow : OpenClaim := { program := "ytapaopapgnfdkaa", sum := "737785991dd49feced0dae3710e4872459b3c5bc243fd13edee332570d445215", func := "loop.example/g03109/laws.FnExactAlgebraOfMatrices", spec := "fnExactAlgebraOfMatrices", apart := false, narrowed := true }
def FnExactAlgebraOfMatricesUptoSaid : Prop := fnExactAlgebraOfMatricesUptoRow.holds Try.pinned (OpenSpec.upto fnExactAlgebraOfMatricesSpec)

/-- 'laws.FnExactCochainOk', WHERE WHAT IT READS IS OF BULK AT MOST 1048576: true; the input reads as it did. -/
def fnExactCochainOkUptoRow : OpenClaim := { program := "ytapaopapgnfdkaa", sum := "737785991dd49feced0dae3710e4872459b3c5bc243fd13edee332570d445215", func := "loop.example/g03109/laws.FnExactCochainOk", spec := "fnExactCochainOk", unfollowed := true, recurses := true, apart := false, narrowed := true }
def FnExactCochainOkUptoSaid : Prop := fnExactCochainOkUptoRow.holds Try.pinned (OpenSpec.upto fnExactCochainOkSpec)

end Rows
end Go.Proofs.Ytapaopapgnfdkaa
