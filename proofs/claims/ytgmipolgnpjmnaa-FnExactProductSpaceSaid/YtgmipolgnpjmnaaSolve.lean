/-
  A system solved, in the program.
-/
import Derived.Test.YtgmipolgnpjmnaaJoinC
import Derived.Test.YtgmipolgnpjmnaaNz
import Derived.Test.YtgmipolgnpjmnaaRedI
namespace Go.Proofs.Ytgmipolgnpjmnaa
open Go.ChangeShapes Go.WideShapes Go.ChangeAt Go.RowKit
set_option linter.unusedVariables false

/-- What is found, or nothing. -/
def SolPost (w : World) (ok : Bool) (l : List Int) (e : Ending) (w' : World) : Prop := ∃ s m c, e = .returned (.tuple #[.slice s m c, .bool ok]) ∧ Own w' w.heap.size w'.heap.size s m (if ok then l else []) ∧ Ext w w'

end Go.Proofs.Ytgmipolgnpjmnaa
