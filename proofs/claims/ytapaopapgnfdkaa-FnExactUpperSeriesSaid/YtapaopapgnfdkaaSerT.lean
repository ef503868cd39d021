/-
  The derived and the lower series of the program, and what is asked of them.
-/
import Derived.Test.YtapaopapgnfdkaaSerI
import Derived.Test.YtapaopapgnfdkaaBr
namespace Go.Proofs.Ytapaopapgnfdkaa
open Go.ChangeShapes Go.WideShapes Go.ChangeAt Go.RowKit
set_option linter.unusedVariables false
set_option linter.unusedSimpArgs false


noncomputable def solB (P D : Int) (l : List Int) : Bool := algB P D l && (((derS P D.toNat l (derN P D.toNat l)).1 : Int) == 0)
noncomputable def clsM (P D : Int) (l : List Int) : Int := if algB P D l && (((lowS P D.toNat l (lowN P D.toNat l)).1 : Int) == 0) then (lowN P D.toNat l : Nat) else -1
end Go.Proofs.Ytapaopapgnfdkaa
