/-
  All brackets of the rows of two matrices, in the program.
-/
import Derived.Test.YtnikfalpjieibaaBr
import Derived.Test.YtnikfalpjieibaaRi
namespace Go.Proofs.Ytnikfalpjieibaa
open Go.ChangeShapes Go.WideShapes Go.ChangeAt Go.RowKit
set_option linter.unusedVariables false
set_option linter.unusedSimpArgs false

/-- What the copies keep. -/
def PS (W0 wr : World) (MB b : Nat) (vm : List Value) (N off : Nat) (cs l2 : List Int) : Prop := ∃ l, Loc W0 wr MB b vm l ∧ l.length = N ∧ spl l off cs = l2
theorem PS.mk' {W0 wr : World} {MB b : Nat} {vm : List Value} {N off : Nat} {cs l2 l : List Int} (h1 : Loc W0 wr MB b vm l) (h2 : l.length = N) (h3 : spl l off cs = l2) : PS W0 wr MB b vm N off cs l2 := ⟨l, h1, h2, h3⟩
theorem PS.step {W0 wr wr' : World} {MB b : Nat} {vm : List Value} {N off : Nat} {cs l2 : List Int} (h : PS W0 wr MB b vm N off cs l2) (hE : Ext wr wr') : PS W0 wr' MB b vm N off cs l2 := by
  obtain ⟨l, h1, h2⟩ := h
  exact ⟨l, h1.step hE, h2⟩
theorem PS.ext {W0 wr : World} {MB b : Nat} {vm : List Value} {N off : Nat} {cs l2 : List Int} (h : PS W0 wr MB b vm N off cs l2) : Ext W0 wr := by
  obtain ⟨l, h1, _⟩ := h
  exact h1.ext
theorem ps3 {W0 wr : World} {MB b : Nat} {v0 v1 v2 v3 : Value} {N off : Nat} {cs l2 : List Int} (h : PS W0 wr MB b [v0, v1, v2, v3] N off cs l2) : (∀ b o, b < W0.heap.size → wr.cell? ⟨b, o, none⟩ = W0.cell? ⟨b, o, none⟩) ∧ wr.cell? ⟨MB, 3, none⟩ = some v3 ∧ PS W0 wr MB b [v0, v1, v2, v3] N off cs l2 := by
  obtain ⟨l, h1, h2⟩ := h
  exact ⟨h1.ext.cells, h1.box.2 3 _ rfl, l, h1, h2⟩

end Go.Proofs.Ytnikfalpjieibaa
