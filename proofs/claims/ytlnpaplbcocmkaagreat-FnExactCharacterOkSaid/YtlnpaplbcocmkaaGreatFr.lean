/-
  Matrix by value: the law package's helpers.
-/
import Derived.Test.YtlnpaplbcocmkaaGreatM0
import Derived.ProofKit
import Derived.OpenShut
import Derived.ShutString
import Derived.ChangeOld
import Derived.Lib.SmallJoins
import Derived.Deep.RegionHeld3
import Derived.Deep.DeepCutAuto
import Derived.StillTactics
import Derived.Laws.Pointers
namespace Go.Proofs.YtlnpaplbcocmkaaGreat
open Go.RowKit
set_option linter.unusedVariables false

/-- What a result of this struct is: its numbers, and a slice of the call's own. -/
def Rmat (w w' : World) (v : Value) (P R C : Int) (xs : List Int) : Prop := ∃ a n c, v = .agg #[.int .i64 P, .int .i64 R, .int .i64 C, .slice a n c] ∧ Own w' w.heap.size w'.heap.size a n xs ∧ n ≤ 1048576

end Go.Proofs.YtlnpaplbcocmkaaGreat

/-
  What the rows of the laws share: the program's layout, and how an argument that is a slice of integers or a matrix is read.
-/
namespace Go.Proofs.YtlnpaplbcocmkaaGreat
open Go.ChangeShapes Go.WideShapes Go.ChangeAt Go.RowKit

theorem own : ownKnob Tryz.prog.godebug = none := by kernel_rfl
theorem laidOut : laidOutB Tryz.prog = true := by kernel_rfl
theorem cellsInt : Tryz.prog.cellsOf 3 = 1 := by kernel_rfl

theorem reads_trod {H : Type} {enc : TypeId × Value → H} {W : World} {n : Nat} {v : Value} {y : DataW H × List MemPlace}
    (h : DataW.trod enc Tryz.prog W 0 (fun _ => true) true n 22 [v] = some y) :
    ∃ a l c xs, v = .slice a l c ∧ Reads W a l xs ∧ l ≤ maxLen := by
  rcases open_ints Tryz.underlying22 Tryz.underlying3 cellsInt h with ⟨hcs, _⟩ | ⟨x, l, c, zs, hcs, _, hl, hm, hz, _, hcell, hwz⟩
  · simp at hcs
    exact ⟨none, 0, 0, [], hcs, ⟨rfl, .inl rfl⟩, by omega⟩
  · simp at hcs
    refine ⟨some x, l, c, zs.take l, hcs, ?_, by omega⟩
    have hz' : zs.length = c := by simpa using hz
    have htl : (zs.take l).length = l := by simp; omega
    refine ⟨htl, ?_⟩
    by_cases h0 : l = 0
    · exact .inl h0
    · obtain ⟨b, off, spot⟩ := x
      have hspot : spot = none := by simpa [Addr.add] using World.cell?_spot (hcell 0 (by omega))
      subst hspot
      refine .inr ⟨b, off, rfl, ?_, fun j hj => ?_⟩
      · have := hcell 0 (by omega)
        simpa [Addr.add] using World.block_lt_of_cell? _ _ this
      · have := hcell j (by omega)
        rw [add_plain] at this
        rw [this]
        simp [gi, hj]

set_option maxRecDepth 100000 in
theorem open_intsl {H : Type} {enc : TypeId × Value → H} {W : World} {base : Nat} {v : Value} {d : DataW H} {p : List MemPlace}
    (hv : Value.okWide Tryz.prog W .any base 22 v) (h : DataW.Trod enc Tryz.prog W 0 (fun _ => true) true 22 v d p) :
    ∃ a n c xs, v = .slice a n c ∧ Reads W a n xs ∧ n ≤ maxLen := by
  obtain ⟨a0, len0, cap0, rfl⟩ := okWide_slice Tryz.underlying22 hv
  obtain ⟨fuel, hf⟩ := h
  exact reads_trod (by simpa [Value.cells] using hf)

end Go.Proofs.YtlnpaplbcocmkaaGreat

/-
  What the walks of the laws import, under one name.
-/

/-
  How an argument that is an algebra is read.
-/
namespace Go.Proofs.YtlnpaplbcocmkaaGreat
open Go.ChangeShapes Go.WideShapes Go.ChangeAt Go.RowKit

end Go.Proofs.YtlnpaplbcocmkaaGreat

/-
  Algebra by value: the law package's helpers.
-/
namespace Go.Proofs.YtlnpaplbcocmkaaGreat
open Go.RowKit
set_option linter.unusedVariables false

/-- What a result of this struct is: its numbers, and a slice of the call's own. -/
def Ralg (w w' : World) (v : Value) (P D : Int) (xs : List Int) : Prop := ∃ a n c, v = .agg #[.int .i64 P, .int .i64 D, .slice a n c] ∧ Own w' w.heap.size w'.heap.size a n xs ∧ n ≤ 1048576

end Go.Proofs.YtlnpaplbcocmkaaGreat
