/-
  slices.Backward: what a range over it comes to, for letters of a word.
-/
import Derived.RangeFuncNested
import Derived.RangeFuncBound
import Derived.RangeFuncCalls
import Derived.RangeFuncLeaves
import Derived.Shelf.Abstract
import Derived.Shelf.RegionOpen
import Derived.WalkKit
import Derived.OwnWalkIn
import Derived.TacticsInMore
import Derived.LoopNIn
import Derived.LoopIn
import Derived.Test.YtlnpaplbcocmkaaGreatRd5
namespace Go.Proofs.YtlnpaplbcocmkaaGreat
open Go.ChangeShapes Go.WideShapes Go.ChangeAt Go.RowKit Go.Shelf
set_option linter.unusedVariables false
set_option linter.unusedSimpArgs false
attribute [local go_sem] Oper.semAt_some

/-- A place, and a letter. -/
abbrev Ltr (R : Nat) : Type := { p : Nat × Nat // p.2 < R }
def encL {R : Nat} (x : Ltr R) : Array Value := #[.int .i64 (x.1.1 : Int), .int .i64 (x.1.2 : Int)]
/-- What comes in round j: the last place first. -/
def ltrAt (ys : List Int) (len R : Nat) (h0 : 0 < R) (j : Nat) : Ltr R := ⟨(len - 1 - j, (gi ys (len - 1 - j)).toNat % R), Nat.mod_lt _ h0⟩
def uptoL {α : Type} (f : Nat → α) (k : Nat) : List α := (List.range k).map f
theorem uptoL_succ {α : Type} (f : Nat → α) (k : Nat) : uptoL f (k + 1) = uptoL f k ++ [f k] := by simp [uptoL, List.range_succ]
theorem uptoL_length {α : Type} (f : Nat → α) (k : Nat) : (uptoL f k).length = k := by simp [uptoL]
theorem ltrAt_at {ys : List Int} {len R q : Nat} {h0 : 0 < R} (hq : q < len) (hy : 0 ≤ gi ys q ∧ gi ys q < (R : Int)) : ltrAt ys len R h0 (len - (q + 1)) = ⟨(q, (gi ys q).toNat), by omega⟩ := by
  have e : len - 1 - (len - (q + 1)) = q := by omega
  refine Subtype.ext ?_
  simp only [ltrAt, e]
  rw [Nat.mod_eq_of_lt (by omega)]
/-- What a round keeps. -/
def KpB (n₀ Bs : Nat) (A B : World) : Prop := Below n₀ A B ∧ (Bs < A.heap.size → B.heap[Bs]? = A.heap[Bs]?)
theorem kpB_refl (n₀ Bs : Nat) (A : World) : KpB n₀ Bs A A := ⟨Below.refl _ _, fun _ => rfl⟩
theorem kpB_t {n₀ Bs : Nat} {A B C : World} (h : KpB n₀ Bs A B) (k : KpB n₀ Bs B C) : KpB n₀ Bs A C :=
  ⟨h.1.trans k.1, fun hA => (k.2 (Nat.lt_of_lt_of_le hA h.1.size)).trans (h.2 hA)⟩
theorem kpB_b {n₀ Bs : Nat} {w : World} (hn : n₀ ≤ w.heap.size) (hB : Bs < w.heap.size) (W : World) (l : Nat) (o o' : Obj) (hl : w.heap.size ≤ l) (h : W.heap[l]? = some o) (h1 : o.isCells = false) (h2 : o.isWalk = false) : KpB n₀ Bs W (W.putObj l o') :=
  ⟨belowK_b hn W l o o' hl h h1 h2, fun _ => World.putObj_heap_other (by omega)⟩
end Go.Proofs.YtlnpaplbcocmkaaGreat
