/-
  slices.Backward: what a range over it comes to, for letters of a word.
-/
import Derived.RangeFuncNested
import Derived.RangeFuncBound
import Derived.RangeFuncCalls
import Derived.RangeFuncLeaves
import Derived.Shelf.Abstract
import Derived.Shelf.RegionOpen
import Derived.WalkKit
import Derived.OwnWalkIn
import Derived.TacticsInMore
import Derived.LoopNIn
import Derived.LoopIn
import Derived.Test.YtlnpaplbcocmkaaGreatRd5
import Derived.Test.YtlnpaplbcocmkaaGreatTd
import Derived.Test.YtlnpaplbcocmkaaGreatRfl
namespace Go.Proofs.YtlnpaplbcocmkaaGreat
open Go.ChangeShapes Go.WideShapes Go.ChangeAt Go.RowKit Go.Shelf
set_option linter.unusedVariables false
set_option linter.unusedSimpArgs false
attribute [local go_sem] Oper.semAt_some

/-- A place, and a letter. -/
abbrev Ltr (R : Nat) : Type := { p : Nat × Nat // p.2 < R }
def encL {R : Nat} (x : Ltr R) : Array Value := #[.int .i64 (x.1.1 : Int), .int .i64 (x.1.2 : Int)]
/-- What comes in round j: the last place first. -/
def ltrAt (ys : List Int) (len R : Nat) (h0 : 0 < R) (j : Nat) : Ltr R := ⟨(len - 1 - j, (gi ys (len - 1 - j)).toNat % R), Nat.mod_lt _ h0⟩
def uptoL {α : Type} (f : Nat → α) (k : Nat) : List α := (List.range k).map f
theorem uptoL_succ {α : Type} (f : Nat → α) (k : Nat) : uptoL f (k + 1) = uptoL f k ++ [f k] := by simp [uptoL, List.range_succ]
theorem uptoL_length {α : Type} (f : Nat → α) (k : Nat) : (uptoL f k).length = k := by simp [uptoL]
theorem ltrAt_at {ys : List Int} {len R q : Nat} {h0 : 0 < R} (hq : q < len) (hy : 0 ≤ gi ys q ∧ gi ys q < (R : Int)) : ltrAt ys len R h0 (len - (q + 1)) = ⟨(q, (gi ys q).toNat), by omega⟩ := by
  have e : len - 1 - (len - (q + 1)) = q := by omega
  refine Subtype.ext ?_
  simp only [ltrAt, e]
  rw [Nat.mod_eq_of_lt (by omega)]
/-- What a round keeps. -/
def KpB (n₀ Bs : Nat) (A B : World) : Prop := Below n₀ A B ∧ (Bs < A.heap.size → B.heap[Bs]? = A.heap[Bs]?)
theorem kpB_refl (n₀ Bs : Nat) (A : World) : KpB n₀ Bs A A := ⟨Below.refl _ _, fun _ => rfl⟩
theorem kpB_t {n₀ Bs : Nat} {A B C : World} (h : KpB n₀ Bs A B) (k : KpB n₀ Bs B C) : KpB n₀ Bs A C :=
  ⟨h.1.trans k.1, fun hA => (k.2 (Nat.lt_of_lt_of_le hA h.1.size)).trans (h.2 hA)⟩
theorem kpB_b {n₀ Bs : Nat} {w : World} (hn : n₀ ≤ w.heap.size) (hB : Bs < w.heap.size) (W : World) (l : Nat) (o o' : Obj) (hl : w.heap.size ≤ l) (h : W.heap[l]? = some o) (h1 : o.isCells = false) (h2 : o.isWalk = false) : KpB n₀ Bs W (W.putObj l o') :=
  ⟨belowK_b hn W l o o' hl h h1 h2, fun _ => World.putObj_heap_other (by omega)⟩
end Go.Proofs.YtlnpaplbcocmkaaGreat

/-
  byWord: the reflections of a word's letters, the last one first.
-/

namespace Go.Proofs.YtlnpaplbcocmkaaGreat
open Go.ChangeShapes Go.WideShapes Go.ChangeAt Go.RowKit Go.Shelf
set_option linter.unusedVariables false
set_option linter.unusedSimpArgs false
attribute [local go_sem] Oper.semAt_some

theorem extKO {W W' : World} (h : Ext W W') : KeepsOthers W W' := ⟨h.size, fun k o hk ho => (h.block k (Array.getElem?_eq_some_iff.1 hk).1).trans hk⟩
/-- What the letters that came have made of a list. -/
def fedL {R : Nat} (T : Nat → List Int → List Int) (y : List Int) (pre : List (Ltr R)) : List Int := pre.foldl (fun a p => T p.1.2 a) y
theorem fedL_snoc {R : Nat} (T : Nat → List Int → List Int) (y : List Int) (pre : List (Ltr R)) (x : Ltr R) : fedL T y (pre ++ [x]) = T x.1.2 (fedL T y pre) := by simp [fedL]
theorem fedL_P {R : Nat} {T : Nat → List Int → List Int} {P : List Int → Prop} {y : List Int} (h0 : P y) (hT : ∀ u i, i < R → P u → P (T i u)) (pre : List (Ltr R)) : P (fedL T y pre) := by
  have key : ∀ (pre : List (Ltr R)) (u : List Int), P u → P (pre.foldl (fun a p => T p.1.2 a) u) := by
    intro pre
    induction pre with
    | nil => intro u h; exact h
    | cons x l ih => intro u h; exact ih _ (hT u x.1.2 x.2 h)
  exact key pre y h0
theorem fedL_all {R : Nat} (T : Nat → List Int → List Int) (y ys : List Int) (h0 : 0 < R) (h : ∀ e, e < ys.length → 0 ≤ gi ys e ∧ gi ys e < (R : Int)) : fedL T y (uptoL (ltrAt ys ys.length R h0) ys.length) = ys.foldr (fun i a => T i.toNat a) y := by
  have e : (uptoL (ltrAt ys ys.length R h0) ys.length).map (fun p => p.1.2) = (ys.map Int.toNat).reverse := by
    apply List.ext_getElem
    · simp [uptoL]
    · intro i h1 h2
      have hi : i < ys.length := by simpa [uptoL] using h1
      have hb := h (ys.length - 1 - i) (by omega)
      rw [List.getElem_reverse]
      simp only [uptoL, List.getElem_map, List.getElem_range, ltrAt, List.length_map]
      rw [Nat.mod_eq_of_lt (by omega), show gi ys (ys.length - 1 - i) = ys[ys.length - 1 - i] by simp [gi, show ys.length - 1 - i < ys.length by omega]]
  have e2 : fedL T y (uptoL (ltrAt ys ys.length R h0) ys.length) = ((uptoL (ltrAt ys ys.length R h0) ys.length).map (fun p => p.1.2)).foldl (fun a i => T i a) y := by
    rw [List.foldl_map]; rfl
  rw [e2, e, List.foldl_reverse, List.foldr_map]
/-- What byWord holds between two rounds. -/
def heldW (w0 : World) (s0 By R : Nat) (fv : Value) (l : List Int) (W : World) : Prop :=
  (W.cell? ⟨s0, 0, none⟩ = some fv ∧ ∃ b c, W.cell? ⟨By, 0, none⟩ = some (.slice (some ⟨b, 0, none⟩) R c) ∧ W.frozen? ⟨By, 0, none⟩ = false ∧ b ≠ By ∧ w0.heap.size ≤ b ∧ R ≤ c ∧ Has W b l) ∧ Below w0.heap.size w0 W
theorem heldW_own {β : Type} {B : Nat} (w0 : World) (s0 By R : Nat) (fv : Value) (f : β → List Int) (hB : w0.heap.size ≤ B) : OwnFrom B (fun (pre : β) W => heldW w0 s0 By R fv (f pre) W) := by
  refine OwnFrom.and (Own.from (fun s A C row hs hg hr => ?_) _) (ownFrom_below (Nat.le_refl _) hB)
  obtain ⟨h1, b, c, h2, h3, h4, h5, h6, h7⟩ := hs
  refine ⟨cell_kept h1 hg hr, b, c, cell_kept h2 hg hr, (frozen_kept h2 hg hr).trans h3, h4, h5, h6, h7.grownOther hg (fun k hk e => ?_)⟩
  subst e
  obtain ⟨o, ho, hc⟩ := hr k hk
  obtain ⟨r, hrr, _⟩ := h7
  rw [hrr] at ho
  injection ho with ho
  subst ho
  cases hc

end Go.Proofs.YtlnpaplbcocmkaaGreat
