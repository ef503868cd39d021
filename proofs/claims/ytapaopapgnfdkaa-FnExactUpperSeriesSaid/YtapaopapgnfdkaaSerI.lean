/-
  Series of the program: a step is repeated.
-/
import Derived.Test.YtapaopapgnfdkaaMatS
import Derived.Test.YtapaopapgnfdkaaPrI0
import Derived.Test.YtapaopapgnfdkaaPerf
namespace Go.Proofs.Ytapaopapgnfdkaa
open Go.ChangeShapes Go.WideShapes Go.ChangeAt Go.RowKit
set_option linter.unusedVariables false
set_option linter.unusedSimpArgs false

def lenOf : Value → Nat | .slice _ n _ => n | _ => 0
/-- A box of a matrix, whole. -/
theorem BoxM.typed {w : World} {B : Nat} {vs : List Value} (h : BoxM w B vs) : w.heap[B]? = some (.cells vs.toArray 40 (0, 0)) := h

theorem ser_step {w w5 : World} {base hi LB b2 : Nat} {v : Value} {P : Int} {D k : Nat} {s : Nat → Nat × List Int} {x0 x1 x2 x3 : Value} {vs : List Value} {xs : List Int} (hL : BoxM w5 LB vs) (hv : vs.length = 4) (hM : MatS w5 base hi v P D s k) (hne : ∀ z, v.ownBlock = some z → w.heap.size ≤ z ∧ z ≠ LB) (hE : Ext w w5) (hlb : w.heap.size ≤ LB) (hH : Has w5 b2 xs) (hb : b2 ≠ LB) (hhi : hi ≤ w5.heap.size) :
    BoxM (((((w5.setCell ⟨LB, 0, none⟩ x0).setCell ⟨LB, 1, none⟩ x1).setCell ⟨LB, 2, none⟩ x2).setCell ⟨LB, 3, none⟩ x3).alloc (.cells #[x0, x1, x2, x3] 40)) w5.heap.size [x0, x1, x2, x3] ∧
    Has (((((w5.setCell ⟨LB, 0, none⟩ x0).setCell ⟨LB, 1, none⟩ x1).setCell ⟨LB, 2, none⟩ x2).setCell ⟨LB, 3, none⟩ x3).alloc (.cells #[x0, x1, x2, x3] 40)) b2 xs ∧
    MatS (((((w5.setCell ⟨LB, 0, none⟩ x0).setCell ⟨LB, 1, none⟩ x1).setCell ⟨LB, 2, none⟩ x2).setCell ⟨LB, 3, none⟩ x3).alloc (.cells #[x0, x1, x2, x3] 40)) base (((((w5.setCell ⟨LB, 0, none⟩ x0).setCell ⟨LB, 1, none⟩ x1).setCell ⟨LB, 2, none⟩ x2).setCell ⟨LB, 3, none⟩ x3).alloc (.cells #[x0, x1, x2, x3] 40)).heap.size v P D s k ∧
    (∀ z, v.ownBlock = some z → w.heap.size ≤ z ∧ z ≠ w5.heap.size) ∧
    Ext w (((((w5.setCell ⟨LB, 0, none⟩ x0).setCell ⟨LB, 1, none⟩ x1).setCell ⟨LB, 2, none⟩ x2).setCell ⟨LB, 3, none⟩ x3).alloc (.cells #[x0, x1, x2, x3] 40)) ∧ w.heap.size ≤ w5.heap.size := by
  have hn : v.ownBlock ≠ some LB := fun e => (hne LB e).2 rfl
  have b0 := hL.put 0 x0
  have b1 := b0.put 1 x1
  have b2' := b1.put 2 x2
  have m0 := hM.put hL hn 0 x0
  have m1 := m0.put b0 hn 1 x1
  have m2 := m1.put b1 hn 2 x2
  have m3 := m2.put b2' hn 3 x3
  have hnew := boxM_new ((((w5.setCell ⟨LB, 0, none⟩ x0).setCell ⟨LB, 1, none⟩ x1).setCell ⟨LB, 2, none⟩ x2).setCell ⟨LB, 3, none⟩ x3) [x0, x1, x2, x3]
  refine ⟨by simpa using hnew, ?_, (m3.ext ((Ext.refl _).alloc _)).mono (by simp; omega), fun z hz => ⟨(hne z hz).1, fun e => by have := (hM.blk z hz).2; omega⟩, (ext4 hE hlb _ _ _ _).alloc _, hE.le⟩
  exact ((((hH.setOther (p := ⟨LB, 0, none⟩) (Ne.symm hb) x0).setOther (p := ⟨LB, 1, none⟩) (Ne.symm hb) x1).setOther (p := ⟨LB, 2, none⟩) (Ne.symm hb) x2).setOther (p := ⟨LB, 3, none⟩) (Ne.symm hb) x3).alloc _
theorem Has.grownNe {w w' : World} {b : Nat} {xs : List Int} {row : Option Nat} (h : Has w b xs) (hg : w.grownBy w' row) (hne : row ≠ some b) : Has w' b xs := by
  obtain ⟨r, h1, h2⟩ := h
  exact ⟨r, by rw [hg.block b (Array.getElem?_eq_some_iff.1 h1).1 (fun e => hne e.symm)]; exact h1, h2⟩

noncomputable def derM (P D : Int) (l : List Int) : List Mat := if algB P D l then serL P D.toNat (derS P D.toNat l) (derN P D.toNat l + 1) else []
noncomputable def lowM (P D : Int) (l : List Int) : List Mat := if algB P D l then serL P D.toNat (lowS P D.toNat l) (lowN P D.toNat l + 1) else []
end Go.Proofs.Ytapaopapgnfdkaa
