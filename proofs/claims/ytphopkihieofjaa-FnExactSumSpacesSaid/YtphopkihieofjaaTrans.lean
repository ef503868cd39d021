/-
  The transpose, both texts.
-/
import Derived.Test.YtphopkihieofjaaTrace
import Derived.Deep.RegionHeld3
namespace Go.Proofs.Ytphopkihieofjaa
open Go.RowKit
set_option linter.unusedVariables false

/-- Row i of an R x C matrix xs, laid into column i of l: its first j numbers. -/
def colTo (xs : List Int) (R C i : Nat) (l : List Int) : Nat → List Int
  | 0 => l
  | j + 1 => (colTo xs R C i l j).set (j * R + i) (gi xs (i * C + j))
/-- The first i rows laid as columns. -/
def transTo (xs : List Int) (R C : Nat) : Nat → List Int
  | 0 => List.replicate (C * R) 0
  | i + 1 => colTo xs R C i (transTo xs R C i) C
theorem colTo_length (xs : List Int) (R C i : Nat) (l : List Int) (j : Nat) : (colTo xs R C i l j).length = l.length := by
  induction j with
  | zero => rfl
  | succ j ih => simp [colTo, ih]
theorem transTo_length (xs : List Int) (R C i : Nat) : (transTo xs R C i).length = C * R := by
  induction i with
  | zero => simp [transTo]
  | succ i ih => simp [transTo, colTo_length, ih]
noncomputable def transM (P R C : Int) (xs : List Int) : Mat := if mok P R C xs then ⟨P, C, R, transTo xs R.toNat C.toNat R.toNat⟩ else noMat
theorem place_lt {R C i j : Nat} (hi : i < R) (hj : j < C) : i * C + j < R * C := by
  have : (i + 1) * C ≤ R * C := Nat.mul_le_mul_right C hi
  rw [Nat.add_mul] at this
  omega
theorem mul40 {R C : Nat} (h : R ≤ 40) (h' : C ≤ 40) : R * C ≤ 1600 := Nat.mul_le_mul h h'

/-- What a region keeps that writes into block b alone, at its end. -/
theorem keptB_refl (w : World) (b : Nat) : w.grownBy w (some b) ∧ ∀ B o, B ≠ b → B < w.heap.size → w.cell? ⟨B, o, none⟩ = w.cell? ⟨B, o, none⟩ := ⟨grownBy_refl _ _, fun _ _ _ _ => rfl⟩
theorem keptB_call {w w1 w2 : World} {b : Nat} (h : w.grownBy w1 (some b) ∧ ∀ B o, B ≠ b → B < w.heap.size → w1.cell? ⟨B, o, none⟩ = w.cell? ⟨B, o, none⟩) (hE : Ext w1 w2) : w.grownBy w2 (some b) ∧ ∀ B o, B ≠ b → B < w.heap.size → w2.cell? ⟨B, o, none⟩ = w.cell? ⟨B, o, none⟩ :=
  ⟨⟨hE.os.trans h.1.os, hE.tape.trans h.1.tape, hE.output.trans h.1.output, Nat.le_trans h.1.size hE.le, fun k hk hne => (hE.block k (Nat.lt_of_lt_of_le hk h.1.size)).trans (h.1.block k hk hne)⟩, fun B o hB hl => (hE.cells B o (Nat.lt_of_lt_of_le hl h.1.size)).trans (h.2 B o hB hl)⟩
theorem keptB_set {w w1 : World} {b : Nat} (h : w.grownBy w1 (some b) ∧ ∀ B o, B ≠ b → B < w.heap.size → w1.cell? ⟨B, o, none⟩ = w.cell? ⟨B, o, none⟩) (j : Nat) (v : Value) : w.grownBy (w1.setCell ⟨b, j, none⟩ v) (some b) ∧ ∀ B o, B ≠ b → B < w.heap.size → (w1.setCell ⟨b, j, none⟩ v).cell? ⟨B, o, none⟩ = w.cell? ⟨B, o, none⟩ :=
  ⟨grownBy_set (p := ⟨b, j, none⟩) h.1 rfl v, fun B o hB hl => (World.cell?_setCell_other _ _ _ _ (by intro e; injection e with e1; exact hB e1.symm)).trans (h.2 B o hB hl)⟩
theorem keptB_drew {w : World} {b : Nat} : w.grownBy w.drew (some b) ∧ ∀ B o, B ≠ b → B < w.heap.size → w.drew.cell? ⟨B, o, none⟩ = w.cell? ⟨B, o, none⟩ := ⟨⟨rfl, rfl, rfl, Nat.le_refl _, fun _ _ _ => rfl⟩, fun _ _ _ _ => rfl⟩

set_option maxHeartbeats 800000 in
theorem rowOf_impl (P R : Int) (C i b0 o0 n : Nat) (w : World) (hlt : (i + 1) * C ≤ n) (hn : n ≤ 1048576) (hi : i ≤ 1048576) :
    Calls Try.prog 69 #[.agg #[.int .i64 P, .int .i64 R, .int .i64 C, .slice (some ⟨b0, o0, none⟩) n n], .int .i64 i] w fun e w' => e = .returned (.slice (some ⟨b0, o0 + i * C, none⟩) C (n - i * C)) ∧ Ext w w' := by
  have e0 : (i + 1) * C = i * C + C := by rw [Nat.add_mul]; omega
  have e1 : (i : Int) * (C : Int) = ((i * C : Nat) : Int) := by simp
  have e2 : ((i : Int) + 1) * (C : Int) = ((i * C + C : Nat) : Int) := by rw [← e0]; simp
  have g1 : 0 ≤ (i : Int) * (C : Int) := by rw [e1]; omega
  have g2 : (i : Int) * (C : Int) ≤ 1048576 := by rw [e1]; omega
  have g3 : 0 ≤ ((i : Int) + 1) * (C : Int) := by rw [e2]; omega
  have g4 : ((i : Int) + 1) * (C : Int) ≤ (n : Int) := by rw [e2]; omega
  have g5 : (i : Int) * (C : Int) ≤ ((i : Int) + 1) * (C : Int) := by rw [e1, e2]; omega
  have g6 : (i : Int) ≤ 1048576 := by omega
  have E0 := Lib.hid e0
  clear e0 e1 e2
  go_enter Try.func69, Try.ntmps69
  go_wp2
  case inl =>
    have e3 : C = 0 := by have := E0.out; omega
    subst e3
    simp only [Nat.mul_zero] at h
    subst h
    go_ret
    exact ⟨by simp, (Ext.refl _).alloc _⟩
  case inr =>
    have e3 : (i + 1) * C - i * C = C := by have := E0.out; omega
    go_ret
    exact ⟨by simp [e3], (Ext.refl _).alloc _⟩

end Go.Proofs.Ytphopkihieofjaa
