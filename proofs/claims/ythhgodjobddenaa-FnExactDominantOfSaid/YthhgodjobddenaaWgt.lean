/-
  The product of a Cartan matrix with a list of numbers, in both texts.
-/
import Derived.Test.YthhgodjobddenaaSat
import Derived.Test.YthhgodjobddenaaRts
namespace Go.Proofs.Ythhgodjobddenaa
open Go.ChangeShapes Go.WideShapes Go.ChangeAt Go.RowKit
set_option linter.unusedVariables false
set_option linter.unusedSimpArgs false

theorem keptC_call {w w1 w2 : World} {b : Nat} (h : w.grownBy w1 (some b) ∧ ∀ B o, B ≠ b → B < w.heap.size → w1.cell? ⟨B, o, none⟩ = w.cell? ⟨B, o, none⟩) (hE : Ext w1 w2) : w.grownBy w2 (some b) ∧ ∀ B o, B ≠ b → B < w.heap.size → w2.cell? ⟨B, o, none⟩ = w.cell? ⟨B, o, none⟩ :=
  ⟨grownBy_ext h.1 hE, fun B o hne hb => (hE.cells B o (Nat.lt_of_lt_of_le hb h.1.size)).trans (h.2 B o hne hb)⟩
theorem keptC_set {w w1 : World} {b : Nat} (h : w.grownBy w1 (some b) ∧ ∀ B o, B ≠ b → B < w.heap.size → w1.cell? ⟨B, o, none⟩ = w.cell? ⟨B, o, none⟩) (j : Nat) (v : Value) : w.grownBy (w1.setCell ⟨b, j, none⟩ v) (some b) ∧ ∀ B o, B ≠ b → B < w.heap.size → (w1.setCell ⟨b, j, none⟩ v).cell? ⟨B, o, none⟩ = w.cell? ⟨B, o, none⟩ :=
  ⟨grownBy_set (p := ⟨b, j, none⟩) h.1 rfl v, fun B o hne hb => (World.cell?_setCell_other _ _ _ _ (by intro e; injection e with e1; exact hne e1.symm)).trans (h.2 B o hne hb)⟩
theorem keptC_drew {w : World} {b : Nat} : w.grownBy w.drew (some b) ∧ ∀ B o, B ≠ b → B < w.heap.size → w.drew.cell? ⟨B, o, none⟩ = w.cell? ⟨B, o, none⟩ := ⟨⟨rfl, rfl, rfl, Nat.le_refl _, fun _ _ _ => rfl⟩, fun _ _ _ _ => rfl⟩

theorem wgP_length (xs ys : List Int) (R i j : Nat) : (wgP xs ys R i j).length = R := by simp [wgP]
theorem wgL_length (xs ys : List Int) (R : Nat) : (wgL xs ys R).length = R := by simp [wgL]
theorem gi_wgP {xs ys : List Int} {R i j : Nat} (h : i < R) : gi (wgP xs ys R i j) i = wgS xs ys R i j := by
  simp [gi, wgP, h]
theorem wgP_zero (xs ys : List Int) (R : Nat) : wgP xs ys R 0 0 = List.replicate R 0 := by
  apply List.ext_getElem
  · simp [wgP]
  · intro e h1 h2
    simp [wgP, wgS]
theorem wgP_row (xs ys : List Int) (R i : Nat) : wgP xs ys R i R = wgP xs ys R (i + 1) 0 := by
  apply List.ext_getElem
  · simp [wgP]
  · intro e h1 h2
    simp only [wgP, List.getElem_map, List.getElem_range, wgS]
    by_cases h : e < i
    · rw [if_pos h, if_pos (by omega)]
    · rw [if_neg h]
      by_cases h3 : e = i
      · rw [if_pos h3, if_pos (by omega), h3]
      · rw [if_neg h3, if_neg (by omega)]
        split <;> rfl
theorem wgP_done (xs ys : List Int) (R : Nat) : wgP xs ys R R 0 = wgL xs ys R := by
  apply List.ext_getElem
  · simp [wgP, wgL]
  · intro e h1 h2
    have : e < R := by simpa [wgP] using h1
    simp [wgP, wgL, this]
theorem wgP_step {xs ys : List Int} {R i j : Nat} (h : i < R) : (wgP xs ys R i j).set i (wgS xs ys R i j + gi xs (i * R + j) * gi ys j) = wgP xs ys R i (j + 1) := by
  apply List.ext_getElem
  · simp [wgP]
  · intro e h1 h2
    rw [List.getElem_set]
    by_cases h3 : i = e
    · subst h3
      simp [wgP, wgS]
    · rw [if_neg h3]
      simp only [wgP, List.getElem_map, List.getElem_range]
      split
      · rfl
      · rw [if_neg (Ne.symm h3), if_neg (Ne.symm h3)]
theorem gi_wgL {xs ys : List Int} {R i : Nat} (h : i < R) : gi (wgL xs ys R) i = wgS xs ys R i R := by
  simp [gi, wgL, h]
theorem mul_bnd {x y A B : Int} (h1 : -A ≤ x) (h2 : x ≤ A) (h3 : -B ≤ y) (h4 : y ≤ B) : -(A * B) ≤ x * y ∧ x * y ≤ A * B := by
  have a1 := Int.mul_nonneg (show 0 ≤ A - x by omega) (show 0 ≤ B - y by omega)
  have a2 := Int.mul_nonneg (show 0 ≤ A + x by omega) (show 0 ≤ B + y by omega)
  have a3 := Int.mul_nonneg (show 0 ≤ A - x by omega) (show 0 ≤ B + y by omega)
  have a4 := Int.mul_nonneg (show 0 ≤ A + x by omega) (show 0 ≤ B - y by omega)
  rw [Int.sub_mul, Int.mul_sub, Int.mul_sub] at a1
  rw [Int.add_mul, Int.mul_add, Int.mul_add] at a2
  rw [Int.sub_mul, Int.mul_add, Int.mul_add] at a3
  rw [Int.add_mul, Int.mul_sub, Int.mul_sub] at a4
  omega
theorem wgS_bnd {xs ys : List Int} {B : Int} (hx : ∀ e, -3 ≤ gi xs e ∧ gi xs e ≤ 3) (hy : ∀ e, -B ≤ gi ys e ∧ gi ys e ≤ B) (R i : Nat) : ∀ j : Nat, -(3 * B * j) ≤ wgS xs ys R i j ∧ wgS xs ys R i j ≤ 3 * B * j
  | 0 => by simp [wgS]
  | j + 1 => by
    have ih := wgS_bnd hx hy R i j
    have h1 := mul_bnd (hx (i * R + j)).1 (hx (i * R + j)).2 (hy j).1 (hy j).2
    rw [wgS, show ((j + 1 : Nat) : Int) = (j : Int) + 1 by simp, Int.mul_add, Int.mul_one]
    omega

end Go.Proofs.Ythhgodjobddenaa
