/-
  Turns of a weight at its numbers below 0, and why they end. Plain mathematics.
-/
import Derived.Test.YtlnpaplbcocmkaaGreatWgt
import Derived.Test.YtlnpaplbcocmkaaGreatRts
namespace Go.Proofs.YtlnpaplbcocmkaaGreat
set_option linter.unusedVariables false
set_option linter.unusedSimpArgs false
set_option maxRecDepth 100000

/-- A simple reflection of a weight. -/
def turnM (xs : List Int) (R i : Nat) (w : List Int) : List Int := (List.range R).map fun k => gi w k - gi w i * gi xs (k * R + i)
/-- Where the first number below 0 stands; the length if there is none. -/
def negI (w : List Int) : Nat := w.findIdx (fun n => decide (n < 0))
/-- What a list of coefficients makes of a weight, and of a column. -/
def dotS (h w : List Int) : Nat → Int
  | 0 => 0
  | k + 1 => dotS h w k + gi h k * gi w k
def colS (xs h : List Int) (R i : Nat) : Nat → Int
  | 0 => 0
  | k + 1 => colS xs h R i k + gi h k * gi xs (k * R + i)
theorem turnM_len (xs : List Int) (R i : Nat) (w : List Int) : (turnM xs R i w).length = R := by simp [turnM]
theorem gi_turnM {xs w : List Int} {R i k : Nat} (h : k < R) : gi (turnM xs R i w) k = gi w k - gi w i * gi xs (k * R + i) := by simp [turnM, gi, h]
theorem dot_turn (xs h w : List Int) (R i : Nat) : ∀ n, n ≤ R → dotS h (turnM xs R i w) n = dotS h w n - gi w i * colS xs h R i n
  | 0, _ => by simp [dotS, colS]
  | n + 1, hn => by
    rw [dotS, dotS, colS, dot_turn xs h w R i n (by omega), gi_turnM (by omega), Int.mul_sub, Int.mul_add, Int.mul_left_comm (gi w i)]
    omega
/-- The least list of numbers from 1 on of which each row makes at least 1. -/
def rowH (xs y : List Int) (R i : Nat) : Int := wgS xs y R i R
def liftY (xs : List Int) (R : Nat) : Nat → List Int → List Int
  | 0, y => y
  | f + 1, y => match (List.range R).find? (fun i => decide (rowH xs y R i ≤ 0)) with
    | some i => liftY xs R f (y.set i (gi y i + 1))
    | none => y
def hOf (xs ls : List Int) (R : Nat) : List Int := (List.range R).map fun i => gi ls i * gi (liftY xs R 200 (List.replicate R 1)) i
def certH (xs ls : List Int) (R : Nat) : Bool := (hOf xs ls R).all (fun n => decide (0 ≤ n ∧ n ≤ 64)) && (List.range R).all fun i => decide (1 ≤ colS xs (hOf xs ls R) R i R)
theorem certH_1 : tab1.all (fun t => certH t.1 t.2.2 1) = true := by decide +kernel
theorem certH_2 : tab2.all (fun t => certH t.1 t.2.2 2) = true := by decide +kernel
theorem certH_3 : tab3.all (fun t => certH t.1 t.2.2 3) = true := by decide +kernel
theorem certH_4 : tab4.all (fun t => certH t.1 t.2.2 4) = true := by decide +kernel
theorem tab_certH : ∀ R, 0 < R → R < 5 → (tab R).all (fun t => certH t.1 t.2.2 R) = true := by
  intro R h0 h1
  match R, h0, h1 with
  | 1, _, _ => exact certH_1
  | 2, _, _ => exact certH_2
  | 3, _, _ => exact certH_3
  | 4, _, _ => exact certH_4
/-- A list that each turn at a number below 0 makes more of. -/
structure Climbs (xs h : List Int) (R : Nat) : Prop where
  bnd : ∀ k, 0 ≤ gi h k ∧ gi h k ≤ 64
  col : ∀ i, i < R → 1 ≤ colS xs h R i R
theorem climbs_tab {R : Nat} {xs : List Int} {v : List Nat × List Int} (h0 : 0 < R) (hR : R ≤ 4) (h : tabGet R xs = some v) : ∃ hh, Climbs xs hh R := by
  have h1 := List.all_eq_true.1 (tab_certH R h0 (by omega)) _ (tabGet_mem h)
  simp only [certH, Bool.and_eq_true, List.all_eq_true, decide_eq_true_eq, List.mem_range] at h1
  refine ⟨hOf xs v.2 R, fun k => ?_, fun i hi => h1.2 i hi⟩
  by_cases hk : k < (hOf xs v.2 R).length
  · rw [show gi (hOf xs v.2 R) k = (hOf xs v.2 R)[k] by simp [gi, hk]]
    exact h1.1 _ (List.getElem_mem hk)
  · rw [show gi (hOf xs v.2 R) k = 0 by simp [gi, List.getD_eq_getElem?_getD, hk]]; omega
theorem dot_bnd {h w : List Int} {B : Int} (hh : ∀ k, 0 ≤ gi h k ∧ gi h k ≤ 64) (hw : ∀ k, -B ≤ gi w k ∧ gi w k ≤ B) (hB : 0 ≤ B) : ∀ n : Nat, -(64 * B * n) ≤ dotS h w n ∧ dotS h w n ≤ 64 * B * n
  | 0 => by simp [dotS]
  | n + 1 => by
    have ih := dot_bnd hh hw hB n
    have h1 := mul_bnd (x := gi h n) (y := gi w n) (A := 64) (B := B) (by have := hh n; omega) (hh n).2 (hw n).1 (hw n).2
    rw [dotS]
    have h2 : 64 * B * ((n + 1 : Nat) : Int) = 64 * B * (n : Int) + 64 * B := by rw [Int.natCast_add, Int.mul_add]; simp
    rw [h2]
    omega
/-- A turn at a number below 0 goes up. -/
theorem climb_up {xs h w : List Int} {R i : Nat} (hc : Climbs xs h R) (hi : i < R) (hn : gi w i < 0) : dotS h w R < dotS h (turnM xs R i w) R := by
  rw [dot_turn xs h w R i R (Nat.le_refl _)]
  have h1 := Int.mul_le_mul_of_nonneg_left (hc.col i hi) (show 0 ≤ - gi w i by omega)
  rw [Int.neg_mul, Int.neg_mul] at h1
  omega
/-- How far a weight may still climb. -/
def climbN (h w : List Int) (R : Nat) : Nat := (256001 - dotS h w R).toNat
theorem climbN_lt {xs h w : List Int} {R i : Nat} (hR : R ≤ 4) (hc : Climbs xs h R) (hi : i < R) (hn : gi w i < 0) (hw : ∀ k, -1000 ≤ gi w k ∧ gi w k ≤ 1000) : climbN h (turnM xs R i w) R < climbN h w R := by
  have h1 := climb_up hc hi hn
  have h2 := dot_bnd (B := 1000) hc.bnd hw (by omega) R
  have h3 : (64 * 1000 * (R : Int)) ≤ 256000 := by omega
  unfold climbN
  omega
theorem negI_lt {w : List Int} (h : negI w < w.length) : gi w (negI w) < 0 := by
  have := List.findIdx_getElem (xs := w) (p := fun n => decide (n < 0)) (w := h)
  rw [show gi w (negI w) = w[negI w] by simp [gi, h]]
  exact of_decide_eq_true this
theorem negI_before {w : List Int} {k : Nat} (h : k < negI w) (hk : k < w.length) : 0 ≤ gi w k := by
  have := List.not_of_lt_findIdx (p := fun n => decide (n < 0)) h
  rw [show gi w k = w[k] by simp [gi, hk]]
  simp at this
  omega
theorem negI_of {w : List Int} {k : Nat} (hk : k < w.length) (h0 : ∀ e, e < k → 0 ≤ gi w e) (h : gi w k < 0) : negI w = k := by
  rw [negI, List.findIdx_eq hk]
  constructor
  · rw [show gi w k = w[k] by simp [gi, hk]] at h
    exact decide_eq_true h
  · intro j hj
    have := h0 j hj
    rw [show gi w j = w[j]'(by omega) by simp [gi, show j < w.length by omega]] at this
    exact decide_eq_false (by omega)
theorem negI_none {w : List Int} (h0 : ∀ e, e < w.length → 0 ≤ gi w e) : negI w = w.length := by
  rw [negI, List.findIdx_eq_length]
  intro x hx
  obtain ⟨e, he, rfl⟩ := List.mem_iff_getElem.1 hx
  have := h0 e he
  rw [show gi w e = w[e] by simp [gi, he]] at this
  exact decide_eq_false (by omega)
end Go.Proofs.YtlnpaplbcocmkaaGreat
