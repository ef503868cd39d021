/-
  The Killing form: the mathematics; the trace of a product.
-/
import Derived.Test.YtapaopapgnfdkaaBr
import Derived.Test.YtapaopapgnfdkaaCs
import Derived.Test.YtapaopapgnfdkaaAd
namespace Go.Proofs.Ytapaopapgnfdkaa
open Go.ChangeShapes Go.WideShapes Go.ChangeAt Go.RowKit
set_option linter.unusedVariables false
set_option linter.unusedSimpArgs false

section
variable {P : Int} {D : Nat} {l xs ys : List Int}
theorem adTo_bas (hl : Res l P) (hll : l.length = D * D * D) {i : Nat} (hi : i < D) : adTo P D l (basL D i) D = rowL (D * D) l i := by
  have h1 : l.length = D * (D * D) := by rw [hll, Nat.mul_assoc]
  refine ext_gi (by rw [adTo_length, rowL_length h1 hi]) (fun q hq => ?_)
  rw [adTo_length] at hq
  rw [gi_adTo _ hq, gi_rowL2 _ _ hq, sumN_one _ hi (fun c hc hne => by rw [gi_basL hi, if_neg hne]; simp), gi_basL hi, if_pos rfl, Int.one_mul]
  have := hl (i * (D * D) + q) (by rw [h1]; exact place_lt hi hq)
  exact Int.emod_eq_of_lt this.1 this.2
/-- One number of the form, before it is reduced. -/
def kilN (D : Nat) (l : List Int) (i j : Nat) : Int := sumN D fun r => sumN D fun c => gi (rowL (D * D) l i) (c * D + r) * gi (rowL (D * D) l j) (r * D + c)
theorem kilN_swap (i j : Nat) : kilN D l i j = kilN D l j i := by
  rw [kilN, kilN, sumN_swap]
  exact sumN_congr (fun r _ => sumN_congr (fun c _ => Int.mul_comm _ _))
theorem sumN_blocks (m n : Nat) (f : Nat → Int) : sumN (m * n) f = sumN m fun r => sumN n fun c => f (r * n + c) := by
  have h : ∀ k r, sumN (r + k) f = sumN r f + sumN k fun c => f (r + c) := by
    intro k
    induction k with
    | zero => intro r; simp [sumN]
    | succ k ih => intro r; rw [← Nat.add_assoc, sumN, ih, sumN, Int.add_assoc]
  induction m with
  | zero => simp [sumN]
  | succ m ih => rw [Nat.add_mul, Nat.one_mul, h, ih, sumN]
/-- The numbers of two lists, multiplied place by place and added. -/
def tpS (xs ys : List Int) (k : Nat) : Int := sumN k fun q => gi xs q * gi ys q
theorem tpS_succ (k : Nat) : tpS xs ys (k + 1) = tpS xs ys k + gi xs k * gi ys k := rfl
theorem tpS_kil (i j : Nat) : tpS (transTo (rowL (D * D) l i) D D D) (rowL (D * D) l j) (D * D) = kilN D l i j := by
  rw [tpS, sumN_blocks, kilN]
  exact sumN_congr (fun r hr => sumN_congr (fun c hc => by rw [gi_transTo D (Nat.le_refl _) r c hr hc, if_pos hc]))
theorem tpS_bd {n : Nat} (hp : P ≤ 10007) (hx : ∀ q, q < n → 0 ≤ gi xs q ∧ gi xs q < P) (hy : ∀ q, q < n → 0 ≤ gi ys q ∧ gi ys q < P) (k : Nat) (hk : k ≤ n) : 0 ≤ tpS xs ys k ∧ tpS xs ys k ≤ 100140049 * k := by
  induction k with
  | zero => simp [tpS, sumN]
  | succ k ih =>
    obtain ⟨i0, i1⟩ := ih (by omega)
    obtain ⟨x0, x1⟩ := hx k (by omega)
    obtain ⟨y0, y1⟩ := hy k (by omega)
    have h0 := Int.mul_nonneg x0 y0
    have h1 : gi xs k * gi ys k ≤ 10007 * 10007 := Int.mul_le_mul (by omega) (by omega) y0 (by omega)
    rw [tpS_succ]
    omega
theorem traceTo_sum (m k : Nat) : traceTo xs m k = sumN k fun q => gi xs (q * m + q) := by
  induction k with
  | zero => rfl
  | succ k ih => rw [traceTo, ih, sumN]
theorem trace_kil (i j : Nat) : traceTo (mulTo P (rowL (D * D) l i) (rowL (D * D) l j) D D D D) D D % P = kilN D l i j % P := by
  rw [traceTo_sum, kilN_swap]
  refine Eqm.to_emod (sumN_eqm (fun r hr => ?_))
  rw [at2_mulTo r r hr hr]
  exact (Eqm.emod _).trans (Eqm.of_eq (sumN_congr (fun c _ => Int.mul_comm _ _)))
/-- The form as a list of numbers. -/
def kilL (P : Int) (D : Nat) (l : List Int) : List Int := (List.range (D * D)).map fun t => kilN D l (t / D) (t % D) % P
theorem kilL_length : (kilL P D l).length = D * D := by simp [kilL]
theorem kilL_eq {ks : List Int} (hk : ks.length = D * D) (h : ∀ i j, i < D → j < D → gi ks (i * D + j) = kilN D l i j % P) : ks = kilL P D l := by
  refine ext_gi (by rw [hk, kilL_length]) (fun t ht => ?_)
  rw [hk] at ht
  have hD : 0 < D := by
    rcases Nat.eq_zero_or_pos D with h | h
    · subst h; simp at ht
    · exact h
  have e : t = t / D * D + t % D := by rw [Nat.mul_comm]; exact (Nat.div_add_mod t D).symm
  rw [kilL, gi_map _ _ ht]
  have := h (t / D) (t % D) (Nat.div_lt_of_lt_mul ht) (Nat.mod_lt _ hD)
  rwa [← e] at this
theorem kil_put {ks : List Int} {v : Int} {i j i' j' : Nat} (hk : ks.length = D * D) (hi : i < D) (hj : j < D) (hj' : j' < D) : gi (ks.set (i * D + j) v) (i' * D + j') = if i' = i ∧ j' = j then v else gi ks (i' * D + j') := by
  rw [gi_set _ _ _ _ (by rw [hk]; exact place_lt hi hj)]
  by_cases h : i' = i
  · subst h
    by_cases h2 : j' = j
    · subst h2; rw [if_pos rfl, if_pos ⟨rfl, rfl⟩]
    · rw [if_neg (by omega), if_neg (fun e => h2 e.2)]
  · rw [if_neg (fun e => ?_), if_neg (fun e => h e.1)]
    rcases Nat.lt_or_gt_of_ne h with g | g
    · have := Nat.mul_le_mul_right D (show i' + 1 ≤ i by omega)
      rw [Nat.add_mul, Nat.one_mul] at this
      omega
    · have := Nat.mul_le_mul_right D (show i + 1 ≤ i' by omega)
      rw [Nat.add_mul, Nat.one_mul] at this
      omega
end
/-- What the Killing form is: behind the question whether the algebra is valid. -/
noncomputable def kilM (P D : Int) (l : List Int) : Mat := if algB P D l then ⟨P, D, D, kilL P D.toNat l⟩ else noMat


end Go.Proofs.Ytapaopapgnfdkaa
