/-
  What is taken into a space: the equations of both texts. Plain mathematics.
-/
import Derived.Test.YtnikfalpjieibaaTk
import Derived.Test.YtnikfalpjieibaaBr
import Derived.Test.YtnikfalpjieibaaCs
import Derived.Test.YtnikfalpjieibaaKr
namespace Go.Proofs.Ytnikfalpjieibaa
set_option linter.unusedVariables false

/-! What is taken into a space: the equations of both texts. -/
section
variable {P : Int} {D R : Nat} {l ss ts : List Int} {pv : List Nat}
/-- The remainder of one vector. -/
def mdL (P : Int) (D : Nat) (ts : List Int) (pv : List Nat) (v : List Int) : List Int := (List.range D).map fun c => rmN P D ts v pv 0 c pv.length
theorem mdL_length (v : List Int) : (mdL P D ts pv v).length = D := by simp [mdL]
theorem gi_mdL (v : List Int) {c : Nat} (hc : c < D) : gi (mdL P D ts pv v) c = rmN P D ts v pv 0 c pv.length := gi_map D _ hc
theorem mdL_res (hP : 0 < P) (v : List Int) : Res (mdL P D ts pv v) P := fun c hc => by
  rw [mdL_length] at hc
  rw [gi_mdL v hc]; exact rmN_res hP _ _ _
/-- The equations of one element: row c has what is left at c of the brackets with the basis elements. -/
def eqB (P : Int) (D : Nat) (l ss ts : List Int) (pv : List Nat) (i : Nat) : List Int := transTo (rmL P D D ts (adTo P D l (rowL D ss i) D) pv) D D D
def eqI (P : Int) (D : Nat) (l ss ts : List Int) (pv : List Nat) (R : Nat) : List Int := bk (eqB P D l ss ts pv) R
theorem eqB_length (i : Nat) : (eqB P D l ss ts pv i).length = D * D := transTo_length _ _ _ _
theorem eqB_res (hP : 2 ≤ P) (i : Nat) : Res (eqB P D l ss ts pv i) P := transTo_res hP (rmL_res (by omega)) _
theorem eqI_length : (eqI P D l ss ts pv R).length = R * D * D := by rw [eqI, bk_length (n := R) (fun i _ => eqB_length i) R (Nat.le_refl _), Nat.mul_assoc]
theorem eqI_res (hP : 2 ≤ P) : Res (eqI P D l ss ts pv R) P := bk_res (n := R) (fun i _ => eqB_res hP i) R (Nat.le_refl _)
theorem at2_eqI {i c k : Nat} (hi : i < R) (hc : c < D) (hk : k < D) : at2 D (eqI P D l ss ts pv R) (i * D + c) k = rmN P D ts (adTo P D l (rowL D ss i) D) pv k c pv.length := by
  have h1 := row_lt (C := D) hc
  have : (i * D + c) * D + k = i * (D * D) + (c * D + k) := by rw [Nat.add_mul, Nat.mul_assoc]; omega
  rw [at2, this, eqI, gi_bk (n := R) (fun i _ => eqB_length i) R (Nat.le_refl _) hi (by omega), eqB, gi_tr hc hk]
  exact at2_rmL hk hc
/-- .. and of the specification: at the columns without a pivot alone. -/
def eqV (P : Int) (D : Nat) (l ss ts : List Int) (pv : List Nat) (i k : Nat) : List Int := mdL P D ts pv (brL P D l (basL D k) (rowL D ss i))
def eqR (P : Int) (D : Nat) (l ss ts : List Int) (pv : List Nat) (i f : Nat) : List Int := (List.range D).map fun k => gi (eqV P D l ss ts pv i k) ((freeTo pv D).getD f 0)
def eqF (P : Int) (D : Nat) (l ss ts : List Int) (pv : List Nat) (i : Nat) : List Int := bk (eqR P D l ss ts pv i) (freeTo pv D).length
def eqS (P : Int) (D : Nat) (l ss ts : List Int) (pv : List Nat) (R : Nat) : List Int := bk (eqF P D l ss ts pv) R
theorem eqR_length (i f : Nat) : (eqR P D l ss ts pv i f).length = D := by simp [eqR]
theorem eqF_length (i : Nat) : (eqF P D l ss ts pv i).length = (freeTo pv D).length * D := bk_length (fun f _ => eqR_length i f) _ (Nat.le_refl _)
theorem eqS_length : (eqS P D l ss ts pv R).length = R * (freeTo pv D).length * D := by rw [eqS, bk_length (n := R) (fun i _ => eqF_length i) R (Nat.le_refl _), Nat.mul_assoc]
theorem free_at {f : Nat} (hf : f < (freeTo pv D).length) : (freeTo pv D).getD f 0 < D ∧ (freeTo pv D).getD f 0 ∉ pv := by
  rw [← mem_freeTo]
  rw [List.getD_eq_getElem?_getD, List.getElem?_eq_getElem hf]
  exact List.getElem_mem hf
theorem eqR_res (hP : 0 < P) (i f : Nat) (hf : f < (freeTo pv D).length) : Res (eqR P D l ss ts pv i f) P := fun k hk => by
  rw [eqR_length] at hk
  rw [eqR, gi_map D _ hk]
  exact mdL_res hP _ _ (by rw [mdL_length]; exact (free_at hf).1)
theorem eqS_res (hP : 0 < P) : Res (eqS P D l ss ts pv R) P := bk_res (n := R) (fun i _ => bk_res (fun f hf => eqR_res hP i f hf) _ (Nat.le_refl _)) R (Nat.le_refl _)
theorem at2_eqS {i f k : Nat} (hi : i < R) (hf : f < (freeTo pv D).length) (hk : k < D) : at2 D (eqS P D l ss ts pv R) (i * (freeTo pv D).length + f) k = gi (eqV P D l ss ts pv i k) ((freeTo pv D).getD f 0) := by
  have h1 := row_lt (C := D) hf
  have : (i * (freeTo pv D).length + f) * D + k = i * ((freeTo pv D).length * D) + (f * D + k) := by rw [Nat.add_mul, Nat.mul_assoc]; omega
  rw [at2, this, eqS, gi_bk (n := R) (fun i _ => eqF_length i) R (Nat.le_refl _) hi (by omega), eqF, gi_bk (fun f _ => eqR_length i f) _ (Nat.le_refl _) hf hk, eqR, gi_map D _ hk]
/-- Brackets in the other order. -/
theorem brN_swap (h : AltP P D l) (x y : Nat → Int) {q : Nat} (hq : q < D) : Eqm P (brN D l x y q) (-brN D l y x q) := by
  have e1 : -brN D l y x q = sumN D fun i => sumN D fun j => x i * y j * -tb D l j i q := by
    have e2 : brN D l y x q = sumN D fun i => sumN D fun j => x i * y j * tb D l j i q := by
      rw [brN, sumN_swap]
      exact sumN_congr (fun i _ => sumN_congr (fun j _ => by grind))
    have e3 : ∀ a : Int, -a = -1 * a := fun a => by omega
    rw [e2, e3, ← sumN_mul]
    refine sumN_congr (fun i _ => ?_)
    rw [← sumN_mul]
    exact sumN_congr (fun j _ => by grind)
  rw [e1, brN]
  exact sumN_eqm (fun i hi => sumN_eqm (fun j hj => (Eqm.refl _).mul (h.neg hi hj hq)))
theorem rmN_neg {v u : List Int} {a b : Nat} (h : ∀ c, c < D → Eqm P (at2 D v a c) (-at2 D u b c)) (hlt : ∀ t, t < pv.length → pv.getD t 0 < D) {c : Nat} (hc : c < D) : Eqm P (rmN P D ts v pv a c pv.length) (-1 * rmN P D ts u pv b c pv.length) := by
  refine (Eqm.emod _).trans (Eqm.trans ?_ ((Eqm.refl _).mul (Eqm.emod _).symm))
  have e : (-1 : Int) * (at2 D u b c - sumN pv.length fun t => at2 D u b (pv.getD t 0) * at2 D ts t c) = -at2 D u b c - sumN pv.length fun t => -at2 D u b (pv.getD t 0) * at2 D ts t c := by
    have : (sumN pv.length fun t => -at2 D u b (pv.getD t 0) * at2 D ts t c) = -1 * sumN pv.length fun t => at2 D u b (pv.getD t 0) * at2 D ts t c := by
      rw [← sumN_mul]; exact sumN_congr (fun t _ => by grind)
    rw [this]; omega
  rw [e]
  exact (h c hc).sub (sumN_eqm (fun t ht => (h _ (hlt t ht)).mul (Eqm.refl _)))
theorem rmN_pv {v : List Int} {a : Nat} (hr : Rref P D (at2 D ts) pv) {t : Nat} (ht : t < pv.length) : rmN P D ts v pv a (pv.getD t 0) pv.length = 0 := by
  have : (sumN pv.length fun s => at2 D v a (pv.getD s 0) * at2 D ts s (pv.getD t 0)) = at2 D v a (pv.getD t 0) := by
    rw [sumN_one _ ht (fun j hj hne => by rw [hr.only t j ht hj hne, Int.mul_zero]), hr.one t ht, Int.mul_one]
  rw [rmN, this, Int.sub_self, Int.zero_emod]
theorem eq_key (h : AltP P D l) (hr : Rref P D (at2 D ts) pv) (i : Nat) {c k : Nat} (hc : c < D) (hk : k < D) :
    Eqm P (rmN P D ts (adTo P D l (rowL D ss i) D) pv k c pv.length) (-1 * gi (eqV P D l ss ts pv i k) c) := by
  rw [eqV, gi_mdL _ hc]
  refine rmN_neg (fun q hq => ?_) hr.lt hc
  have e1 : at2 D (adTo P D l (rowL D ss i) D) k q = brN D l (gi (rowL D ss i)) (gi (basL D k)) q % P := by
    rw [at2, adTo_row hk hq, brN_bas _ hk]
  have e2 : at2 D (brL P D l (basL D k) (rowL D ss i)) 0 q = brN D l (gi (basL D k)) (gi (rowL D ss i)) q % P := by
    rw [at2, Nat.zero_mul, Nat.zero_add, gi_brL _ _ hq]
  rw [e1, e2]
  have e3 : ∀ a : Int, -a = -1 * a := fun a => by omega
  refine (Eqm.emod _).trans ((brN_swap h _ _ hq).trans ?_)
  have e4 : ∀ a : Int, Eqm P (-a) (-(a % P)) := fun a => by rw [e3 a, e3 (a % P)]; exact (Eqm.refl _).mul (Eqm.emod _).symm
  exact e4 _
theorem eq_same (h : AltP P D l) (hr : Rref P D (at2 D ts) pv) : SameSp P D (R * D) (at2 D (eqI P D l ss ts pv R)) (R * (freeTo pv D).length) (at2 D (eqS P D l ss ts pv R)) := by
  constructor
  · intro j hj
    have hD : 0 < D := by
      rcases Nat.eq_zero_or_pos D with e | e
      · subst e; simp at hj
      · exact e
    have e : j = j / D * D + j % D := by rw [Nat.mul_comm]; exact (Nat.div_add_mod j D).symm
    have hi : j / D < R := Nat.div_lt_of_lt_mul (by rw [Nat.mul_comm]; exact hj)
    have hc := Nat.mod_lt j hD
    rw [e]
    generalize j / D = i at hi
    generalize j % D = c at hc
    by_cases hm : c ∈ pv
    · obtain ⟨t, ht, rfl⟩ : ∃ t, t < pv.length ∧ pv.getD t 0 = c := by
        obtain ⟨t, ht, e⟩ := List.mem_iff_getElem.1 hm
        exact ⟨t, ht, by rw [List.getD_eq_getElem?_getD, List.getElem?_eq_getElem ht]; exact e⟩
      refine InSp.congr (v := fun _ => 0) InSp.zero (fun k hk => ?_)
      rw [at2_eqI hi hc hk, rmN_pv hr ht]; exact Eqm.refl _
    · obtain ⟨f, hf, rfl⟩ : ∃ f, f < (freeTo pv D).length ∧ (freeTo pv D).getD f 0 = c := by
        obtain ⟨t, ht, e⟩ := List.mem_iff_getElem.1 (mem_freeTo.2 ⟨hc, hm⟩)
        exact ⟨t, ht, by rw [List.getD_eq_getElem?_getD, List.getElem?_eq_getElem ht]; exact e⟩
      have hrow := row_lt (C := (freeTo pv D).length) hi
      refine InSp.congr ((InSp.row (M := at2 D (eqS P D l ss ts pv R)) (show i * (freeTo pv D).length + f < R * (freeTo pv D).length by omega)).smul (-1)) (fun k hk => ?_)
      rw [at2_eqI hi hc hk, at2_eqS hi hf hk]
      exact eq_key h hr i hc hk
  · intro j hj
    generalize hF : (freeTo pv D).length = F at hj
    have hD : 0 < F := by
      rcases Nat.eq_zero_or_pos F with e | e
      · subst e; simp at hj
      · exact e
    have e : j = j / F * F + j % F := by rw [Nat.mul_comm]; exact (Nat.div_add_mod j F).symm
    have hi : j / F < R := Nat.div_lt_of_lt_mul (by rw [Nat.mul_comm]; exact hj)
    have hc := Nat.mod_lt j hD
    rw [e]
    generalize j / F = i at hi
    generalize j % F = f at hc
    rw [← hF] at hc ⊢
    have hq := (free_at hc).1
    have hrow := row_lt (C := D) hi
    refine InSp.congr ((InSp.row (M := at2 D (eqI P D l ss ts pv R)) (show i * D + (freeTo pv D).getD f 0 < R * D by omega)).smul (-1)) (fun k hk => ?_)
    rw [at2_eqI hi hq hk, at2_eqS hi hc hk]
    have h1 := (Eqm.refl (P := P) (-1)).mul (eq_key (ss := ss) h hr i hq hk)
    rw [← Int.mul_assoc, show (-1 : Int) * -1 = 1 by rfl, Int.one_mul] at h1
    exact h1.symm
end
theorem ker_same {P : Int} {R R' C : Nat} {xs ys : List Int} (hp : IsP P) (hl : xs.length = R * C) (hx : Res xs P) (hl' : ys.length = R' * C) (hy : Res ys P) (h : SameSp P C R (at2 C xs) R' (at2 C ys)) :
    kerN P R C xs = kerN P R' C ys ∧ kerS P R C xs = kerS P R' C ys := by
  obtain ⟨e1, e2⟩ := kerL_same hp hl hx hl' hy h
  unfold kerN kerS
  rw [e1, e2]
  exact ⟨rfl, rfl⟩
end Go.Proofs.Ytnikfalpjieibaa
