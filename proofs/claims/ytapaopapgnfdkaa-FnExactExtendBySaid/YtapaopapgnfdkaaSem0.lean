/-
  One element more: tables. Plain mathematics.
-/
import Derived.Test.YtapaopapgnfdkaaSumA
import Derived.Test.YtapaopapgnfdkaaOrth
namespace Go.Proofs.Ytapaopapgnfdkaa
set_option linter.unusedVariables false

/-! One element more: tables. -/
section
variable {P : Int} {D : Nat} {l ds L : List Int}
theorem gi_pk_out {n off d i j q : Nat} {xs : List Int} (hl : pcB n off i j + d ≤ L.length) (h : q < pcB n off i j ∨ pcB n off i j + d ≤ q) : gi (pkTo n off d xs i j L d) q = gi L q := by
  rw [gi_pkTo hl d (Nat.le_refl _), if_neg (by omega)]
theorem gi_pj_out {n off d i q : Nat} {xs : List Int} (k : Nat) (hl : ∀ j, j < k → pcB n off i j + d ≤ L.length) (h : ∀ j, j < k → q < pcB n off i j ∨ pcB n off i j + d ≤ q) : gi (pjTo n off d xs i L k) q = gi L q := by
  induction k with
  | zero => rfl
  | succ k ih =>
    rw [pjTo, gi_pk_out (by rw [pjTo_length]; exact hl k (by omega)) (h k (by omega)), ih (fun j hj => hl j (by omega)) (fun j hj => h j (by omega))]
theorem gi_pi_out {n off d q : Nat} {xs : List Int} (k : Nat) (hl : ∀ i j, i < k → j < d → pcB n off i j + d ≤ L.length) (h : ∀ i j, i < k → j < d → q < pcB n off i j ∨ pcB n off i j + d ≤ q) : gi (piTo n off d xs L k) q = gi L q := by
  induction k with
  | zero => rfl
  | succ k ih =>
    rw [piTo, gi_pj_out d (fun j hj => by rw [piTo_length]; exact hl k j (by omega) hj) (fun j hj => h k j (by omega) hj), ih (fun i j hi hj => hl i j (by omega) hj) (fun i j hi hj => h i j (by omega) hj)]
/-- The table with one element more behind the others. -/
def grT (D : Nat) (l : List Int) : List Int := piTo (D + 1) 0 D l (List.replicate ((D + 1) * (D + 1) * (D + 1)) 0) D
theorem grT_length : (grT D l).length = (D + 1) * (D + 1) * (D + 1) := by rw [grT, piTo_length, List.length_replicate]
theorem set_same {L : List Int} {q : Nat} {v : Int} (hq : q < L.length) (h : gi L q = v) : L.set q v = L := by
  refine ext_gi (by simp) (fun k hk => ?_)
  rw [gi_set _ _ _ _ hq]
  split
  · next e => rw [e, h]
  · rfl
theorem grT_one : piTo (D + 1) D 1 [0] (grT D l) 1 = grT D l := by
  have h1 := pcB_lt (n := D + 1) (off := D) (d := 1) (i := 0) (j := 0) (by omega) (by omega) (by omega)
  have e : piTo (D + 1) D 1 [0] (grT D l) 1 = (grT D l).set (pcB (D + 1) D 0 0) 0 := rfl
  rw [e]
  refine set_same (by rw [grT_length]; exact h1.2.2) ?_
  rw [grT, gi_pi_out D (fun i j hi hj => by rw [List.length_replicate]; exact (pcB_lt (n := D + 1) (off := 0) hi hj (by omega)).1) (fun i j hi hj => Or.inr ?_)]
  · simp [gi, List.getD_eq_getElem?_getD, List.getElem?_replicate]
    split <;> rfl
  · have h2 : (i + 1) * (D + 1) ≤ D * (D + 1) := Nat.mul_le_mul_right _ (by omega)
    rw [Nat.add_mul, Nat.one_mul] at h2
    have h3 : (i * (D + 1) + (j + 1)) * (D + 1) ≤ (D * (D + 1) + D) * (D + 1) := Nat.mul_le_mul_right _ (by omega)
    simp only [pcB, Nat.zero_add, Nat.add_zero]
    rw [show i * (D + 1) + (j + 1) = (i * (D + 1) + j) + 1 by omega, Nat.add_mul, Nat.one_mul] at h3
    omega
/-- Where the brackets of the new element with j begin, in both orders. -/
def nwA (D j : Nat) : Nat := (D * (D + 1) + j) * (D + 1)
def nwB (D j : Nat) : Nat := (j * (D + 1) + D) * (D + 1)
theorem nw_lt {j k : Nat} (hj : j < D) (hk : k ≤ D) : nwA D j + k < (D + 1) * (D + 1) * (D + 1) ∧ nwB D j + k < (D + 1) * (D + 1) * (D + 1) ∧ (nwA D j + k < nwB D j ∨ nwB D j + D < nwA D j) := by
  have h1 : D * (D + 1) + j + 1 ≤ (D + 1) * (D + 1) := by rw [Nat.add_mul]; omega
  have h2 := Nat.mul_le_mul_right (D + 1) h1
  rw [Nat.add_mul, Nat.one_mul] at h2
  have h0 : (j + 1) * (D + 1) ≤ D * (D + 1) := Nat.mul_le_mul_right _ (by omega)
  rw [Nat.add_mul, Nat.one_mul] at h0
  have h3 : j * (D + 1) + D + 1 ≤ D * (D + 1) + j := by omega
  have h4 := Nat.mul_le_mul_right (D + 1) h3
  rw [Nat.add_mul, Nat.one_mul] at h4
  unfold nwA nwB
  exact ⟨by omega, by omega, Or.inr (by omega)⟩
/-- The new element's brackets with j, number by number. -/
def smK (P : Int) (D : Nat) (ds : List Int) (j : Nat) (L : List Int) : Nat → List Int
  | 0 => L
  | k + 1 => ((smK P D ds j L k).set (nwA D j + k) (at2 D ds j k)).set (nwB D j + k) ((0 - at2 D ds j k) % P)
def smJ (P : Int) (D : Nat) (ds : List Int) (L : List Int) : Nat → List Int
  | 0 => L
  | j + 1 => smK P D ds j (smJ P D ds L j) D
theorem smK_length (j k : Nat) : (smK P D ds j L k).length = L.length := by
  induction k with
  | zero => rfl
  | succ k ih => rw [smK, List.length_set, List.length_set, ih]
theorem smJ_length (j : Nat) : (smJ P D ds L j).length = L.length := by
  induction j with
  | zero => rfl
  | succ j ih => rw [smJ, smK_length, ih]
theorem gi_smK {j : Nat} (hj : j < D) (hl : L.length = (D + 1) * (D + 1) * (D + 1)) (k : Nat) (hk : k ≤ D) (q : Nat) : gi (smK P D ds j L k) q = if nwA D j ≤ q ∧ q < nwA D j + k then at2 D ds j (q - nwA D j) else if nwB D j ≤ q ∧ q < nwB D j + k then (0 - at2 D ds j (q - nwB D j)) % P else gi L q := by
  induction k with
  | zero => rw [smK, if_neg (by omega), if_neg (by omega)]
  | succ k ih =>
    have h := nw_lt (D := D) hj (show k ≤ D by omega)
    have h0 := nw_lt (D := D) hj (show D ≤ D by omega)
    rw [smK, gi_set _ _ _ _ (by rw [List.length_set, smK_length, hl]; exact h.2.1), gi_set _ _ _ _ (by rw [smK_length, hl]; exact h.1), ih (by omega)]
    by_cases e1 : q = nwB D j + k
    · subst e1
      rw [if_pos rfl, if_neg (by omega), if_pos (by omega), Nat.add_sub_cancel_left]
    · rw [if_neg e1]
      by_cases e2 : q = nwA D j + k
      · subst e2
        rw [if_pos rfl, if_pos (by omega), Nat.add_sub_cancel_left]
      · rw [if_neg e2]
        by_cases e3 : nwA D j ≤ q ∧ q < nwA D j + k
        · rw [if_pos e3, if_pos (by omega)]
        · rw [if_neg e3]
          by_cases e4 : nwB D j ≤ q ∧ q < nwB D j + k
          · rw [if_pos e4, if_neg (by omega), if_pos (by omega)]
          · rw [if_neg e4, if_neg (by omega), if_neg (by omega)]
/-- .. and as the program does it: a copied row, then the other order. -/
def smO (P : Int) (D : Nat) (ds : List Int) (j : Nat) (L : List Int) : Nat → List Int
  | 0 => L
  | k + 1 => (smO P D ds j L k).set (nwB D j + k) ((-at2 D ds j k) % P)
theorem smO_length (j k : Nat) : (smO P D ds j L k).length = L.length := by
  induction k with
  | zero => rfl
  | succ k ih => rw [smO, List.length_set, ih]
theorem gi_smO {j : Nat} (hj : j < D) (hl : L.length = (D + 1) * (D + 1) * (D + 1)) (k : Nat) (hk : k ≤ D) (q : Nat) : gi (smO P D ds j L k) q = if nwB D j ≤ q ∧ q < nwB D j + k then (0 - at2 D ds j (q - nwB D j)) % P else gi L q := by
  induction k with
  | zero => rw [smO, if_neg (by omega)]
  | succ k ih =>
    have h := nw_lt (D := D) hj (show k ≤ D by omega)
    rw [smO, gi_set _ _ _ _ (by rw [smO_length, hl]; exact h.2.1), ih (by omega)]
    by_cases e1 : q = nwB D j + k
    · subst e1
      rw [if_pos rfl, if_pos (by omega), Nat.add_sub_cancel_left, Int.zero_sub]
    · rw [if_neg e1]
      by_cases e4 : nwB D j ≤ q ∧ q < nwB D j + k
      · rw [if_pos e4, if_pos (by omega)]
      · rw [if_neg e4, if_neg (by omega)]
theorem smO_eq {j : Nat} (hj : j < D) (hl : L.length = (D + 1) * (D + 1) * (D + 1)) (hd : ds.length = D * D) : smO P D ds j (spl L (nwA D j) (rowL D ds j)) D = smK P D ds j L D := by
  have h0 := nw_lt (D := D) hj (show D ≤ D by omega)
  have hr : (rowL D ds j).length = D := rowL_length hd hj
  have hs : (spl L (nwA D j) (rowL D ds j)).length = L.length := spl_length _ _ _ (by rw [hr]; omega)
  refine ext_gi (by rw [smO_length, smK_length, hs]) (fun q _ => ?_)
  rw [gi_smO hj (hs.trans hl) D (Nat.le_refl _), gi_smK hj hl D (Nat.le_refl _), gi_spl _ _ _ (by rw [hr]; omega), hr]
  by_cases e : nwA D j ≤ q ∧ q < nwA D j + D
  · rw [if_neg (by omega), if_pos e, if_pos e, gi_rowL (by omega)]
  · rw [if_neg e, if_neg e]
/-- The value of a form, as the number of the new element. -/
def exJ (D : Nat) (ds : List Int) (i : Nat) (L : List Int) : Nat → List Int
  | 0 => L
  | j + 1 => (exJ D ds i L j).set ((i * (D + 1) + j) * (D + 1) + D) (at2 D ds i j)
def exI (D : Nat) (ds : List Int) (L : List Int) : Nat → List Int
  | 0 => L
  | i + 1 => exJ D ds i (exI D ds L i) D
theorem exJ_length (i j : Nat) : (exJ D ds i L j).length = L.length := by
  induction j with
  | zero => rfl
  | succ j ih => rw [exJ, List.length_set, ih]
theorem exI_length (i : Nat) : (exI D ds L i).length = L.length := by
  induction i with
  | zero => rfl
  | succ i ih => rw [exI, exJ_length, ih]
theorem ex_lt {i j : Nat} (hi : i < D) (hj : j < D) : (i * (D + 1) + j) * (D + 1) + D < (D + 1) * (D + 1) * (D + 1) := by
  have h0 : (i + 1) * (D + 1) ≤ D * (D + 1) := Nat.mul_le_mul_right _ (by omega)
  rw [Nat.add_mul, Nat.one_mul] at h0
  have h1 : i * (D + 1) + j + 1 ≤ (D + 1) * (D + 1) := by rw [Nat.add_mul]; omega
  have h2 := Nat.mul_le_mul_right (D + 1) h1
  rw [Nat.add_mul, Nat.one_mul] at h2
  omega
end
end Go.Proofs.Ytapaopapgnfdkaa
