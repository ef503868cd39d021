/-
  Rows exchanged, multiplied and cleared: what a reduction does, and what its rows span. Plain mathematics.
-/
import Derived.Test.YtnikfalpjieibaaTm
namespace Go.Proofs.Ytnikfalpjieibaa
set_option linter.unusedVariables false

/-- Two rows exchanged: their first j numbers. -/
def swTo (o o2 : Nat) (l : List Int) : Nat → List Int
  | 0 => l
  | j + 1 => ((swTo o o2 l j).set (o + j) (gi l (o2 + j))).set (o2 + j) (gi l (o + j))
/-- A row multiplied by k: its first j numbers. -/
def scTo (p k : Int) (o : Nat) (l : List Int) : Nat → List Int
  | 0 => l
  | j + 1 => (scTo p k o l j).set (o + j) (gi l (o + j) * k % p)
/-- Row r is taken so often from row i that nothing is left in column c. -/
def clOne (P : Int) (C r c i : Nat) (m : List Int) : List Int := if i = r ∨ gi m (i * C + c) = 0 then m else axTo P (P - gi m (i * C + c)) m (i * C) (r * C) m C
/-- .. from each of the first rows. -/
def clTo (P : Int) (C r c : Nat) (l : List Int) : Nat → List Int
  | 0 => l
  | i + 1 => clOne P C r c i (clTo P C r c l i)
/-- The first row from k on with a number in column c, or R. -/
def fnz (l : List Int) (C c R k : Nat) : Nat := if k < R then (if gi l (k * C + c) = 0 then fnz l C c R (k + 1) else k) else R
termination_by R - k
theorem fnz_zero {l : List Int} {C c R k : Nat} (h : k < R) (h0 : gi l (k * C + c) = 0) : fnz l C c R k = fnz l C c R (k + 1) := by
  rw [fnz, if_pos h, if_pos h0]
theorem fnz_here {l : List Int} {C c R k : Nat} (h : k < R) (h0 : gi l (k * C + c) ≠ 0) : fnz l C c R k = k := by
  rw [fnz, if_pos h, if_neg h0]
theorem fnz_end {l : List Int} {C c R k : Nat} (h : R ≤ k) : fnz l C c R k = R := by
  rw [fnz, if_neg (by omega)]
theorem fnz_spec (l : List Int) (C c R : Nat) : ∀ d k, R - k = d → k ≤ R → k ≤ fnz l C c R k ∧ fnz l C c R k ≤ R ∧ (∀ i, k ≤ i → i < fnz l C c R k → gi l (i * C + c) = 0) ∧ (fnz l C c R k < R → gi l (fnz l C c R k * C + c) ≠ 0) := by
  intro d
  induction d with
  | zero => 
    intro k h1 h2
    obtain rfl : k = R := by omega
    rw [fnz_end (Nat.le_refl _)]
    exact ⟨Nat.le_refl _, Nat.le_refl _, fun i h h' => by omega, fun h => by omega⟩
  | succ d ih =>
    intro k h1 h2
    have hk : k < R := by omega
    by_cases h0 : gi l (k * C + c) = 0
    · rw [fnz_zero hk h0]
      obtain ⟨a, b, e, f⟩ := ih (k + 1) (by omega) (by omega)
      refine ⟨by omega, b, fun i h h' => ?_, f⟩
      by_cases hi : i = k
      · subst hi; exact h0
      · exact e i (by omega) h'
    · rw [fnz_here hk h0]
      exact ⟨Nat.le_refl _, by omega, fun i h h' => by omega, fun _ => h0⟩
theorem fnz_ge {l : List Int} {C c R k : Nat} (h : k ≤ R) : k ≤ fnz l C c R k := (fnz_spec l C c R _ k rfl h).1
theorem fnz_le {l : List Int} {C c R k : Nat} : fnz l C c R k ≤ R := by
  by_cases h : k ≤ R
  · exact (fnz_spec l C c R _ k rfl h).2.1
  · rw [fnz_end (by omega)]; exact Nat.le_refl _
theorem fnz_ne {l : List Int} {C c R k : Nat} (h : fnz l C c R k < R) : gi l (fnz l C c R k * C + c) ≠ 0 := by
  by_cases h' : k ≤ R
  · exact (fnz_spec l C c R _ k rfl h').2.2.2 h
  · rw [fnz_end (by omega)] at h; omega

/-- What a reduction has at hand: the numbers, the pivots' columns, the factor. -/
structure RSt where
  m : List Int
  pv : List Nat
  d : Int
/-- One column with a pivot in row k. -/
def colP (P : Int) (R C c k : Nat) (s : RSt) : RSt :=
  let r := s.pv.length
  let m1 := swTo (r * C) (k * C) s.m C
  let x := gi m1 (r * C + c)
  ⟨clTo P C r c (scTo P (inv x P) (r * C) m1 C) R, s.pv ++ [c], (if k = r then s.d else P - s.d) * x % P⟩
def colS (P : Int) (R C c : Nat) (s : RSt) : RSt :=
  if fnz s.m C c R s.pv.length = R then s else colP P R C c (fnz s.m C c R s.pv.length) s
def redTo (P : Int) (R C : Nat) (xs : List Int) : Nat → RSt
  | 0 => ⟨xs, [], 1⟩
  | c + 1 => colS P R C c (redTo P R C xs c)

section
variable (p k : Int) (o o2 n : Nat) (l : List Int)
theorem swTo_length (j : Nat) : (swTo o o2 l j).length = l.length := by
  induction j with
  | zero => rfl
  | succ j ih => simp [swTo, ih]
theorem scTo_length (j : Nat) : (scTo p k o l j).length = l.length := by
  induction j with
  | zero => rfl
  | succ j ih => simp [scTo, ih]
theorem clOne_length (P : Int) (C r c i : Nat) : (clOne P C r c i l).length = l.length := by
  unfold clOne; split
  · rfl
  · exact axTo_length ..
theorem clTo_length (P : Int) (C r c i : Nat) : (clTo P C r c l i).length = l.length := by
  induction i with
  | zero => rfl
  | succ i ih => rw [clTo, clOne_length, ih]
/-- What stands outside of the first j numbers of both rows. -/
theorem gi_swTo_out (h : o + n ≤ l.length) (h2 : o2 + n ≤ l.length) (q j : Nat) (hj : j ≤ n) (hq : q < o ∨ o + j ≤ q) (hq2 : q < o2 ∨ o2 + j ≤ q) : gi (swTo o o2 l j) q = gi l q := by
  induction j with
  | zero => rfl
  | succ j ih =>
    rw [swTo, gi_set _ _ _ _ (by rw [List.length_set, swTo_length]; omega), if_neg (by omega), gi_set _ _ _ _ (by rw [swTo_length]; omega), if_neg (by omega)]
    exact ih (by omega) (by omega) (by omega)
theorem swTo_self (h : o + n ≤ l.length) (j : Nat) (hj : j ≤ n) : swTo o o l j = l := by
  induction j with
  | zero => rfl
  | succ j ih =>
    rw [swTo, ih (by omega), List.set_set]
    have : gi l (o + j) = l[o + j]'(by omega) := by simp [gi, List.getD_eq_getElem?_getD, List.getElem?_eq_getElem (show o + j < l.length by omega)]
    rw [this, List.set_getElem_self]
/-- Rows do not meet. -/
def Apart (o o2 n : Nat) : Prop := o = o2 ∨ o + n ≤ o2 ∨ o2 + n ≤ o
theorem gi_swTo_l (h : o + n ≤ l.length) (h2 : o2 + n ≤ l.length) (ha : Apart o o2 n) (i j : Nat) (hi : i < j) (hj : j ≤ n) : gi (swTo o o2 l j) (o + i) = gi l (o2 + i) := by
  rcases ha with rfl | ha
  · rw [swTo_self (n := n) _ _ h _ hj]
  · induction j with
    | zero => omega
    | succ j ih =>
      rw [swTo, gi_set _ _ _ _ (by rw [List.length_set, swTo_length]; omega), if_neg (by omega), gi_set _ _ _ _ (by rw [swTo_length]; omega)]
      by_cases e : i = j
      · subst e; rw [if_pos rfl]
      · rw [if_neg (by omega)]; exact ih (by omega) (by omega)
theorem gi_swTo_r (h : o + n ≤ l.length) (h2 : o2 + n ≤ l.length) (ha : Apart o o2 n) (i j : Nat) (hi : i < j) (hj : j ≤ n) : gi (swTo o o2 l j) (o2 + i) = gi l (o + i) := by
  rcases ha with rfl | ha
  · rw [swTo_self (n := n) _ _ h _ hj]
  · induction j with
    | zero => omega
    | succ j ih =>
      rw [swTo, gi_set _ _ _ _ (by rw [List.length_set, swTo_length]; omega)]
      by_cases e : i = j
      · subst e; rw [if_pos rfl]
      · rw [if_neg (by omega), gi_set _ _ _ _ (by rw [swTo_length]; omega), if_neg (by omega)]; exact ih (by omega) (by omega)
theorem gi_scTo_out (h : o + n ≤ l.length) (q j : Nat) (hj : j ≤ n) (hq : q < o ∨ o + j ≤ q) : gi (scTo p k o l j) q = gi l q := by
  induction j with
  | zero => rfl
  | succ j ih =>
    rw [scTo, gi_set _ _ _ _ (by rw [scTo_length]; omega), if_neg (by omega)]
    exact ih (by omega) (by omega)
theorem gi_scTo_in (h : o + n ≤ l.length) (i j : Nat) (hi : i < j) (hj : j ≤ n) : gi (scTo p k o l j) (o + i) = gi l (o + i) * k % p := by
  induction j with
  | zero => omega
  | succ j ih =>
    rw [scTo, gi_set _ _ _ _ (by rw [scTo_length]; omega)]
    by_cases e : i = j
    · subst e; rw [if_pos rfl]
    · rw [if_neg (by omega)]; exact ih (by omega) (by omega)
theorem gi_axTo_in (ys : List Int) (h : o + n ≤ l.length) (i j : Nat) (hi : i < j) (hj : j ≤ n) : gi (axTo p k ys o o2 l j) (o + i) = (gi l (o + i) + k * gi ys (o2 + i)) % p := by
  induction j with
  | zero => omega
  | succ j ih =>
    rw [axTo, gi_set _ _ _ _ (by rw [axTo_length]; omega)]
    by_cases e : i = j
    · subst e; rw [if_pos rfl]
    · rw [if_neg (by omega)]; exact ih (by omega) (by omega)
theorem res_gi (h : Res l p) (hp : 0 < p) (q : Nat) : 0 ≤ gi l q ∧ gi l q < p := by
  by_cases hq : q < l.length
  · exact h q hq
  · simp [gi, List.getD_eq_getElem?_getD, List.getElem?_eq_none (show l.length ≤ q by omega), hp]
theorem swTo_res (hp : 0 < p) (h : Res l p) (j : Nat) : Res (swTo o o2 l j) p := by
  induction j with
  | zero => exact h
  | succ j ih => exact res_set _ _ _ _ (res_set _ _ _ _ ih (res_gi _ _ h hp _).1 (res_gi _ _ h hp _).2) (res_gi _ _ h hp _).1 (res_gi _ _ h hp _).2
theorem scTo_res (hp : 0 < p) (h : Res l p) (j : Nat) : Res (scTo p k o l j) p := by
  induction j with
  | zero => exact h
  | succ j ih => exact res_set _ _ _ _ ih (Int.emod_nonneg _ (by omega)) (Int.emod_lt_of_pos _ hp)
theorem clOne_res (C r c i : Nat) (hp : 0 < p) (h : Res l p) : Res (clOne p C r c i l) p := by
  unfold clOne; split
  · exact h
  · exact axTo_res _ _ _ _ _ _ hp h _
theorem clTo_res (C r c i : Nat) (hp : 0 < p) (h : Res l p) : Res (clTo p C r c l i) p := by
  induction i with
  | zero => exact h
  | succ i ih => exact clOne_res _ _ _ _ _ _ hp ih
end
section
variable {P : Int} {R C : Nat} {xs : List Int}
theorem colS_length (c : Nat) (s : RSt) : (colS P R C c s).m.length = s.m.length := by
  unfold colS; split
  · rfl
  · simp only [colP, clTo_length, scTo_length, swTo_length]
theorem redTo_length (c : Nat) : (redTo P R C xs c).m.length = xs.length := by
  induction c with
  | zero => rfl
  | succ c ih => rw [redTo, colS_length, ih]
theorem redTo_res (hp : 2 ≤ P) (h : Res xs P) (c : Nat) : Res (redTo P R C xs c).m P := by
  induction c with
  | zero => exact h
  | succ c ih =>
    rw [redTo, colS]; split
    · exact ih
    · exact clTo_res _ _ _ _ _ _ (by omega) (scTo_res _ _ _ _ (by omega) (swTo_res _ _ _ _ (by omega) ih _) _)
theorem redTo_d (hp : 2 ≤ P) (c : Nat) : 0 ≤ (redTo P R C xs c).d ∧ (redTo P R C xs c).d < P := by
  induction c with
  | zero => simp [redTo]; omega
  | succ c ih =>
    rw [redTo, colS]; split
    · exact ih
    · exact ⟨Int.emod_nonneg _ (by omega), Int.emod_lt_of_pos _ (by omega)⟩
theorem redTo_pv (c : Nat) : (redTo P R C xs c).pv.length ≤ c ∧ (redTo P R C xs c).pv.length ≤ R ∧ ∀ x, x ∈ (redTo P R C xs c).pv → x < c := by
  induction c with
  | zero => simp [redTo]
  | succ c ih =>
    rw [redTo, colS]; split
    · exact ⟨by omega, ih.2.1, fun x hx => by have := ih.2.2 x hx; omega⟩
    · rename_i h
      have h1 := fnz_ge (l := (redTo P R C xs c).m) (C := C) (c := c) ih.2.1
      have h2 := fnz_le (l := (redTo P R C xs c).m) (C := C) (c := c) (R := R) (k := (redTo P R C xs c).pv.length)
      simp only [colP, List.length_append, List.length_singleton, List.mem_append, List.mem_singleton]
      refine ⟨by omega, by omega, fun x hx => ?_⟩
      rcases hx with hx | rfl
      · have := ih.2.2 x hx; omega
      · omega
/-- With all rows used up nothing changes. -/
theorem colS_full (c : Nat) (s : RSt) (h : R ≤ s.pv.length) : colS P R C c s = s := by
  rw [colS, if_pos (fnz_end h)]
theorem redTo_full {c : Nat} (h : R ≤ (redTo P R C xs c).pv.length) (k : Nat) : redTo P R C xs (c + k) = redTo P R C xs c := by
  induction k with
  | zero => rfl
  | succ k ih => rw [← Nat.add_assoc, redTo, ih, colS_full _ _ h]
end
/-- The other spelling of the factor after an exchange. -/
theorem neg_factor (d x P : Int) : ((0 - d) % P) * x % P = (P - d) * x % P := by
  rw [Int.mul_emod, Int.emod_emod_of_dvd _ (Int.dvd_refl P), ← Int.mul_emod]
  have : (P - d) * x = (0 - d) * x + P * x := by rw [Int.sub_mul, Int.sub_mul]; omega
  rw [this, Int.add_mul_emod_self_left]
theorem sub_mult (a f b P : Int) : (a + (P - f) * b) % P = (a - f * b) % P := by
  have : a + (P - f) * b = (a - f * b) + P * b := by rw [Int.sub_mul]; omega
  rw [this, Int.add_mul_emod_self_left]
/-! Prime numbers: what is no multiple of P has an inverse, the power P - 2 of it. -/
theorem isP_dvd {P : Int} (h : IsP P) {d : Int} (h2 : 2 ≤ d) (hd : d ∣ P) : d = P := by
  obtain ⟨h0, _, h1⟩ := h
  obtain ⟨e, he⟩ := hd
  have he0 : 0 < e := by
    rcases Int.lt_or_le 0 e with h | h
    · exact h
    · have : d * e ≤ 0 := Int.mul_nonpos_of_nonneg_of_nonpos (by omega) h
      omega
  by_cases e1 : e = 1
  · subst e1; omega
  · exfalso
    by_cases hc : d ≤ e
    · refine h1 d h2 ?_ ?_
      · rw [he]; exact Int.mul_le_mul_of_nonneg_left hc (by omega)
      · rw [he]; exact Int.mul_emod_right ..
    · refine h1 e (by omega) ?_ ?_
      · rw [he]; exact Int.mul_le_mul_of_nonneg_right (by omega) (by omega)
      · rw [he]; exact Int.mul_emod_left ..
theorem isP_euclid {P : Int} (h : IsP P) {a b : Int} (hd : P ∣ a * b) (ha : ¬ P ∣ a) : P ∣ b := by
  have h0 := h.1
  have hg : Int.gcd P a = 1 := by
    by_cases h1 : (Int.gcd P a : Int) < 2
    · have : Int.gcd P a ≠ 0 := by
        intro e
        have := (Int.gcd_eq_zero_iff.1 e).1
        omega
      omega
    · have := isP_dvd h (by omega) (Int.gcd_dvd_left P a)
      exact absurd (this ▸ Int.gcd_dvd_right P a) ha
  rw [← Int.natAbs_dvd_natAbs] at hd ⊢
  rw [Int.natAbs_mul] at hd
  exact Nat.Coprime.dvd_of_dvd_mul_left (show Nat.Coprime P.natAbs a.natAbs from hg) hd
def prodL (l : List Int) : Int := l.foldr (· * ·) 1
theorem prodL_perm {l m : List Int} (h : l.Perm m) : prodL l = prodL m := by
  induction h with
  | nil => rfl
  | cons x _ ih => simp only [prodL, List.foldr_cons] at ih ⊢; rw [ih]
  | swap x y l => simp only [prodL, List.foldr_cons]; rw [← Int.mul_assoc, ← Int.mul_assoc, Int.mul_comm x y]
  | trans _ _ h1 h2 => exact h1.trans h2
theorem perm_of_nodup {α : Type} [DecidableEq α] : ∀ (a b : List α), a.Nodup → (∀ x, x ∈ a → x ∈ b) → a.length = b.length → a.Perm b
  | [], b, _, _, hl => by
    have : b = [] := List.length_eq_zero_iff.1 (by simpa using hl.symm)
    rw [this]
  | x :: a, b, hn, hs, hl => by
    have hx := hs x (by simp)
    rw [List.nodup_cons] at hn
    refine (List.Perm.cons x (perm_of_nodup a (b.erase x) hn.2 (fun y hy => ?_) ?_)).trans (List.perm_cons_erase hx).symm
    · have hne : y ≠ x := fun e => hn.1 (e ▸ hy)
      exact (List.mem_erase_of_ne hne).2 (hs y (by simp [hy]))
    · rw [List.length_erase_of_mem hx]; simp at hl; omega
def firstN (n : Nat) : List Int := (List.range n).map fun i : Nat => (i : Int) + 1
theorem mem_firstN {n : Nat} {x : Int} : x ∈ firstN n ↔ 1 ≤ x ∧ x ≤ n := by
  simp only [firstN, List.mem_map, List.mem_range]
  constructor
  · rintro ⟨i, hi, rfl⟩; omega
  · intro h; exact ⟨(x - 1).toNat, by omega, by omega⟩
theorem prodL_map (a P : Int) (l : List Int) : prodL (l.map fun i => a * i % P) % P = a ^ l.length * prodL l % P := by
  induction l with
  | nil => simp [prodL]
  | cons x l ih =>
    simp only [prodL, List.map_cons, List.foldr_cons, List.length_cons] at ih ⊢
    rw [Int.mul_emod, Int.emod_emod_of_dvd _ (Int.dvd_refl P), ih, ← Int.mul_emod, Int.pow_succ]
    congr 1
    grind
theorem not_dvd_prod {P : Int} (h : IsP P) (l : List Int) (hl : ∀ x, x ∈ l → ¬ P ∣ x) : ¬ P ∣ prodL l := by
  induction l with
  | nil =>
    intro hd
    have := Int.le_of_dvd (by simp [prodL]) hd
    have := h.1
    simp [prodL] at *; omega
  | cons x l ih =>
    intro hd
    simp only [prodL, List.foldr_cons] at hd
    exact ih (fun y hy => hl y (by simp [hy])) (isP_euclid h hd (hl x (by simp)))
theorem emod_pos_of {P x : Int} (hp : 0 < P) (h : ¬ P ∣ x) : 1 ≤ x % P ∧ x % P < P := by
  have h1 := Int.emod_nonneg x (show P ≠ 0 by omega)
  have h2 := Int.emod_lt_of_pos x hp
  have h3 : x % P ≠ 0 := fun e => h (Int.dvd_of_emod_eq_zero e)
  omega
theorem fermat {P : Int} (h : IsP P) {a : Int} (ha : ¬ P ∣ a) : a ^ (P - 1).toNat % P = 1 := by
  have h0 := h.1
  have hlen : ((P - 1).toNat : Int) = P - 1 := Int.toNat_of_nonneg (by omega)
  have hsm : ∀ x, x ∈ firstN (P - 1).toNat → ¬ P ∣ x := by
    intro x hx hd
    rw [mem_firstN] at hx
    have := Int.le_of_dvd (by omega) hd
    omega
  have hp : ((firstN (P - 1).toNat).map fun i => a * i % P).Perm (firstN (P - 1).toNat) := by
    refine perm_of_nodup _ _ ?_ ?_ (by simp)
    · rw [List.nodup_iff_pairwise_ne, List.pairwise_map]
      have hnd : (firstN (P - 1).toNat).Pairwise (· < ·) := by
        rw [firstN, List.pairwise_map]
        exact List.Pairwise.imp (by intro a b h; omega) List.pairwise_lt_range
      refine List.Pairwise.imp_of_mem ?_ hnd
      intro x y hx hy hxy e
      rw [mem_firstN] at hx hy
      have hd : P ∣ a * (y - x) := by
        rw [Int.mul_sub]
        exact Int.dvd_of_emod_eq_zero (Int.emod_eq_emod_iff_emod_sub_eq_zero.1 e.symm)
      have := Int.le_of_dvd (by omega) (isP_euclid h hd ha)
      omega
    · intro x hx
      rw [List.mem_map] at hx
      obtain ⟨i, hi, rfl⟩ := hx
      have : ¬ P ∣ a * i := fun hd => hsm i hi (isP_euclid h hd ha)
      have := emod_pos_of (by omega) this
      rw [mem_firstN]; omega
  have e := prodL_map a P (firstN (P - 1).toNat)
  rw [prodL_perm hp] at e
  have hl : (firstN (P - 1).toNat).length = (P - 1).toNat := by simp [firstN]
  rw [hl] at e
  have hd : P ∣ prodL (firstN (P - 1).toNat) * (a ^ (P - 1).toNat - 1) := by
    rw [Int.mul_sub, Int.mul_comm _ (a ^ _), Int.mul_one]
    exact Int.dvd_of_emod_eq_zero (Int.emod_eq_emod_iff_emod_sub_eq_zero.1 e.symm)
  have := isP_euclid h hd (not_dvd_prod h _ hsm)
  have := Int.emod_eq_emod_iff_emod_sub_eq_zero.2 (Int.emod_eq_zero_of_dvd this)
  rw [this]
  exact Int.emod_eq_of_lt (by omega) (by omega)
theorem inv_mul {P : Int} (h : IsP P) {x : Int} (hx : 0 < x) (hx2 : x < P) : x * inv x P % P = 1 := by
  have h0 := h.1
  have ha : ¬ P ∣ x := fun hd => by have := Int.le_of_dvd hx hd; omega
  have e := fermat h ha
  rw [inv, if_neg (by omega), powm, Int.mul_emod, Int.emod_emod_of_dvd _ (Int.dvd_refl P), ← Int.mul_emod, Int.mul_comm, ← Int.pow_succ]
  have : (P - 2).toNat.succ = (P - 1).toNat := by omega
  rw [this, e]
/-! Sums, and the vectors that the rows of a matrix span modulo P. -/
def sumN : Nat → (Nat → Int) → Int
  | 0, _ => 0
  | n + 1, f => sumN n f + f n
theorem sumN_congr {n : Nat} {f g : Nat → Int} (h : ∀ i, i < n → f i = g i) : sumN n f = sumN n g := by
  induction n with
  | zero => rfl
  | succ n ih => rw [sumN, sumN, ih (fun i hi => h i (by omega)), h n (by omega)]
theorem sumN_zero (n : Nat) : sumN n (fun _ => 0) = 0 := by
  induction n with
  | zero => rfl
  | succ n ih => rw [sumN, ih]; rfl
theorem sumN_add (n : Nat) (f g : Nat → Int) : sumN n (fun i => f i + g i) = sumN n f + sumN n g := by
  induction n with
  | zero => rfl
  | succ n ih => simp only [sumN, ih]; omega
theorem sumN_mul (n : Nat) (k : Int) (f : Nat → Int) : sumN n (fun i => k * f i) = k * sumN n f := by
  induction n with
  | zero => simp [sumN]
  | succ n ih => simp only [sumN, ih, Int.mul_add]
theorem sumN_swap (n m : Nat) (f : Nat → Nat → Int) : sumN n (fun i => sumN m (f i)) = sumN m (fun j => sumN n (fun i => f i j)) := by
  induction n with
  | zero => simp only [sumN]; rw [sumN_zero]
  | succ n ih => simp only [sumN, ih]; rw [← sumN_add]
theorem sumN_one {n k : Nat} (f : Nat → Int) (h : k < n) (h0 : ∀ i, i < n → i ≠ k → f i = 0) : sumN n f = f k := by
  induction n with
  | zero => omega
  | succ n ih =>
    rw [sumN]
    by_cases e : k = n
    · subst e
      have : sumN k f = sumN k (fun _ => 0) := sumN_congr (fun i hi => h0 i (by omega) (by omega))
      rw [this, sumN_zero]; omega
    · rw [ih (by omega) (fun i hi he => h0 i (by omega) he), h0 n (by omega) (by omega)]; omega
/-- Equal modulo P. -/
def Eqm (P a b : Int) : Prop := ∃ t, a = b + P * t
section
variable {P : Int}
theorem Eqm.refl (a : Int) : Eqm P a a := ⟨0, by simp⟩
theorem Eqm.of_eq {a b : Int} (h : a = b) : Eqm P a b := h ▸ Eqm.refl a
theorem Eqm.symm {a b : Int} (h : Eqm P a b) : Eqm P b a := by obtain ⟨t, rfl⟩ := h; exact ⟨-t, by rw [Int.mul_neg]; omega⟩
theorem Eqm.trans {a b c : Int} (h : Eqm P a b) (h' : Eqm P b c) : Eqm P a c := by
  obtain ⟨t, rfl⟩ := h; obtain ⟨s, rfl⟩ := h'; exact ⟨s + t, by rw [Int.mul_add]; omega⟩
theorem Eqm.add {a b c d : Int} (h : Eqm P a b) (h' : Eqm P c d) : Eqm P (a + c) (b + d) := by
  obtain ⟨t, rfl⟩ := h; obtain ⟨s, rfl⟩ := h'; exact ⟨t + s, by rw [Int.mul_add]; omega⟩
theorem Eqm.sub {a b c d : Int} (h : Eqm P a b) (h' : Eqm P c d) : Eqm P (a - c) (b - d) := by
  obtain ⟨t, rfl⟩ := h; obtain ⟨s, rfl⟩ := h'; exact ⟨t - s, by rw [Int.mul_sub]; omega⟩
theorem Eqm.mul {a b c d : Int} (h : Eqm P a b) (h' : Eqm P c d) : Eqm P (a * c) (b * d) := by
  obtain ⟨t, rfl⟩ := h; obtain ⟨s, rfl⟩ := h'; exact ⟨b * s + t * d + P * t * s, by grind⟩
theorem Eqm.emod (a : Int) : Eqm P (a % P) a := ⟨-(a / P), by have := Int.mul_ediv_add_emod a P; rw [Int.mul_neg]; omega⟩
theorem Eqm.of_emod {a b : Int} (h : a % P = b % P) : Eqm P a b := (Eqm.emod a).symm.trans (h ▸ Eqm.emod b)
theorem Eqm.to_emod {a b : Int} (h : Eqm P a b) : a % P = b % P := by obtain ⟨t, rfl⟩ := h; exact Int.add_mul_emod_self_left ..
theorem Eqm.eq {a b : Int} (h : Eqm P a b) (h0 : 0 ≤ a) (h1 : a < P) (h2 : 0 ≤ b) (h3 : b < P) : a = b := by
  have := h.to_emod
  rwa [Int.emod_eq_of_lt h0 h1, Int.emod_eq_of_lt h2 h3] at this
theorem sumN_eqm {n : Nat} {f g : Nat → Int} (h : ∀ i, i < n → Eqm P (f i) (g i)) : Eqm P (sumN n f) (sumN n g) := by
  induction n with
  | zero => exact Eqm.refl _
  | succ n ih => exact (ih (fun i hi => h i (by omega))).add (h n (by omega))
end
/-- v is a sum of multiples of the first R rows of M, modulo P, in the first C columns. -/
def InSp (P : Int) (R C : Nat) (M : Nat → Nat → Int) (v : Nat → Int) : Prop := ∃ a : Nat → Int, ∀ c, c < C → Eqm P (v c) (sumN R fun i => a i * M i c)
section
variable {P : Int} {R R' C : Nat} {M M' : Nat → Nat → Int}
theorem InSp.row {i : Nat} (h : i < R) : InSp P R C M (M i) :=
  ⟨fun j => if j = i then 1 else 0, fun c _ => by
    rw [sumN_one _ h (fun j _ hne => by simp [hne])]; simp; exact Eqm.refl _⟩
theorem InSp.congr {v u : Nat → Int} (h : InSp P R C M v) (hv : ∀ c, c < C → Eqm P (u c) (v c)) : InSp P R C M u := by
  obtain ⟨a, ha⟩ := h; exact ⟨a, fun c hc => (hv c hc).trans (ha c hc)⟩
theorem InSp.add {v u : Nat → Int} (h : InSp P R C M v) (h' : InSp P R C M u) : InSp P R C M (fun c => v c + u c) := by
  obtain ⟨a, ha⟩ := h; obtain ⟨b, hb⟩ := h'
  exact ⟨fun i => a i + b i, fun c hc => by simp only [Int.add_mul, sumN_add]; exact (ha c hc).add (hb c hc)⟩
theorem InSp.smul {v : Nat → Int} (k : Int) (h : InSp P R C M v) : InSp P R C M (fun c => k * v c) := by
  obtain ⟨a, ha⟩ := h
  exact ⟨fun i => k * a i, fun c hc => by simp only [Int.mul_assoc, sumN_mul]; exact (Eqm.refl k).mul (ha c hc)⟩
theorem InSp.zero : InSp P R C M (fun _ => 0) := ⟨fun _ => 0, fun c _ => by simp only [Int.zero_mul, sumN_zero]; exact Eqm.refl _⟩
theorem InSp.sum {n : Nat} {v : Nat → Nat → Int} (h : ∀ i, i < n → InSp P R C M (v i)) : InSp P R C M (fun c => sumN n fun i => v i c) := by
  induction n with
  | zero => exact InSp.zero
  | succ n ih => exact (ih (fun i hi => h i (by omega))).add (h n (by omega))
/-- What is spanned by vectors that are spanned. -/
theorem InSp.trans {v : Nat → Int} (h : InSp P R C M v) (hM : ∀ i, i < R → InSp P R' C M' (M i)) : InSp P R' C M' v := by
  obtain ⟨a, ha⟩ := h
  exact (InSp.sum (v := fun i c => a i * M i c) (n := R) (fun i hi => (hM i hi).smul (a i))).congr (fun c hc => ha c hc)
/-- Both span the same. -/
def SameSp (P : Int) (C R : Nat) (M : Nat → Nat → Int) (R' : Nat) (M' : Nat → Nat → Int) : Prop := (∀ i, i < R → InSp P R' C M' (M i)) ∧ (∀ i, i < R' → InSp P R C M (M' i))
theorem SameSp.refl : SameSp P C R M R M := ⟨fun _ h => InSp.row h, fun _ h => InSp.row h⟩
theorem SameSp.symm (h : SameSp P C R M R' M') : SameSp P C R' M' R M := ⟨h.2, h.1⟩
theorem SameSp.trans {R'' : Nat} {M'' : Nat → Nat → Int} (h : SameSp P C R M R' M') (h' : SameSp P C R' M' R'' M'') : SameSp P C R M R'' M'' :=
  ⟨fun i hi => (h.1 i hi).trans h'.1, fun i hi => (h'.2 i hi).trans h.2⟩
theorem SameSp.iff (h : SameSp P C R M R' M') (v : Nat → Int) : InSp P R C M v ↔ InSp P R' C M' v := ⟨fun hv => hv.trans h.1, fun hv => hv.trans h.2⟩
theorem SameSp.of_iff (h : ∀ v, InSp P R C M v ↔ InSp P R' C M' v) : SameSp P C R M R' M' := ⟨fun _ hi => (h _).1 (InSp.row hi), fun _ hi => (h _).2 (InSp.row hi)⟩
/-- One row is replaced. -/
theorem SameSp.replace (r : Nat) (he : ∀ i, i < R → i ≠ r → ∀ c, c < C → Eqm P (M' i c) (M i c)) (h1 : InSp P R C M (M' r)) (h2 : InSp P R C M' (M r)) : SameSp P C R M R M' := by
  refine ⟨fun i hi => ?_, fun i hi => ?_⟩
  · by_cases e : i = r
    · subst e; exact h2
    · exact (InSp.row (M := M') hi).congr (fun c hc => (he i hi e c hc).symm)
  · by_cases e : i = r
    · subst e; exact h1
    · exact (InSp.row (M := M) hi).congr (fun c hc => he i hi e c hc)
end
/-- The first k rows of M are in reduced form, with these pivots. -/
structure Rref (P : Int) (C : Nat) (M : Nat → Nat → Int) (pv : List Nat) : Prop where
  lt : ∀ i, i < pv.length → pv.getD i 0 < C
  up : ∀ i j, i < j → j < pv.length → pv.getD i 0 < pv.getD j 0
  one : ∀ i, i < pv.length → M i (pv.getD i 0) = 1
  only : ∀ i j, i < pv.length → j < pv.length → j ≠ i → M j (pv.getD i 0) = 0
  zero : ∀ i, i < pv.length → ∀ c, c < pv.getD i 0 → M i c = 0
  res : ∀ i, i < pv.length → ∀ c, c < C → 0 ≤ M i c ∧ M i c < P
section
variable {P : Int} {C : Nat} {M N : Nat → Nat → Int} {pv qv : List Nat}
/-- The numbers by which rows in reduced form are multiplied stand in the columns of the pivots. -/
theorem Rref.coord (h : Rref P C M pv) {v : Nat → Int} {a : Nat → Int} (ha : ∀ c, c < C → Eqm P (v c) (sumN pv.length fun i => a i * M i c)) (i : Nat) (hi : i < pv.length) : Eqm P (v (pv.getD i 0)) (a i) := by
  have := ha _ (h.lt i hi)
  rw [sumN_one _ hi (fun j hj hne => by rw [h.only i j hi hj hne, Int.mul_zero]), h.one i hi, Int.mul_one] at this
  exact this
theorem Rref.coords (h : Rref P C M pv) {v : Nat → Int} (hv : InSp P pv.length C M v) (c : Nat) (hc : c < C) : Eqm P (v c) (sumN pv.length fun i => v (pv.getD i 0) * M i c) := by
  obtain ⟨a, ha⟩ := hv
  exact (ha c hc).trans (sumN_eqm fun i hi => (h.coord ha i hi).symm.mul (Eqm.refl _))
/-- The first number other than 0 of what rows in reduced form span stands in the column of a pivot. -/
theorem Rref.lead (h : Rref P C M pv) {v : Nat → Int} (hv : InSp P pv.length C M v) {c : Nat} (hc : c < C) (h0 : ∀ d, d < c → Eqm P (v d) 0) (hne : ¬ Eqm P (v c) 0) : ∃ i, i < pv.length ∧ pv.getD i 0 = c := by
  apply Classical.byContradiction
  intro hno
  apply hne
  refine (h.coords hv c hc).trans ?_
  rw [← sumN_zero pv.length]
  refine sumN_eqm fun i hi => ?_
  rcases Nat.lt_trichotomy (pv.getD i 0) c with hlt | heq | hgt
  · have := (h0 _ hlt).mul (Eqm.refl (P := P) (M i c))
    rwa [Int.zero_mul] at this
  · exact absurd ⟨i, hi, heq⟩ hno
  · rw [h.zero i hi c hgt, Int.mul_zero]; exact Eqm.refl _
theorem eqm_one_zero (hP : 2 ≤ P) : ¬ Eqm P 1 0 := by
  intro h
  have := h.to_emod
  rw [Int.emod_eq_of_lt (by omega) (by omega)] at this
  simp at this
theorem Rref.mem (h : Rref P C M pv) (h' : Rref P C N qv) (hP : 2 ≤ P) (hs : ∀ i, i < qv.length → InSp P pv.length C M (N i)) (j : Nat) (hj : j < qv.length) : ∃ i, i < pv.length ∧ pv.getD i 0 = qv.getD j 0 :=
  h.lead (hs j hj) (h'.lt j hj) (fun d hd => by rw [h'.zero j hj d hd]; exact Eqm.refl _) (by rw [h'.one j hj]; exact eqm_one_zero hP)
end
/-- Two ascending lists with the same members. -/
theorem asc_eq : ∀ (a b : List Nat), a.Pairwise (· < ·) → b.Pairwise (· < ·) → (∀ x, x ∈ a ↔ x ∈ b) → a = b
  | [], [], _, _, _ => rfl
  | [], y :: b, _, _, h => by have := (h y).2 (by simp); simp at this
  | x :: a, [], _, _, h => by have := (h x).1 (by simp); simp at this
  | x :: a, y :: b, ha, hb, h => by
    rw [List.pairwise_cons] at ha hb
    have e : x = y := by
      have h1 := (h x).1 (by simp)
      have h2 := (h y).2 (by simp)
      rw [List.mem_cons] at h1 h2
      rcases h1 with h1 | h1
      · exact h1
      · rcases h2 with h2 | h2
        · exact h2.symm
        · have := hb.1 x h1; have := ha.1 y h2; omega
    subst e
    rw [asc_eq a b ha.2 hb.2 (fun z => ?_)]
    have hz := h z
    rw [List.mem_cons, List.mem_cons] at hz
    constructor
    · intro hm
      rcases hz.1 (.inr hm) with e | e
      · subst e; have := ha.1 z hm; omega
      · exact e
    · intro hm
      rcases hz.2 (.inr hm) with e | e
      · subst e; have := hb.1 z hm; omega
      · exact e
theorem getD_mem_iff {l : List Nat} {x : Nat} : x ∈ l ↔ ∃ i, i < l.length ∧ l.getD i 0 = x := by
  rw [List.mem_iff_getElem]
  constructor
  · rintro ⟨i, hi, e⟩; exact ⟨i, hi, by simp [List.getD_eq_getElem?_getD, hi, e]⟩
  · rintro ⟨i, hi, e⟩; exact ⟨i, hi, by simpa [List.getD_eq_getElem?_getD, hi] using e⟩
theorem Rref.asc {P : Int} {C : Nat} {M : Nat → Nat → Int} {pv : List Nat} (h : Rref P C M pv) : pv.Pairwise (· < ·) := by
  rw [List.pairwise_iff_getElem]
  intro i j hi hj hij
  have := h.up i j hij hj
  simpa [List.getD_eq_getElem?_getD, hi, hj] using this
/-- Rows in reduced form are known by what they span. -/
theorem Rref.unique {P : Int} {C : Nat} {M N : Nat → Nat → Int} {pv qv : List Nat} (h : Rref P C M pv) (h' : Rref P C N qv) (hP : 2 ≤ P) (hs : SameSp P C pv.length M qv.length N) :
    pv = qv ∧ ∀ i, i < pv.length → ∀ c, c < C → M i c = N i c := by
  have e : pv = qv := asc_eq _ _ h.asc h'.asc (fun x => by
    rw [getD_mem_iff, getD_mem_iff]
    constructor
    · rintro ⟨i, hi, rfl⟩; exact h'.mem h hP hs.1 i hi
    · rintro ⟨i, hi, rfl⟩; exact h.mem h' hP hs.2 i hi)
  subst e
  refine ⟨rfl, fun i hi c hc => ?_⟩
  refine Eqm.eq ?_ (h.res i hi c hc).1 (h.res i hi c hc).2 (h'.res i hi c hc).1 (h'.res i hi c hc).2
  refine ((h.coords (hs.2 i hi) c hc).trans ?_).symm
  rw [sumN_one (k := i) _ hi (fun j hj hne => by rw [h'.only j i hj hi (Ne.symm hne), Int.zero_mul]), h'.one i hi, Int.one_mul]
  exact Eqm.refl _
/-! What a reduction does: rows in reduced form that span the same. -/
/-- The number in row i and column c. -/
def at2 (C : Nat) (l : List Int) (i c : Nat) : Int := gi l (i * C + c)
theorem row_lt {R C i : Nat} (h : i < R) : i * C + C ≤ R * C := by
  have : (i + 1) * C ≤ R * C := Nat.mul_le_mul_right C h
  rw [Nat.add_mul] at this
  omega
theorem rows_apart {C i j : Nat} (h : i ≠ j) : i * C + C ≤ j * C ∨ j * C + C ≤ i * C := by
  rcases Nat.lt_or_gt_of_ne h with h | h
  · exact .inl (row_lt h)
  · exact .inr (row_lt h)
theorem at2_place {C i j c d : Nat} (hc : c < C) (hd : d < C) (h : i ≠ j) : i * C + c ≠ j * C + d := by
  rcases rows_apart (C := C) h with h | h <;> omega
section
variable {P : Int} {R C : Nat} {l : List Int}
theorem at2_sw {r k : Nat} (hl : l.length = R * C) (hr : r < R) (hk : k < R) (i c : Nat) (hi : i < R) (hc : c < C) :
    at2 C (swTo (r * C) (k * C) l C) i c = at2 C l (if i = r then k else if i = k then r else i) c := by
  have h1 := row_lt (C := C) hr
  have h2 := row_lt (C := C) hk
  have hA : Apart (r * C) (k * C) C := by
    by_cases e : r = k
    · exact .inl (by rw [e])
    · exact .inr (rows_apart e)
  unfold at2
  by_cases e1 : i = r
  · subst e1
    rw [if_pos rfl, gi_swTo_l _ _ C _ (by omega) (by omega) hA c C hc (Nat.le_refl _)]
  · rw [if_neg e1]
    by_cases e2 : i = k
    · subst e2
      rw [if_pos rfl, gi_swTo_r _ _ C _ (by omega) (by omega) hA c C hc (Nat.le_refl _)]
    · rw [if_neg e2, gi_swTo_out _ _ C _ (by omega) (by omega) _ C (Nat.le_refl _)]
      · rcases rows_apart (C := C) e1 with h | h <;> omega
      · rcases rows_apart (C := C) e2 with h | h <;> omega
theorem at2_sc {r : Nat} {k : Int} (hl : l.length = R * C) (hr : r < R) (i c : Nat) (hi : i < R) (hc : c < C) :
    at2 C (scTo P k (r * C) l C) i c = if i = r then at2 C l r c * k % P else at2 C l i c := by
  have h1 := row_lt (C := C) hr
  unfold at2
  by_cases e1 : i = r
  · subst e1
    rw [if_pos rfl, gi_scTo_in _ _ _ C _ (by omega) c C hc (Nat.le_refl _)]
  · rw [if_neg e1, gi_scTo_out _ _ _ C _ (by omega) _ C (Nat.le_refl _)]
    rcases rows_apart (C := C) e1 with h | h <;> omega
theorem at2_clOne {r q i : Nat} (hl : l.length = R * C) (hP : 0 < P) (hx : Res l P) (hr : r < R) (hi : i < R) (j c : Nat) (hj : j < R) (hc : c < C) :
    at2 C (clOne P C r q i l) j c = if j = i ∧ i ≠ r then (at2 C l i c - at2 C l i q * at2 C l r c) % P else at2 C l j c := by
  have h1 := row_lt (C := C) hi
  unfold clOne
  by_cases e : i = r ∨ gi l (i * C + q) = 0
  · rw [if_pos e]
    split
    · rename_i h
      obtain ⟨rfl, h2⟩ := h
      rcases e with e | e
      · exact absurd e h2
      · unfold at2
        rw [e, Int.zero_mul, Int.sub_zero]
        have := res_gi _ _ hx hP (j * C + c)
        exact (Int.emod_eq_of_lt this.1 this.2).symm
    · rfl
  · rw [if_neg e]
    have e1 : i ≠ r := fun h => e (.inl h)
    unfold at2
    by_cases e2 : j = i
    · subst e2
      rw [if_pos ⟨rfl, e1⟩, gi_axTo_in _ _ _ _ C _ _ (by omega) c C hc (Nat.le_refl _), sub_mult]
    · rw [if_neg (fun h => e2 h.1), gi_axTo_out _ _ _ _ _ C _ (by omega) _ _ C (Nat.le_refl _)]
      rcases rows_apart (C := C) e2 with h | h <;> omega
theorem at2_cl {r q : Nat} (hl : l.length = R * C) (hP : 0 < P) (hx : Res l P) (hr : r < R) (n : Nat) (hn : n ≤ R) (j c : Nat) (hj : j < R) (hc : c < C) (hq : q < C) :
    at2 C (clTo P C r q l n) j c = if j < n ∧ j ≠ r then (at2 C l j c - at2 C l j q * at2 C l r c) % P else at2 C l j c := by
  induction n generalizing j c with
  | zero => simp [clTo]
  | succ n ih =>
    have hl' : (clTo P C r q l n).length = R * C := by rw [clTo_length, hl]
    rw [clTo, at2_clOne hl' hP (clTo_res _ _ _ _ _ _ hP hx) hr (by omega) j c hj hc]
    by_cases e : j = n ∧ n ≠ r
    · obtain ⟨rfl, e1⟩ := e
      rw [if_pos ⟨rfl, e1⟩, if_pos ⟨by omega, e1⟩, ih (by omega) j c hj hc, ih (by omega) j q hj hq, ih (by omega) r c hr hc, if_neg (by omega), if_neg (by omega), if_neg (fun h => h.2 rfl)]
    · rw [if_neg e, ih (by omega) j c hj hc]
      by_cases e2 : j < n ∧ j ≠ r
      · rw [if_pos e2, if_pos ⟨by omega, e2.2⟩]
      · rw [if_neg e2, if_neg (fun h => e2 ⟨by omega, h.2⟩)]
/-- Exchanged rows. -/
def exch (r k i : Nat) : Nat := if i = r then k else if i = k then r else i
theorem exch_lt {r k i R : Nat} (hr : r < R) (hk : k < R) (hi : i < R) : exch r k i < R := by
  unfold exch; split
  · exact hk
  · split
    · exact hr
    · exact hi
theorem exch_exch (r k i : Nat) : exch r k (exch r k i) = i := by
  unfold exch; grind
theorem at2_res (hx : Res l P) (hP : 0 < P) (i c : Nat) : 0 ≤ at2 C l i c ∧ at2 C l i c < P := res_gi _ _ hx hP _
/-- The numbers after a column with a pivot in row k. -/
theorem at2_colP {c k : Nat} {s : RSt} (hl : s.m.length = R * C) (hP : 2 ≤ P) (hx : Res s.m P) (hr : s.pv.length < R) (hk : k < R) (hc : c < C) (j q : Nat) (hj : j < R) (hq : q < C) :
    at2 C (colP P R C c k s).m j q =
      if j = s.pv.length then at2 C s.m k q * inv (at2 C s.m k c) P % P
      else (at2 C s.m (exch s.pv.length k j) q - at2 C s.m (exch s.pv.length k j) c * (at2 C s.m k q * inv (at2 C s.m k c) P % P)) % P := by
  have hl1 : (swTo (s.pv.length * C) (k * C) s.m C).length = R * C := by rw [swTo_length, hl]
  have hx1 : Res (swTo (s.pv.length * C) (k * C) s.m C) P := swTo_res _ _ _ _ (by omega) hx _
  have ex : gi (swTo (s.pv.length * C) (k * C) s.m C) (s.pv.length * C + c) = at2 C s.m k c := by
    have := at2_sw hl hr hk s.pv.length c hr hc
    rw [if_pos rfl] at this; exact this
  simp only [colP, ex]
  rw [at2_cl (by rw [scTo_length, hl1]) (by omega) (scTo_res _ _ _ _ (by omega) hx1 _) hr R (Nat.le_refl _) j q hj hq hc]
  have esc : ∀ i d, i < R → d < C → at2 C (scTo P (inv (at2 C s.m k c) P) (s.pv.length * C) (swTo (s.pv.length * C) (k * C) s.m C) C) i d = if i = s.pv.length then at2 C s.m k d * inv (at2 C s.m k c) P % P else at2 C s.m (exch s.pv.length k i) d := by
    intro i d hi hd
    rw [at2_sc hl1 hr i d hi hd, at2_sw hl hr hk _ d hr hd, at2_sw hl hr hk i d hi hd, if_pos rfl]
    rfl
  by_cases e : j = s.pv.length
  · rw [if_neg (fun h => h.2 e), if_pos e, esc j q hj hq, if_pos e]
  · rw [if_pos ⟨hj, e⟩, if_neg e, esc j q hj hq, esc j c hj hc, esc _ q hr hq, if_neg e, if_pos rfl, if_neg e]
end
/-- A vector less a multiple of another. -/
theorem InSp.axpy {P : Int} {R C : Nat} {M : Nat → Nat → Int} {u v x : Nat → Int} (f : Int) (hv : InSp P R C M v) (hu : InSp P R C M u) (hx : ∀ c, c < C → Eqm P (x c) (v c + f * u c)) : InSp P R C M x :=
  (hv.add (hu.smul f)).congr hx
/-- A column's step keeps what the rows span. -/
theorem colP_same {P : Int} {R C c k : Nat} {s : RSt} (hp : IsP P) (hl : s.m.length = R * C) (hx : Res s.m P) (hr : s.pv.length < R) (hk : k < R) (hc : c < C) (hne : at2 C s.m k c ≠ 0) :
    SameSp P C R (at2 C s.m) R (at2 C (colP P R C c k s).m) := by
  have hP := hp.1
  have hxk := at2_res (C := C) hx (by omega) k c
  have hinv := inv_mul hp (x := at2 C s.m k c) (by omega) hxk.2
  have E := fun j q hj hq => at2_colP (c := c) (k := k) hl hP hx hr hk hc j q hj hq
  -- row k of the old one, and the pivot's row of the new one
  have hrow : ∀ q, q < C → at2 C (colP P R C c k s).m s.pv.length q = at2 C s.m k q * inv (at2 C s.m k c) P % P := fun q hq => by rw [E _ q hr hq, if_pos rfl]
  have hA : ∀ q, q < C → Eqm P (at2 C (colP P R C c k s).m s.pv.length q) (inv (at2 C s.m k c) P * at2 C s.m k q) := fun q hq => by
    rw [hrow q hq, Int.mul_comm]; exact Eqm.emod _
  have hB : ∀ q, q < C → Eqm P (at2 C s.m k q) (at2 C s.m k c * at2 C (colP P R C c k s).m s.pv.length q) := fun q hq => by
    refine Eqm.symm (((Eqm.refl _).mul (hA q hq)).trans ?_)
    rw [← Int.mul_assoc]
    have h1 : Eqm P (at2 C s.m k c * inv (at2 C s.m k c) P) 1 := by
      have := Eqm.emod (P := P) (at2 C s.m k c * inv (at2 C s.m k c) P)
      rw [hinv] at this; exact this.symm
    have := h1.mul (Eqm.refl (P := P) (at2 C s.m k q))
    rwa [Int.one_mul] at this
  have hN : ∀ j, j < R → j ≠ s.pv.length → ∀ q, q < C → Eqm P (at2 C (colP P R C c k s).m j q) (at2 C s.m (exch s.pv.length k j) q + (- at2 C s.m (exch s.pv.length k j) c) * at2 C (colP P R C c k s).m s.pv.length q) := fun j hj hne q hq => by
    rw [E j q hj hq, if_neg hne, hrow q hq, Int.neg_mul, ← Int.sub_eq_add_neg]; exact Eqm.emod _
  have hO : ∀ j, j < R → j ≠ s.pv.length → ∀ q, q < C → Eqm P (at2 C s.m (exch s.pv.length k j) q) (at2 C (colP P R C c k s).m j q + at2 C s.m (exch s.pv.length k j) c * at2 C (colP P R C c k s).m s.pv.length q) := fun j hj hne q hq => by
    have := (hN j hj hne q hq).symm.add (Eqm.refl (P := P) (at2 C s.m (exch s.pv.length k j) c * at2 C (colP P R C c k s).m s.pv.length q))
    rwa [Int.neg_mul, ← Int.sub_eq_add_neg, Int.sub_add_cancel] at this
  have kM : InSp P R C (at2 C s.m) (at2 C s.m k) := InSp.row hk
  have rM : InSp P R C (at2 C s.m) (at2 C (colP P R C c k s).m s.pv.length) := (kM.smul _).congr hA
  have rN : InSp P R C (at2 C (colP P R C c k s).m) (at2 C (colP P R C c k s).m s.pv.length) := InSp.row hr
  have kN : InSp P R C (at2 C (colP P R C c k s).m) (at2 C s.m k) := (rN.smul _).congr hB
  refine ⟨fun i hi => ?_, fun j hj => ?_⟩
  · by_cases e : exch s.pv.length k i = s.pv.length
    · have : i = k := by rw [← exch_exch s.pv.length k i, e]; simp [exch]
      subst this; exact kN
    · have h := InSp.axpy (at2 C s.m i c) (InSp.row (M := at2 C (colP P R C c k s).m) (P := P) (C := C) (exch_lt hr hk hi)) rN (x := at2 C s.m i) (fun q hq => by
        have := hO _ (exch_lt hr hk hi) e q hq
        rwa [exch_exch] at this)
      exact h
  · by_cases e : j = s.pv.length
    · subst e; exact rM
    · exact InSp.axpy _ (InSp.row (M := at2 C s.m) (P := P) (C := C) (exch_lt hr hk hj)) rM (fun q hq => hN j hj e q hq)
/-- What holds of a reduction before column c: the first rows are in reduced form as far as they go, the others have zeros ahead of it. -/
structure Half (P : Int) (R C c : Nat) (s : RSt) : Prop where
  len : s.m.length = R * C
  res : Res s.m P
  le : s.pv.length ≤ R
  lt : ∀ i, i < s.pv.length → s.pv.getD i 0 < c
  up : ∀ i j, i < j → j < s.pv.length → s.pv.getD i 0 < s.pv.getD j 0
  one : ∀ i, i < s.pv.length → at2 C s.m i (s.pv.getD i 0) = 1
  only : ∀ i j, i < s.pv.length → j < R → j ≠ i → at2 C s.m j (s.pv.getD i 0) = 0
  zero : ∀ i, i < s.pv.length → ∀ q, q < s.pv.getD i 0 → at2 C s.m i q = 0
  rest : ∀ j, s.pv.length ≤ j → j < R → ∀ q, q < c → at2 C s.m j q = 0
theorem getD_snoc (l : List Nat) (x i : Nat) : (l ++ [x]).getD i 0 = if i < l.length then l.getD i 0 else if i = l.length then x else 0 := by
  simp only [List.getD_eq_getElem?_getD, List.getElem?_append]
  split
  · rfl
  · rename_i h
    by_cases e : i = l.length
    · subst e; simp
    · rw [if_neg e, List.getElem?_eq_none (by simp; omega)]; rfl
theorem half_start {P : Int} {R C : Nat} {xs : List Int} (hl : xs.length = R * C) (hx : Res xs P) : Half P R C 0 ⟨xs, [], 1⟩ :=
  ⟨hl, hx, by simp, by simp, by simp, by simp, by simp, by simp, fun _ _ _ q hq => by omega⟩
theorem half_step {P : Int} {R C c : Nat} {s : RSt} (hp : IsP P) (hc : c < C) (h : Half P R C c s) : Half P R C (c + 1) (colS P R C c s) := by
  have hP := hp.1
  obtain ⟨f1, f2, f3, f4⟩ := fnz_spec s.m C c R _ s.pv.length rfl h.le
  by_cases e : fnz s.m C c R s.pv.length = R
  · rw [colS, if_pos e]
    refine ⟨h.len, h.res, h.le, fun i hi => by have := h.lt i hi; omega, h.up, h.one, h.only, h.zero, fun j hj hj2 q hq => ?_⟩
    by_cases hq2 : q = c
    · subst hq2; exact f3 j hj (by omega)
    · exact h.rest j hj hj2 q (by omega)
  · rw [colS, if_neg e]
    have hk : fnz s.m C c R s.pv.length < R := by omega
    have hne := f4 hk
    generalize fnz s.m C c R s.pv.length = k at f1 hk hne
    have hr : s.pv.length < R := by omega
    have hxk := at2_res (C := C) h.res (by omega) k c
    have hinv := inv_mul hp (x := at2 C s.m k c) (by have : at2 C s.m k c ≠ 0 := hne; omega) hxk.2
    have E := fun j q hj hq => at2_colP (c := c) (k := k) h.len hP h.res hr hk hc j q hj hq
    have epv : (colP P R C c k s).pv = s.pv ++ [c] := rfl
    have elen : (colP P R C c k s).pv.length = s.pv.length + 1 := by rw [epv]; simp
    have hres := fun j q => at2_res (C := C) h.res (show 0 < P by omega) j q
    have hz : (0 : Int) % P = 0 := Int.zero_emod _
    -- in columns where row k has 0, the others stay
    have keep : ∀ j q, j < R → q < C → at2 C s.m k q = 0 → j ≠ s.pv.length → at2 C (colP P R C c k s).m j q = at2 C s.m (exch s.pv.length k j) q := by
      intro j q hj hq h0 hne
      rw [E j q hj hq, if_neg hne, h0, Int.zero_mul, hz, Int.mul_zero, Int.sub_zero]
      exact Int.emod_eq_of_lt (hres _ _).1 (hres _ _).2
    have keepr : ∀ q, q < C → at2 C s.m k q = 0 → at2 C (colP P R C c k s).m s.pv.length q = 0 := by
      intro q hq h0
      rw [E _ q hr hq, if_pos rfl, h0, Int.zero_mul, hz]
    have kpv : ∀ i, i < s.pv.length → at2 C s.m k (s.pv.getD i 0) = 0 := fun i hi => h.only i k hi hk (by omega)
    have ex1 : ∀ i, i < s.pv.length → exch s.pv.length k i = i := fun i hi => by rw [exch, if_neg (by omega), if_neg (by omega)]
    have ex2 : ∀ j, s.pv.length ≤ j → s.pv.length ≤ exch s.pv.length k j := fun j hj => by unfold exch; split; omega; split <;> omega
    have gd : ∀ i, i < s.pv.length → (s.pv ++ [c]).getD i 0 = s.pv.getD i 0 := fun i hi => by rw [getD_snoc, if_pos hi]
    have gd2 : (s.pv ++ [c]).getD s.pv.length 0 = c := by rw [getD_snoc, if_neg (by omega), if_pos rfl]
    refine ⟨?_, ?_, by omega, fun i hi => ?_, fun i j hij hj => ?_, fun i hi => ?_, fun i j hi hj hne => ?_, fun i hi q hq => ?_, fun j hj hj2 q hq => ?_⟩
    · simp only [colP, clTo_length, scTo_length, swTo_length]; exact h.len
    · exact clTo_res _ _ _ _ _ _ (by omega) (scTo_res _ _ _ _ (by omega) (swTo_res _ _ _ _ (by omega) h.res _) _)
    · rw [elen] at hi; rw [epv]
      by_cases e1 : i = s.pv.length
      · subst e1; rw [gd2]; omega
      · rw [gd i (by omega)]; have := h.lt i (by omega); omega
    · rw [elen] at hj; rw [epv]
      by_cases e1 : j = s.pv.length
      · subst e1; rw [gd2, gd i hij]; exact h.lt i hij
      · rw [gd i (by omega), gd j (by omega)]; exact h.up i j hij (by omega)
    · rw [elen] at hi; rw [epv]
      by_cases e1 : i = s.pv.length
      · subst e1; rw [gd2, E _ c hr hc, if_pos rfl, hinv]
      · have hi' : i < s.pv.length := by omega
        have := h.lt i hi'
        rw [gd i hi', keep i _ (by omega) (by omega) (kpv i hi') e1, ex1 i hi']; exact h.one i hi'
    · rw [elen] at hi; rw [epv]
      by_cases e1 : i = s.pv.length
      · subst e1
        rw [gd2, E j c hj hc, if_neg hne, hinv, Int.mul_one, Int.sub_self, hz]
      · have hi' : i < s.pv.length := by omega
        have h4 := h.lt i hi'
        rw [gd i hi']
        by_cases e2 : j = s.pv.length
        · subst e2; exact keepr _ (by omega) (kpv i hi')
        · rw [keep j _ hj (by omega) (kpv i hi') e2]
          refine h.only i _ hi' (exch_lt hr hk hj) ?_
          by_cases e3 : j < s.pv.length
          · rw [ex1 j e3]; exact hne
          · have := ex2 j (by omega); omega
    · rw [elen] at hi; rw [epv] at hq
      by_cases e1 : i = s.pv.length
      · subst e1
        rw [gd2] at hq
        exact keepr q (by omega) (h.rest k f1 hk q hq)
      · have hi' : i < s.pv.length := by omega
        have h4 := h.lt i hi'
        rw [gd i hi'] at hq
        rw [keep i q (by omega) (by omega) (h.rest k f1 hk q (by omega)) e1, ex1 i hi']
        exact h.zero i hi' q hq
    · rw [elen] at hj
      by_cases e1 : q = c
      · subst e1
        rw [E j q hj2 hc, if_neg (by omega), hinv, Int.mul_one, Int.sub_self, hz]
      · rw [keep j q hj2 (by omega) (h.rest k f1 hk q (by omega)) (by omega)]
        exact h.rest _ (ex2 j (by omega)) (exch_lt hr hk hj2) q (by omega)
theorem half_redTo {P : Int} {R C : Nat} {xs : List Int} (hp : IsP P) (hl : xs.length = R * C) (hx : Res xs P) (c : Nat) (hc : c ≤ C) : Half P R C c (redTo P R C xs c) := by
  induction c with
  | zero => exact half_start hl hx
  | succ c ih => exact half_step hp hc (ih (by omega))
theorem colS_same {P : Int} {R C c : Nat} {s : RSt} (hp : IsP P) (hc : c < C) (h : Half P R C c s) : SameSp P C R (at2 C s.m) R (at2 C (colS P R C c s).m) := by
  unfold colS
  split
  · exact SameSp.refl
  · rename_i e
    have h1 := fnz_ge (l := s.m) (C := C) (c := c) h.le
    have h2 := fnz_le (l := s.m) (C := C) (c := c) (R := R) (k := s.pv.length)
    exact colP_same hp h.len h.res (by omega) (by omega) hc (fnz_ne (by omega))
theorem redTo_same {P : Int} {R C : Nat} {xs : List Int} (hp : IsP P) (hl : xs.length = R * C) (hx : Res xs P) (c : Nat) (hc : c ≤ C) : SameSp P C R (at2 C xs) R (at2 C (redTo P R C xs c).m) := by
  induction c with
  | zero => exact SameSp.refl
  | succ c ih => exact (ih (by omega)).trans (colS_same hp (by omega) (half_redTo hp hl hx c (by omega)))
/-- The rows behind the pivots are zeros. -/
theorem Half.same {P : Int} {R C : Nat} {s : RSt} (h : Half P R C C s) : SameSp P C R (at2 C s.m) s.pv.length (at2 C s.m) := by
  refine ⟨fun i hi => ?_, fun i hi => InSp.row (by have := h.le; omega)⟩
  by_cases e : i < s.pv.length
  · exact InSp.row e
  · exact InSp.zero.congr (fun c hc => by rw [h.rest i (by omega) hi c hc]; exact Eqm.refl _)
theorem Half.rref {P : Int} {R C : Nat} {s : RSt} (h : Half P R C C s) (hP : 0 < P) : Rref P C (at2 C s.m) s.pv :=
  ⟨h.lt, h.up, h.one, fun i j hi hj hne => h.only i j hi (by have := h.le; omega) hne, h.zero, fun i _ c _ => at2_res h.res hP i c⟩
/-- The whole reduction. -/
def redM (P : Int) (R C : Nat) (xs : List Int) : RSt := redTo P R C xs C
theorem redM_rref {P : Int} {R C : Nat} {xs : List Int} (hp : IsP P) (hl : xs.length = R * C) (hx : Res xs P) : Rref P C (at2 C (redM P R C xs).m) (redM P R C xs).pv :=
  (half_redTo hp hl hx C (Nat.le_refl _)).rref (by have := hp.1; omega)
theorem redM_same {P : Int} {R C : Nat} {xs : List Int} (hp : IsP P) (hl : xs.length = R * C) (hx : Res xs P) : SameSp P C R (at2 C xs) (redM P R C xs).pv.length (at2 C (redM P R C xs).m) :=
  (redTo_same hp hl hx C (Nat.le_refl _)).trans (half_redTo hp hl hx C (Nat.le_refl _)).same
/-- The span: the first rows of the reduction. -/
def spanL (P : Int) (R C : Nat) (xs : List Int) : List Int := (redM P R C xs).m.take ((redM P R C xs).pv.length * C)
theorem ext_gi {a b : List Int} (hl : a.length = b.length) (h : ∀ k, k < a.length → gi a k = gi b k) : a = b := by
  apply List.ext_getElem hl
  intro k h1 h2
  have := h k h1
  simpa [gi, List.getD_eq_getElem?_getD, h1, h2] using this
theorem gi_take (l : List Int) (n k : Nat) (h : k < n) : gi (l.take n) k = gi l k := by
  simp [gi, List.getD_eq_getElem?_getD, h]
theorem spanL_length {P : Int} {R C : Nat} {xs : List Int} (hl : xs.length = R * C) : (spanL P R C xs).length = (redM P R C xs).pv.length * C := by
  have h2 := (redTo_pv (P := P) (R := R) (C := C) (xs := xs) C).2.1
  have := Nat.mul_le_mul_right C h2
  rw [spanL, List.length_take, redM, redTo_length, hl]
  unfold redM at this
  omega
/-- The span is known by what it spans. -/
theorem spanL_unique {P : Int} {R R' C : Nat} {xs ys : List Int} (hp : IsP P) (hl : xs.length = R * C) (hl' : ys.length = R' * C) (hx : Res xs P) (hy : Res ys P) (hs : SameSp P C R (at2 C xs) R' (at2 C ys)) :
    (redM P R C xs).pv = (redM P R' C ys).pv ∧ spanL P R C xs = spanL P R' C ys := by
  have h := (redM_rref hp hl hx).unique (redM_rref hp hl' hy) hp.1 (((redM_same hp hl hx).symm.trans hs).trans (redM_same hp hl' hy))
  refine ⟨h.1, ext_gi (by rw [spanL_length hl, spanL_length hl', h.1]) (fun k hk => ?_)⟩
  rw [spanL_length hl] at hk
  rw [spanL, spanL, gi_take _ _ _ hk, gi_take _ _ _ (by rw [← h.1]; exact hk)]
  have hC : 0 < C := by
    rcases Nat.eq_zero_or_pos C with h | h
    · subst h; simp at hk
    · exact h
  have := h.2 (k / C) (Nat.div_lt_of_lt_mul (by rwa [Nat.mul_comm] at hk)) (k % C) (Nat.mod_lt _ hC)
  unfold at2 at this
  rwa [show k / C * C + k % C = k by rw [Nat.mul_comm]; exact Nat.div_add_mod k C] at this
end Go.Proofs.Ytnikfalpjieibaa

/-
  Spaces, kernels, systems. Plain mathematics.
-/
namespace Go.Proofs.Ytnikfalpjieibaa
set_option linter.unusedVariables false

/-! Spaces: matrices that are their own span; what lies in them. -/
/-- A list is its own span: then its rows are in reduced form. -/
theorem spanL_take_at2 {P : Int} {R C : Nat} {xs : List Int} {i c : Nat} (hi : i < (redM P R C xs).pv.length) (hc : c < C) : at2 C (spanL P R C xs) i c = at2 C (redM P R C xs).m i c := by
  have := row_lt (C := C) hi
  unfold at2 spanL
  exact gi_take _ _ _ (by omega)
theorem Rref.congr {P : Int} {C : Nat} {M N : Nat → Nat → Int} {pv : List Nat} (h : Rref P C M pv) (he : ∀ i, i < pv.length → ∀ c, c < C → N i c = M i c) : Rref P C N pv := by
  have hlt := h.lt
  refine ⟨h.lt, h.up, fun i hi => ?_, fun i j hi hj hne => ?_, fun i hi c hc => ?_, fun i hi c hc => ?_⟩
  · rw [he i hi _ (hlt i hi)]; exact h.one i hi
  · rw [he j hj _ (hlt i hi)]; exact h.only i j hi hj hne
  · rw [he i hi c (by have := hlt i hi; omega)]; exact h.zero i hi c hc
  · rw [he i hi c hc]; exact h.res i hi c hc
theorem SameSp.congr {P : Int} {R C : Nat} {M N : Nat → Nat → Int} (he : ∀ i, i < R → ∀ c, c < C → N i c = M i c) : SameSp P C R M R N :=
  ⟨fun i hi => (InSp.row (M := N) hi).congr (fun c hc => by rw [he i hi c hc]; exact Eqm.refl _), fun i hi => (InSp.row (M := M) hi).congr (fun c hc => by rw [he i hi c hc]; exact Eqm.refl _)⟩
section
variable {P : Int} {R C : Nat} {xs : List Int}
/-- The span's rows are in reduced form, and span the same. -/
theorem spanL_rref (hp : IsP P) (hl : xs.length = R * C) (hx : Res xs P) : Rref P C (at2 C (spanL P R C xs)) (redM P R C xs).pv :=
  (redM_rref hp hl hx).congr (fun i hi c hc => spanL_take_at2 hi hc)
theorem spanL_same (hp : IsP P) (hl : xs.length = R * C) (hx : Res xs P) : SameSp P C R (at2 C xs) (redM P R C xs).pv.length (at2 C (spanL P R C xs)) :=
  (redM_same hp hl hx).trans (SameSp.congr (fun i hi c hc => spanL_take_at2 hi hc))
theorem spanL_res (hP : 2 ≤ P) (hx : Res xs P) : Res (spanL P R C xs) P := by
  intro j hj
  have hj' := hj
  rw [spanL, List.length_take] at hj'
  rw [spanL, gi_take _ _ _ (by omega)]
  exact res_gi _ _ (redTo_res hP hx C) (by omega) _
/-- Rows in reduced form are their own span. -/
theorem rref_span {pv : List Nat} (hp : IsP P) (hl : xs.length = R * C) (hx : Res xs P) (h : Rref P C (at2 C xs) pv) (hk : pv.length = R) : (redM P R C xs).pv = pv ∧ spanL P R C xs = xs := by
  subst hk
  have hu := (redM_rref hp hl hx).unique h hp.1 (redM_same hp hl hx).symm
  refine ⟨hu.1, ext_gi (by rw [spanL_length hl, hu.1, hl]) (fun k hk => ?_)⟩
  rw [spanL_length hl] at hk
  have hC : 0 < C := by
    rcases Nat.eq_zero_or_pos C with h | h
    · subst h; simp at hk
    · exact h
  have := hu.2 (k / C) (Nat.div_lt_of_lt_mul (by rwa [Nat.mul_comm] at hk)) (k % C) (Nat.mod_lt _ hC)
  unfold at2 at this
  rw [show k / C * C + k % C = k by rw [Nat.mul_comm]; exact Nat.div_add_mod k C] at this
  rw [spanL, gi_take _ _ _ hk]
  exact this
/-- A space: its own span, with all of its rows. -/
def IsSp (P : Int) (R C : Nat) (xs : List Int) : Prop := (redM P R C xs).pv.length = R ∧ spanL P R C xs = xs
theorem IsSp.rref (h : IsSp P R C xs) (hp : IsP P) (hl : xs.length = R * C) (hx : Res xs P) : Rref P C (at2 C xs) (redM P R C xs).pv := by
  have := spanL_rref hp hl hx
  rwa [h.2] at this
theorem isSp_of_rref {pv : List Nat} (hp : IsP P) (hl : xs.length = R * C) (hx : Res xs P) (h : Rref P C (at2 C xs) pv) (hk : pv.length = R) : IsSp P R C xs := by
  have := rref_span hp hl hx h hk
  exact ⟨by rw [this.1, hk], this.2⟩
/-- Every span is a space. -/
theorem spanL_isSp (hp : IsP P) (hl : xs.length = R * C) (hx : Res xs P) : IsSp P (redM P R C xs).pv.length C (spanL P R C xs) :=
  isSp_of_rref hp (spanL_length hl) (spanL_res hp.1 hx) (spanL_rref hp hl hx) rfl
/-- Orthogonal to rows: a system of equations. -/
def Orth (P : Int) (R C : Nat) (M : Nat → Nat → Int) (y : Nat → Int) : Prop := ∀ i, i < R → Eqm P (sumN C fun c => M i c * y c) 0
theorem Orth.span {M : Nat → Nat → Int} {y : Nat → Int} (h : Orth P R C M y) {v : Nat → Int} (hv : InSp P R C M v) : Eqm P (sumN C fun c => v c * y c) 0 := by
  obtain ⟨a, ha⟩ := hv
  have h1 : Eqm P (sumN C fun c => v c * y c) (sumN C fun c => sumN R fun i => a i * (M i c * y c)) := sumN_eqm fun c hc => by
    have := (ha c hc).mul (Eqm.refl (P := P) (y c))
    refine this.trans (Eqm.of_eq ?_)
    rw [Int.mul_comm, ← sumN_mul]
    exact sumN_congr fun i _ => by rw [Int.mul_comm, Int.mul_assoc]
  refine h1.trans ?_
  rw [sumN_swap]
  rw [← sumN_zero R]
  refine sumN_eqm fun i hi => ?_
  rw [sumN_mul]
  have := (Eqm.refl (P := P) (a i)).mul (h i hi)
  rwa [Int.mul_zero] at this
theorem Orth.same {R' : Nat} {M N : Nat → Nat → Int} {y : Nat → Int} (h : Orth P R C M y) (hs : SameSp P C R M R' N) : Orth P R' C N y := fun i hi => h.span (hs.2 i hi)
/-- Two spaces of one dimension, one in the other, are one. -/
theorem Rref.eq_of_le {M N : Nat → Nat → Int} {pv qv : List Nat} (h : Rref P C M pv) (h' : Rref P C N qv) (hP : 2 ≤ P) (hs : ∀ i, i < qv.length → InSp P pv.length C M (N i)) (hl : pv.length = qv.length) :
    pv = qv ∧ ∀ i, i < pv.length → ∀ c, c < C → M i c = N i c := by
  have hsub : ∀ x, x ∈ qv → x ∈ pv := fun x hx => by
    rw [getD_mem_iff] at hx ⊢
    obtain ⟨j, hj, rfl⟩ := hx
    exact h.mem h' hP hs j hj
  have e : pv = qv := by
    have hn : qv.Nodup := h'.asc.imp (fun h => by omega)
    have hn2 : pv.Nodup := h.asc.imp (fun h => by omega)
    have hp := perm_of_nodup qv pv hn hsub hl.symm
    exact asc_eq _ _ h.asc h'.asc (fun x => ⟨fun hx => hp.mem_iff.2 hx, fun hx => hp.mem_iff.1 hx⟩)
  subst e
  refine ⟨rfl, fun i hi c hc => ?_⟩
  refine Eqm.eq ?_ (h.res i hi c hc).1 (h.res i hi c hc).2 (h'.res i hi c hc).1 (h'.res i hi c hc).2
  refine ((h.coords (hs i hi) c hc).trans ?_).symm
  rw [sumN_one (k := i) _ hi (fun j hj hne => by rw [h'.only j i hj hi (Ne.symm hne), Int.zero_mul]), h'.one i hi, Int.one_mul]
  exact Eqm.refl _
end
/-! Kernels and systems. -/
/-- The element of the kernel that has 1 in the column c without a pivot. -/
def krTo (P : Int) (C : Nat) (m : List Int) (pv : List Nat) (c : Nat) : Nat → List Int
  | 0 => (List.replicate C 0).set c 1
  | r + 1 => (krTo P C m pv c r).set (pv.getD r 0) ((-(gi m (r * C + c))) % P)
/-- Those of the first columns, one behind the other. -/
def kerTo (P : Int) (C : Nat) (m : List Int) (pv : List Nat) : Nat → List Int
  | 0 => []
  | c + 1 => if c ∈ pv then kerTo P C m pv c else kerTo P C m pv c ++ krTo P C m pv c pv.length
/-- The columns without a pivot. -/
def freeTo (pv : List Nat) : Nat → List Nat
  | 0 => []
  | c + 1 => if c ∈ pv then freeTo pv c else freeTo pv c ++ [c]
section
variable {P : Int} {R C : Nat} {xs : List Int} {m : List Int} {pv : List Nat}
theorem krTo_length (c r : Nat) : (krTo P C m pv c r).length = C := by
  induction r with
  | zero => simp [krTo]
  | succ r ih => simp [krTo, ih]
theorem kerTo_length (c : Nat) : (kerTo P C m pv c).length = (freeTo pv c).length * C := by
  induction c with
  | zero => simp [kerTo, freeTo]
  | succ c ih =>
    rw [kerTo, freeTo]; split
    · exact ih
    · rw [List.length_append, ih, krTo_length, List.length_append, List.length_singleton, Nat.add_mul, Nat.one_mul]
theorem res_zero (n : Nat) (hP : 2 ≤ P) : Res (List.replicate n 0) P := fun j _ => by
  have : gi (List.replicate n (0 : Int)) j = 0 := by
    simp only [gi, List.getD_eq_getElem?_getD, List.getElem?_replicate]; split <;> rfl
  rw [this]; omega
theorem krTo_res (hP : 2 ≤ P) (c r : Nat) : Res (krTo P C m pv c r) P := by
  induction r with
  | zero => exact res_set _ _ _ _ (res_zero _ hP) (by omega) (by omega)
  | succ r ih => exact res_set _ _ _ _ ih (Int.emod_nonneg _ (by omega)) (Int.emod_lt_of_pos _ (by omega))
theorem res_append {a b : List Int} (h : Res a P) (h' : Res b P) : Res (a ++ b) P := by
  intro j hj
  rw [List.length_append] at hj
  by_cases e : j < a.length
  · have : gi (a ++ b) j = gi a j := by simp [gi, List.getD_eq_getElem?_getD, List.getElem?_append, e]
    rw [this]; exact h j e
  · have : gi (a ++ b) j = gi b (j - a.length) := by simp [gi, List.getD_eq_getElem?_getD, List.getElem?_append, e]
    rw [this]; exact h' _ (by omega)
theorem kerTo_res (hP : 2 ≤ P) (c : Nat) : Res (kerTo P C m pv c) P := by
  induction c with
  | zero => intro j hj; simp [kerTo] at hj
  | succ c ih =>
    rw [kerTo]; split
    · exact ih
    · exact res_append ih (krTo_res hP _ _)
/-- Only the rows with pivots count. -/
theorem krTo_take (c : Nat) (hc : c < C) (k r : Nat) (hr : r ≤ k) : krTo P C (m.take (k * C)) pv c r = krTo P C m pv c r := by
  induction r with
  | zero => rfl
  | succ r ih =>
    rw [krTo, krTo, ih (by omega), gi_take]
    have := row_lt (C := C) (show r < k by omega)
    omega
theorem kerTo_take (c : Nat) (hc : c ≤ C) : kerTo P C (m.take (pv.length * C)) pv c = kerTo P C m pv c := by
  induction c with
  | zero => rfl
  | succ c ih => rw [kerTo, kerTo, ih (by omega), krTo_take c (by omega) _ _ (Nat.le_refl _)]
/-- The rows that vanish on all solutions: the kernel's, before they are reduced, and how many. -/
def kerL (P : Int) (R C : Nat) (xs : List Int) : List Int := kerTo P C (redM P R C xs).m (redM P R C xs).pv C
def nullN (P : Int) (R C : Nat) (xs : List Int) : Nat := (freeTo (redM P R C xs).pv C).length
theorem kerL_length : (kerL P R C xs).length = nullN P R C xs * C := kerTo_length C
/-- They depend on the span alone. -/
theorem kerL_span (hp : IsP P) (hl : xs.length = R * C) (hx : Res xs P) : kerL P (redM P R C xs).pv.length C (spanL P R C xs) = kerL P R C xs ∧ nullN P (redM P R C xs).pv.length C (spanL P R C xs) = nullN P R C xs := by
  have h := rref_span (R := (redM P R C xs).pv.length) hp (spanL_length hl) (spanL_res hp.1 hx) (spanL_rref hp hl hx) rfl
  refine ⟨?_, by rw [nullN, nullN, h.1]⟩
  rw [kerL, ← kerTo_take C (Nat.le_refl _)]
  have h2 : (redM P (redM P R C xs).pv.length C (spanL P R C xs)).m.take ((redM P (redM P R C xs).pv.length C (spanL P R C xs)).pv.length * C) = spanL P R C xs := h.2
  rw [h2, h.1, spanL, kerTo_take C (Nat.le_refl _)]
  rfl
/-- As many columns without a pivot as are left. -/
theorem freeTo_length (c : Nat) (hn : pv.Nodup) (hlt : ∀ x, x ∈ pv → x < c) : (freeTo pv c).length + pv.length = c := by
  have key : ∀ c, (freeTo pv c).length + (pv.filter (· < c)).length = c := by
    intro c
    induction c with
    | zero => simp [freeTo]
    | succ c ih =>
      have h2 : (pv.filter (· < c + 1)).length = (pv.filter (· < c)).length + if c ∈ pv then 1 else 0 := by
        clear ih hlt
        induction pv with
        | nil => simp
        | cons x l ihl =>
          rw [List.nodup_cons] at hn
          have := ihl hn.2
          simp only [List.filter_cons, List.mem_cons]
          by_cases e : c = x
          · subst e
            simp [hn.1] at this ⊢
            omega
          · by_cases e2 : x < c
            · have : x < c + 1 := by omega
              simp [e, e2, this]; omega
            · have : ¬ x < c + 1 := by omega
              simp [e, e2, this]; omega
      rw [freeTo, h2]
      split
      · omega
      · rw [List.length_append, List.length_singleton]; omega
  have := key c
  rwa [List.filter_eq_self.2 (fun x hx => by simpa using hlt x hx)] at this
end
/-- A column is laid behind a matrix, row by row: the first i rows. -/
def jcTo (C : Nat) (xs vs : List Int) : Nat → List Int
  | 0 => []
  | i + 1 => jcTo C xs vs i ++ ((xs.drop (i * C)).take C ++ [gi vs i])
/-- The unknowns of the first r pivots. -/
def solTo (C : Nat) (m : List Int) (pv : List Nat) : Nat → List Int
  | 0 => List.replicate C 0
  | r + 1 => (solTo C m pv r).set (pv.getD r 0) (gi m (r * (C + 1) + C))
theorem solTo_length (C : Nat) (m : List Int) (pv : List Nat) (r : Nat) : (solTo C m pv r).length = C := by
  induction r with
  | zero => simp [solTo]
  | succ r ih => simp [solTo, ih]
/-- The system's end: the reduction of the first C columns of the matrix with v behind it. -/
def solS (P : Int) (R C : Nat) (xs vs : List Int) : RSt := redTo P R (C + 1) (jcTo C xs vs R) C
def solOk (P : Int) (R C : Nat) (xs vs : List Int) : Bool := fnz (solS P R C xs vs).m (C + 1) C R (solS P R C xs vs).pv.length == R
def solL (P : Int) (R C : Nat) (xs vs : List Int) : List Int := solTo C (solS P R C xs vs).m (solS P R C xs vs).pv (solS P R C xs vs).pv.length
section
variable {P : Int} {R C : Nat} {xs vs : List Int}
theorem jcTo_length (hl : xs.length = R * C) (i : Nat) (hi : i ≤ R) : (jcTo C xs vs i).length = i * (C + 1) := by
  induction i with
  | zero => simp [jcTo]
  | succ i ih =>
    have := row_lt (C := C) (show i < R by omega)
    rw [jcTo, List.length_append, ih (by omega)]
    simp only [List.length_append, List.length_take, List.length_drop, List.length_singleton, hl]
    rw [Nat.add_mul i 1, Nat.one_mul]
    have : min C (R * C - i * C) = C := by omega
    rw [this]
theorem gi_append_l {a b : List Int} {k : Nat} (h : k < a.length) : gi (a ++ b) k = gi a k := by
  simp [gi, List.getD_eq_getElem?_getD, List.getElem?_append, h]
theorem gi_append_r {a b : List Int} {k : Nat} (h : a.length ≤ k) : gi (a ++ b) k = gi b (k - a.length) := by
  simp [gi, List.getD_eq_getElem?_getD, List.getElem?_append, show ¬ k < a.length by omega]
theorem gi_drop (l : List Int) (n k : Nat) : gi (l.drop n) k = gi l (n + k) := by
  simp [gi, List.getD_eq_getElem?_getD]
theorem at2_jcTo (hl : xs.length = R * C) (n : Nat) (hn : n ≤ R) (i c : Nat) (hi : i < n) (hc : c < C + 1) : at2 (C + 1) (jcTo C xs vs n) i c = if c < C then at2 C xs i c else gi vs i := by
  induction n with
  | zero => omega
  | succ n ih =>
    have hln := jcTo_length (vs := vs) hl n (by omega)
    have h3 := row_lt (C := C) (show n < R by omega)
    have hlr : ((xs.drop (n * C)).take C).length = C := by simp only [List.length_take, List.length_drop, hl]; omega
    unfold at2 at ih ⊢
    rw [jcTo]
    by_cases e : i = n
    · subst e
      rw [gi_append_r (by rw [hln]; omega), hln, Nat.add_sub_cancel_left]
      by_cases e2 : c < C
      · rw [gi_append_l (by omega), gi_take _ _ _ e2, gi_drop, if_pos e2]
      · obtain rfl : c = C := by omega
        rw [gi_append_r (by omega), hlr, Nat.sub_self, if_neg e2]; rfl
    · have := row_lt (C := C + 1) (show i < n by omega)
      rw [gi_append_l (by rw [hln]; omega)]
      exact ih (by omega) (by omega)
theorem jcTo_res (hP : 2 ≤ P) (hl : xs.length = R * C) (hx : Res xs P) (hv : Res vs P) (i : Nat) : Res (jcTo C xs vs i) P := by
  induction i with
  | zero => intro j hj; simp [jcTo] at hj
  | succ i ih =>
    refine res_append ih (res_append (fun j hj => ?_) (fun j hj => ?_))
    · rw [gi_take _ _ _ (by rw [List.length_take] at hj; omega), gi_drop]; exact res_gi _ _ hx (by omega) _
    · have : j = 0 := by simpa using hj
      subst this
      exact res_gi _ _ hv (by omega) _
theorem gi_solTo {m : List Int} {pv : List Nat} (hu : ∀ i j, i < j → j < pv.length → pv.getD i 0 < pv.getD j 0) (hlt : ∀ i, i < pv.length → pv.getD i 0 < C) (r : Nat) (hr : r ≤ pv.length) (c : Nat) (hc : c < C) :
    (∀ j, j < r → pv.getD j 0 = c → gi (solTo C m pv r) c = gi m (j * (C + 1) + C)) ∧ ((∀ j, j < r → pv.getD j 0 ≠ c) → gi (solTo C m pv r) c = 0) := by
  induction r with
  | zero =>
    refine ⟨fun j hj => by omega, fun _ => ?_⟩
    rw [solTo]; simp only [gi, List.getD_eq_getElem?_getD, List.getElem?_replicate]; split <;> rfl
  | succ r ih =>
    have hpr := hlt r (by omega)
    have hs := fun q => gi_set (solTo C m pv r) (pv.getD r 0) q (gi m (r * (C + 1) + C)) (by rw [solTo_length]; exact hpr)
    refine ⟨fun j hj e => ?_, fun h => ?_⟩
    · rw [solTo, hs]
      by_cases e2 : j = r
      · subst e2; rw [if_pos e.symm]
      · have := hu j r (by omega) (by omega)
        rw [if_neg (by omega)]
        exact (ih (by omega)).1 j (by omega) e
    · rw [solTo, hs, if_neg (fun e => h r (by omega) e.symm)]
      exact (ih (by omega)).2 (fun j hj => h j (by omega))
/-- x solves the system. -/
def Solves (P : Int) (R C : Nat) (xs vs : List Int) (x : Nat → Int) : Prop := ∀ i, i < R → Eqm P (sumN C fun c => at2 C xs i c * x c) (gi vs i)
/-- .. as a vector that is orthogonal to rows. -/
def ext1 (C : Nat) (x : Nat → Int) (c : Nat) : Int := if c < C then x c else -1
theorem solves_iff (hl : xs.length = R * C) (x : Nat → Int) : Solves P R C xs vs x ↔ Orth P R (C + 1) (at2 (C + 1) (jcTo C xs vs R)) (ext1 C x) := by
  have e : ∀ i, i < R → sumN (C + 1) (fun c => at2 (C + 1) (jcTo C xs vs R) i c * ext1 C x c) = sumN C (fun c => at2 C xs i c * x c) - gi vs i := fun i hi => by
    rw [sumN, at2_jcTo hl R (Nat.le_refl _) i C hi (by omega), if_neg (by omega), ext1, if_neg (by omega)]
    have : sumN C (fun c => at2 (C + 1) (jcTo C xs vs R) i c * ext1 C x c) = sumN C (fun c => at2 C xs i c * x c) := sumN_congr fun c hc => by
      rw [at2_jcTo hl R (Nat.le_refl _) i c hi (by omega), if_pos hc, ext1, if_pos hc]
    rw [this]; omega
  constructor
  · intro h i hi
    rw [e i hi]
    have := (h i hi).sub (Eqm.refl (P := P) (gi vs i))
    rwa [Int.sub_self] at this
  · intro h i hi
    have := h i hi
    rw [e i hi] at this
    have := this.add (Eqm.refl (P := P) (gi vs i))
    rwa [Int.sub_add_cancel, Int.zero_add] at this
theorem sol_half (hp : IsP P) (hl : xs.length = R * C) (hx : Res xs P) (hv : Res vs P) : Half P R (C + 1) C (solS P R C xs vs) :=
  half_redTo hp (jcTo_length hl R (Nat.le_refl _)) (jcTo_res hp.1 hl hx hv R) C (by omega)
theorem sol_same (hp : IsP P) (hl : xs.length = R * C) (hx : Res xs P) (hv : Res vs P) : SameSp P (C + 1) R (at2 (C + 1) (jcTo C xs vs R)) R (at2 (C + 1) (solS P R C xs vs).m) :=
  redTo_same hp (jcTo_length hl R (Nat.le_refl _)) (jcTo_res hp.1 hl hx hv R) C (by omega)
theorem solOk_iff (hp : IsP P) (hl : xs.length = R * C) (hx : Res xs P) (hv : Res vs P) : solOk P R C xs vs = true ↔ ∀ j, (solS P R C xs vs).pv.length ≤ j → j < R → at2 (C + 1) (solS P R C xs vs).m j C = 0 := by
  have h := sol_half hp hl hx hv
  obtain ⟨f1, f2, f3, f4⟩ := fnz_spec (solS P R C xs vs).m (C + 1) C R _ (solS P R C xs vs).pv.length rfl h.le
  rw [solOk, beq_iff_eq]
  constructor
  · intro e j hj hj2
    exact f3 j hj (by omega)
  · intro hz
    apply Classical.byContradiction
    intro e
    have := f4 (by omega)
    exact this (hz _ f1 (by omega))
/-- What is found solves the system. -/
theorem sol_solves (hp : IsP P) (hl : xs.length = R * C) (hx : Res xs P) (hv : Res vs P) (hok : solOk P R C xs vs = true) : Solves P R C xs vs (gi (solL P R C xs vs)) := by
  have h := sol_half hp hl hx hv
  rw [solOk_iff hp hl hx hv] at hok
  rw [solves_iff hl]
  refine Orth.same (M := at2 (C + 1) (solS P R C xs vs).m) (fun i hi => ?_) (sol_same hp hl hx hv).symm
  have g := fun c hc => gi_solTo (m := (solS P R C xs vs).m) h.up h.lt _ (Nat.le_refl _) c hc
  rw [sumN, ext1, if_neg (by omega)]
  by_cases e : i < (solS P R C xs vs).pv.length
  · have hpi := h.lt i e
    rw [sumN_one (k := (solS P R C xs vs).pv.getD i 0) _ hpi, h.one i e, ext1, if_pos hpi, solL, (g _ hpi).1 i e rfl]
    · have : (1 : Int) * gi (solS P R C xs vs).m (i * (C + 1) + C) + at2 (C + 1) (solS P R C xs vs).m i C * -1 = 0 := by unfold at2; omega
      rw [this]; exact Eqm.refl _
    · intro c hc hne
      rw [ext1, if_pos hc]
      by_cases e2 : ∃ j, j < (solS P R C xs vs).pv.length ∧ (solS P R C xs vs).pv.getD j 0 = c
      · obtain ⟨j, hj, rfl⟩ := e2
        rw [h.only j i hj hi (fun e3 => hne (by rw [e3])), Int.zero_mul]
      · rw [solL, (g c hc).2 (fun j hj e3 => e2 ⟨j, hj, e3⟩), Int.mul_zero]
  · rw [hok i (by omega) hi, Int.zero_mul, Int.add_zero]
    have : sumN C (fun c => at2 (C + 1) (solS P R C xs vs).m i c * ext1 C (gi (solL P R C xs vs)) c) = sumN C (fun _ => 0) := sumN_congr fun c hc => by
      rw [h.rest i (by omega) hi c hc, Int.zero_mul]
    rw [this, sumN_zero]; exact Eqm.refl _
/-- Where a system has a solution, it is found. -/
theorem sol_found (hp : IsP P) (hl : xs.length = R * C) (hx : Res xs P) (hv : Res vs P) {x : Nat → Int} (hs : Solves P R C xs vs x) : solOk P R C xs vs = true := by
  have h := sol_half hp hl hx hv
  rw [solOk_iff hp hl hx hv]
  intro j hj hj2
  rw [solves_iff hl] at hs
  have := (hs.same (sol_same hp hl hx hv)) j hj2
  rw [sumN, ext1, if_neg (by omega)] at this
  have e : sumN C (fun c => at2 (C + 1) (solS P R C xs vs).m j c * ext1 C x c) = sumN C (fun _ => 0) := sumN_congr fun c hc => by
    rw [h.rest j hj hj2 c hc, Int.zero_mul]
  rw [e, sumN_zero, Int.zero_add] at this
  have h2 := this.mul (Eqm.refl (P := P) (-1))
  rw [Int.mul_assoc] at h2
  have h3 := at2_res (C := C + 1) h.res (show 0 < P by have := hp.1; omega) j C
  exact (show Eqm P _ 0 by simpa using h2).eq h3.1 h3.2 (by omega) (by have := hp.1; omega)
end
/-! Inverses, coordinates, subspaces. -/
/-- The columns of ys behind those of xs, row by row: the first i rows. -/
def jmTo (C D : Nat) (xs ys : List Int) : Nat → List Int
  | 0 => []
  | i + 1 => jmTo C D xs ys i ++ ((xs.drop (i * C)).take C ++ (ys.drop (i * D)).take D)
theorem row_len {R C : Nat} {xs : List Int} (hl : xs.length = R * C) {i : Nat} (hi : i < R) : ((xs.drop (i * C)).take C).length = C := by
  have := row_lt (C := C) hi
  simp only [List.length_take, List.length_drop, hl]; omega
section
variable {P : Int} {R C D : Nat} {xs ys : List Int}
theorem jmTo_length (hl : xs.length = R * C) (hl' : ys.length = R * D) (i : Nat) (hi : i ≤ R) : (jmTo C D xs ys i).length = i * (C + D) := by
  induction i with
  | zero => simp [jmTo]
  | succ i ih => rw [jmTo, List.length_append, ih (by omega), List.length_append, row_len hl (by omega), row_len hl' (by omega), Nat.add_mul i 1, Nat.one_mul]
theorem at2_jmTo (hl : xs.length = R * C) (hl' : ys.length = R * D) (n : Nat) (hn : n ≤ R) (i c : Nat) (hi : i < n) (hc : c < C + D) : at2 (C + D) (jmTo C D xs ys n) i c = if c < C then at2 C xs i c else at2 D ys i (c - C) := by
  induction n with
  | zero => omega
  | succ n ih =>
    have hln := jmTo_length hl hl' n (by omega)
    have h1 := row_len hl (show n < R by omega)
    have h2 := row_len hl' (show n < R by omega)
    unfold at2 at ih ⊢
    rw [jmTo]
    by_cases e : i = n
    · subst e
      rw [gi_append_r (by rw [hln]; omega), hln, Nat.add_sub_cancel_left]
      by_cases e2 : c < C
      · rw [gi_append_l (by omega), gi_take _ _ _ e2, gi_drop, if_pos e2]
      · rw [gi_append_r (by omega), h1, gi_take _ _ _ (by omega), gi_drop, if_neg e2]
    · have := row_lt (C := C + D) (show i < n by omega)
      rw [gi_append_l (by rw [hln]; omega)]
      exact ih (by omega) (by omega)
theorem rowL_res (hP : 0 < P) (hx : Res xs P) (o n : Nat) : Res ((xs.drop o).take n) P := fun j hj => by
  rw [gi_take _ _ _ (by rw [List.length_take] at hj; omega), gi_drop]; exact res_gi _ _ hx hP _
theorem jmTo_res (hP : 2 ≤ P) (hx : Res xs P) (hy : Res ys P) (i : Nat) : Res (jmTo C D xs ys i) P := by
  induction i with
  | zero => intro j hj; simp [jmTo] at hj
  | succ i ih => exact res_append ih (res_append (rowL_res (by omega) hx _ _) (rowL_res (by omega) hy _ _))
theorem jmTo_one {vs : List Int} (hl : vs.length = R) (i : Nat) (hi : i ≤ R) : jmTo C 1 xs vs i = jcTo C xs vs i := by
  induction i with
  | zero => rfl
  | succ i ih =>
    rw [jmTo, jcTo, ih (by omega), Nat.mul_one]
    congr 2
    apply ext_gi
    · simp [hl]; omega
    · intro k hk
      have : k = 0 := by simp at hk; omega
      subst this
      rw [gi_take _ _ _ (by omega), gi_drop]; rfl
end
/-- The pivots of the first columns stay, those that are found later stand behind. -/
theorem redTo_prefix {P : Int} {R C : Nat} {xs : List Int} (c k : Nat) : ∃ l, (redTo P R C xs (c + k)).pv = (redTo P R C xs c).pv ++ l ∧ ∀ x, x ∈ l → c ≤ x := by
  induction k with
  | zero => exact ⟨[], by simp, by simp⟩
  | succ k ih =>
    obtain ⟨l, h1, h2⟩ := ih
    rw [← Nat.add_assoc, redTo, colS]
    split
    · exact ⟨l, h1, h2⟩
    · refine ⟨l ++ [c + k], ?_, fun x hx => ?_⟩
      · simp only [colP, h1, List.append_assoc]
      · rw [List.mem_append, List.mem_singleton] at hx
        rcases hx with hx | rfl
        · exact h2 x hx
        · omega
/-- A matrix as a list. -/
def mkL (k n : Nat) (f : Nat → Nat → Int) : List Int := (List.range (k * n)).map fun q => f (q / n) (q % n)
theorem mkL_length (k n : Nat) (f : Nat → Nat → Int) : (mkL k n f).length = k * n := by simp [mkL]
theorem at2_mkL {k n : Nat} (f : Nat → Nat → Int) {i c : Nat} (hi : i < k) (hc : c < n) : at2 n (mkL k n f) i c = f i c := by
  have := row_lt (C := n) hi
  have h1 : (i * n + c) / n = i := by
    rw [Nat.mul_comm, Nat.mul_add_div (by omega), Nat.div_eq_of_lt hc, Nat.add_zero]
  have h2 : (i * n + c) % n = c := by rw [Nat.mul_comm, Nat.mul_add_mod, Nat.mod_eq_of_lt hc]
  simp [at2, gi, mkL, show i * n + c < k * n by omega, h1, h2]
theorem InSp.right {P : Int} {R C D : Nat} {M : Nat → Nat → Int} {v : Nat → Int} (h : InSp P R (C + D) M v) : InSp P R D (fun i c => M i (C + c)) (fun c => v (C + c)) := by
  obtain ⟨a, ha⟩ := h
  exact ⟨a, fun c hc => ha (C + c) (by omega)⟩
/-- The unit matrix is in reduced form. -/
def unitF (i c : Nat) : Int := if i = c then 1 else 0
theorem unit_rref {P : Int} (hP : 2 ≤ P) (n : Nat) : Rref P n unitF (List.range n) := by
  have g : ∀ i, i < n → (List.range n).getD i 0 = i := fun i hi => by simp [List.getD_eq_getElem?_getD, hi]
  refine ⟨fun i hi => ?_, fun i j hij hj => ?_, fun i hi => ?_, fun i j hi hj hne => ?_, fun i hi c hc => ?_, fun i hi c hc => ?_⟩ <;> simp only [List.length_range] at *
  · rw [g i hi]; exact hi
  · rw [g i (by omega), g j hj]; exact hij
  · rw [g i hi]; simp [unitF]
  · rw [g i hi]; simp [unitF, hne]
  · rw [g i hi] at hc; simp [unitF]; omega
  · unfold unitF; split <;> omega
/-- Vectors that span all are as many at least. -/
theorem span_all {P : Int} {k n : Nat} {N : Nat → Nat → Int} (hp : IsP P) (hr : ∀ i c, 0 ≤ N i c ∧ N i c < P) (h : ∀ i, i < n → InSp P k n N (unitF i)) : n ≤ k := by
  have hl := mkL_length k n N
  have hx : Res (mkL k n N) P := fun j hj => by
    rw [hl] at hj
    have : gi (mkL k n N) j = N (j / n) (j % n) := by simp [gi, mkL, hj]
    rw [this]; exact hr _ _
  have hs : SameSp P n k N n unitF := by
    refine ⟨fun i hi => ⟨N i, fun c hc => ?_⟩, h⟩
    rw [sumN_one (k := c) _ hc (fun j hj hne => by simp [unitF, hne])]
    simp [unitF]; exact Eqm.refl _
  have hm : SameSp P n k (at2 n (mkL k n N)) k N := (SameSp.congr (fun i hi c hc => at2_mkL N hi hc)).symm
  have hu := (redM_rref hp hl hx).unique (unit_rref hp.1 n) hp.1 (by
    rw [List.length_range]; exact (redM_same hp hl hx).symm.trans (hm.trans hs))
  have := (redTo_pv (P := P) (R := k) (C := n) (xs := mkL k n N) n).2.1
  have e : (redM P k n (mkL k n N)).pv.length = n := by rw [hu.1, List.length_range]
  unfold redM at e
  omega
/-- A matrix with the unit matrix behind it has as many pivots as rows. -/
theorem wide_rank {P : Int} {n : Nat} {xs us : List Int} (hp : IsP P) (hl : xs.length = n * n) (hx : Res xs P) (hu : us.length = n * n) (hus : Res us P) (hU : ∀ i c, i < n → c < n → at2 n us i c = unitF i c) :
    (redTo P n (n + n) (jmTo n n xs us n) (n + n)).pv.length = n := by
  have hjl := jmTo_length hl hu n (Nat.le_refl _)
  have hjr := jmTo_res (C := n) (D := n) hp.1 hx hus n
  have hs := redM_same hp hjl hjr
  have h1 := (redTo_pv (P := P) (R := n) (C := n + n) (xs := jmTo n n xs us n) (n + n)).2.1
  have h2 : n ≤ (redM P n (n + n) (jmTo n n xs us n)).pv.length := by
    refine span_all (N := fun i c => at2 (n + n) (redM P n (n + n) (jmTo n n xs us n)).m i (n + c)) hp (fun i c => at2_res (redTo_res hp.1 hjr _) (by have := hp.1; omega) _ _) (fun i hi => ?_)
    refine (hs.1 i hi).right.congr (fun c hc => ?_)
    rw [at2_jmTo hl hu n (Nat.le_refl _) i (n + c) hi (by omega), if_neg (by omega), Nat.add_sub_cancel_left, hU i c hi hc]
    exact Eqm.refl _
  unfold redM at h2
  omega
section
variable {P : Int} {R C : Nat} {xs xt vs : List Int}
/-- Solutions of the transposed system are coordinates. -/
theorem trans_solves (hT : ∀ c i, c < C → i < R → at2 R xt c i = at2 C xs i c) (x : Nat → Int) : Solves P C R xt vs x ↔ ∀ c, c < C → Eqm P (gi vs c) (sumN R fun i => x i * at2 C xs i c) := by
  have e : ∀ c, c < C → sumN R (fun i => at2 R xt c i * x i) = sumN R (fun i => x i * at2 C xs i c) := fun c hc => sumN_congr fun i hi => by rw [hT c i hc hi, Int.mul_comm]
  constructor
  · intro h c hc
    have := h c hc
    rw [e c hc] at this; exact this.symm
  · intro h c hc
    rw [e c hc]; exact (h c hc).symm
theorem trans_sol (hp : IsP P) (hl : xs.length = R * C) (hx : Res xs P) (hv : Res vs P) (ht : xt.length = C * R) (htr : Res xt P) (hT : ∀ c i, c < C → i < R → at2 R xt c i = at2 C xs i c) :
    solOk P C R xt vs = true ↔ InSp P R C (at2 C xs) (gi vs) := by
  constructor
  · intro h
    exact ⟨_, (trans_solves hT _).1 (sol_solves hp ht htr hv h)⟩
  · rintro ⟨a, ha⟩
    exact sol_found hp ht htr hv ((trans_solves hT a).2 ha)
/-- The coordinates that stand in the columns of the pivots. -/
def coL (pv : List Nat) (vs : List Int) : List Int := pv.map fun c => gi vs c
/-- .. and what they make: the first r rows. -/
def coTo (P : Int) (C : Nat) (xs vs : List Int) (pv : List Nat) : Nat → List Int
  | 0 => List.replicate C 0
  | r + 1 => axL P (gi vs (pv.getD r 0)) xs 0 (r * C) C (coTo P C xs vs pv r)
theorem coTo_length (pv : List Nat) (r : Nat) : (coTo P C xs vs pv r).length = C := by
  induction r with
  | zero => simp [coTo]
  | succ r ih => rw [coTo, axL_length, ih]
theorem coTo_res (hP : 2 ≤ P) (pv : List Nat) (r : Nat) : Res (coTo P C xs vs pv r) P := by
  induction r with
  | zero => exact res_zero _ hP
  | succ r ih => exact axL_res _ _ _ _ _ _ _ (by omega) ih
theorem gi_coTo (hP : 2 ≤ P) (pv : List Nat) (r c : Nat) (hc : c < C) : Eqm P (gi (coTo P C xs vs pv r) c) (sumN r fun i => gi vs (pv.getD i 0) * at2 C xs i c) := by
  induction r with
  | zero =>
    have : gi (List.replicate C (0 : Int)) c = 0 := by simp only [gi, List.getD_eq_getElem?_getD, List.getElem?_replicate]; split <;> rfl
    rw [coTo, this]; exact Eqm.refl _
  | succ r ih =>
    rw [coTo, axL, sumN]
    split
    · rename_i e
      rw [e, Int.zero_mul, Int.add_zero]; exact ih
    · have := gi_axTo_in P (gi vs (pv.getD r 0)) 0 (r * C) C (coTo P C xs vs pv r) xs (by rw [coTo_length]; omega) c C hc (Nat.le_refl _)
      rw [Nat.zero_add] at this
      rw [this]
      exact (Eqm.emod _).trans (ih.add (Eqm.refl _))
theorem co_iff (hp : IsP P) (hl : xs.length = R * C) (hx : Res xs P) (hs : IsSp P R C xs) (hv : Res vs P) (hvl : vs.length = C) :
    coTo P C xs vs (redM P R C xs).pv R = vs ↔ InSp P R C (at2 C xs) (gi vs) := by
  have hr := hs.rref hp hl hx
  constructor
  · intro h
    refine ⟨fun i => gi vs ((redM P R C xs).pv.getD i 0), fun c hc => ?_⟩
    have := gi_coTo (xs := xs) (vs := vs) hp.1 (redM P R C xs).pv R c hc
    rwa [h] at this
  · intro h
    refine ext_gi (by rw [coTo_length, hvl]) (fun c hc => ?_)
    rw [coTo_length] at hc
    have h1 := res_gi _ _ (coTo_res (C := C) (xs := xs) (vs := vs) hp.1 (redM P R C xs).pv R) (show 0 < P by have := hp.1; omega) c
    have h2 := res_gi _ _ hv (show 0 < P by have := hp.1; omega) c
    refine Eqm.eq ?_ h1.1 h1.2 h2.1 h2.2
    refine (gi_coTo hp.1 _ R c hc).trans ?_
    have := hr.coords (by rw [hs.1]; exact h) c hc
    rw [hs.1] at this
    exact this.symm
theorem co_sol (hp : IsP P) (hl : xs.length = R * C) (hx : Res xs P) (hs : IsSp P R C xs) (hv : Res vs P) (ht : xt.length = C * R) (htr : Res xt P) (hT : ∀ c i, c < C → i < R → at2 R xt c i = at2 C xs i c) (hok : solOk P C R xt vs = true) :
    solL P C R xt vs = coL (redM P R C xs).pv vs := by
  have hr := hs.rref hp hl hx
  have h := (trans_solves hT _).1 (sol_solves hp ht htr hv hok)
  have hlen : (solL P C R xt vs).length = R := solTo_length ..
  refine ext_gi (by rw [hlen, coL, List.length_map, hs.1]) (fun i hi => ?_)
  rw [hlen] at hi
  have hi' : i < (redM P R C xs).pv.length := by rw [hs.1]; exact hi
  have e : gi (coL (redM P R C xs).pv vs) i = gi vs ((redM P R C xs).pv.getD i 0) := by simp [gi, coL, List.getD_eq_getElem?_getD, hi']
  rw [e]
  have hP : 0 < P := by have := hp.1; omega
  have h1 := res_gi _ _ hv hP ((redM P R C xs).pv.getD i 0)
  have hres : Res (solL P C R xt vs) P := by
    unfold solL
    generalize (solS P C R xt vs).pv = pv
    have hm := (sol_half hp ht htr hv).res
    have : ∀ r, Res (solTo R (solS P C R xt vs).m pv r) P := fun r => by
      induction r with
      | zero => exact res_zero _ hp.1
      | succ r ih => exact res_set _ _ _ _ ih (res_gi _ _ hm hP _).1 (res_gi _ _ hm hP _).2
    exact this _
  have h2 := res_gi _ _ hres hP i
  refine Eqm.eq (Eqm.symm ?_) h2.1 h2.2 h1.1 h1.2
  exact hr.coord (by rw [hs.1]; exact h) i hi'
end
theorem at2_append_l {C R : Nat} {xs ys : List Int} (hl : xs.length = R * C) {i c : Nat} (hi : i < R) (hc : c < C) : at2 C (xs ++ ys) i c = at2 C xs i c := by
  have := row_lt (C := C) hi
  exact gi_append_l (by omega)
theorem at2_append_r {C R : Nat} {xs ys : List Int} (hl : xs.length = R * C) (i c : Nat) : at2 C (xs ++ ys) (R + i) c = at2 C ys i c := by
  unfold at2
  rw [gi_append_r (by rw [hl, Nat.add_mul]; omega), hl]
  congr 1
  rw [Nat.add_mul]; omega
/-- A space that lies in another one does not make it larger. -/
theorem sub_iff {P : Int} {Ra Rb C : Nat} {xa xb : List Int} (hp : IsP P) (hla : xa.length = Ra * C) (hlb : xb.length = Rb * C) (hxa : Res xa P) (hxb : Res xb P) (hs : IsSp P Rb C xb) :
    (redM P (Ra + Rb) C (xa ++ xb)).pv.length = Rb ↔ ∀ i, i < Ra → InSp P Rb C (at2 C xb) (at2 C xa i) := by
  have hl : (xa ++ xb).length = (Ra + Rb) * C := by rw [List.length_append, hla, hlb, Nat.add_mul]
  have hx : Res (xa ++ xb) P := res_append hxa hxb
  have hb := hs.rref hp hlb hxb
  have hsame := redM_same hp hl hx
  have hinB : ∀ i, i < Rb → InSp P (Ra + Rb) C (at2 C (xa ++ xb)) (at2 C xb i) := fun i hi =>
    (InSp.row (M := at2 C (xa ++ xb)) (show Ra + i < Ra + Rb by omega)).congr (fun c _ => by rw [at2_append_r hla]; exact Eqm.refl _)
  have hinA : ∀ i, i < Ra → InSp P (Ra + Rb) C (at2 C (xa ++ xb)) (at2 C xa i) := fun i hi =>
    (InSp.row (M := at2 C (xa ++ xb)) (show i < Ra + Rb by omega)).congr (fun c hc => by rw [at2_append_l hla hi hc]; exact Eqm.refl _)
  constructor
  · intro h i hi
    have heq := (redM_rref hp hl hx).eq_of_le hb hp.1 (fun j hj => (hinB j (by rw [hs.1] at hj; exact hj)).trans hsame.1) (by rw [h, hs.1])
    have h2 : SameSp P C (redM P (Ra + Rb) C (xa ++ xb)).pv.length (at2 C (redM P (Ra + Rb) C (xa ++ xb)).m) (redM P (Ra + Rb) C (xa ++ xb)).pv.length (at2 C xb) :=
      SameSp.congr (fun j hj c hc => (heq.2 j hj c hc).symm)
    have h3 := (hinA i hi).trans (hsame.trans h2).1
    rwa [h] at h3
  · intro h
    have hss : SameSp P C (Ra + Rb) (at2 C (xa ++ xb)) Rb (at2 C xb) := by
      refine ⟨fun i hi => ?_, hinB⟩
      by_cases e : i < Ra
      · exact (h i e).congr (fun c hc => by rw [at2_append_l hla e hc]; exact Eqm.refl _)
      · have := at2_append_r (ys := xb) hla (i - Ra)
        rw [show Ra + (i - Ra) = i by omega] at this
        exact (InSp.row (M := at2 C xb) (show i - Ra < Rb by omega)).congr (fun c _ => by rw [this]; exact Eqm.refl _)
    have := (spanL_unique hp hl hlb hx hxb hss).1
    rw [this, hs.1]
end Go.Proofs.Ytnikfalpjieibaa
