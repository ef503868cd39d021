/-
  Inverses: the matrix with the unit matrix behind it. Plain mathematics.
-/
import Derived.Test.YtgmipolgnpjmnaaJoinC
import Derived.Test.YtgmipolgnpjmnaaTrace
import Derived.Test.YtgmipolgnpjmnaaSMatrix
namespace Go.Proofs.Ytgmipolgnpjmnaa
set_option linter.unusedVariables false

/-! Inverses: the matrix with the unit matrix behind it. -/
theorem gi_unitTo {m : Nat} (k i c : Nat) (hk : k ≤ m) (hi : i < m) (hc : c < m) : gi (unitTo m k) (i * m + c) = if i = c ∧ i < k then 1 else 0 := by
  induction k with
  | zero => rw [unitTo, gi_replicate, if_neg (by omega)]
  | succ k ih =>
    have hkm := diag_lt (show k < m by omega)
    rw [unitTo, gi_set _ _ _ _ (by rw [unitTo_length]; exact hkm), ih (by omega)]
    by_cases e : i * m + c = k * m + k
    · have h1 : i = k ∧ c = k := by
        have hd : (i * m + c) / m = (k * m + k) / m := by rw [e]
        rw [Nat.mul_comm i, Nat.mul_comm k, Nat.mul_add_div (by omega), Nat.mul_add_div (by omega), Nat.div_eq_of_lt hc, Nat.div_eq_of_lt (show k < m by omega)] at hd
        have : i = k := by omega
        subst this
        omega
      rw [if_pos e, if_pos (by omega)]
    · rw [if_neg e]
      by_cases e2 : i = c ∧ i < k
      · rw [if_pos e2, if_pos (by omega)]
      · rw [if_neg e2, if_neg (fun h => e2 ⟨h.1, by
          have : i ≠ k := fun h2 => e (by rw [← h.1, h2])
          omega⟩)]
theorem at2_unitTo {m i c : Nat} (hi : i < m) (hc : c < m) : at2 m (unitTo m m) i c = unitF i c := by
  rw [at2, gi_unitTo m i c (Nat.le_refl _) hi hc, unitF]
  by_cases e : i = c
  · rw [if_pos ⟨e, hi⟩, if_pos e]
  · rw [if_neg (fun h => e h.1), if_neg e]
theorem unitTo_res2 (P : Int) (hp : 2 ≤ P) (m k : Nat) : Res (unitTo m k) P := by
  induction k with
  | zero => intro j _; rw [unitTo, gi_replicate]; omega
  | succ k ih => exact res_set _ _ _ _ ih (by omega) (by omega)
/-- The matrix and the unit matrix. -/
def wideL (n : Nat) (xs : List Int) : List Int := jmTo n n xs (unitTo n n) n
def invS (P : Int) (n : Nat) (xs : List Int) : RSt := redTo P n (n + n) (wideL n xs) n
def invOk (P : Int) (n : Nat) (xs : List Int) : Bool := (invS P n xs).pv.length == n
/-- The last n columns. -/
def invR (n : Nat) (m : List Int) : List Int := mkL n n fun i j => gi m (i * (n + n) + (n + j))
theorem wideL_length {n : Nat} {xs : List Int} (hl : xs.length = n * n) : (wideL n xs).length = n * (n + n) := jmTo_length hl (unitTo_length n n) n (Nat.le_refl _)
theorem inv_yes {P : Int} {n : Nat} {xs : List Int} (h : invOk P n xs = true) : redM P n (n + n) (wideL n xs) = invS P n xs ∧ (invS P n xs).pv.length = n ∧ ∀ i, i < n → (invS P n xs).pv.getD i 0 < n := by
  have h1 : (invS P n xs).pv.length = n := by simpa [invOk] using h
  refine ⟨redTo_full (Nat.le_of_eq h1.symm) n, h1, fun i hi => ?_⟩
  refine (redTo_pv (P := P) (R := n) (C := n + n) (xs := wideL n xs) n).2.2 _ ?_
  have : i < (invS P n xs).pv.length := by omega
  show _ ∈ (invS P n xs).pv
  rw [List.getD_eq_getElem?_getD, List.getElem?_eq_getElem this]; simp
theorem inv_no {P : Int} {n : Nat} {xs : List Int} (hp : IsP P) (hl : xs.length = n * n) (hx : Res xs P) (h : invOk P n xs = false) : 0 < n ∧ (invS P n xs).pv.length < n ∧ (redM P n (n + n) (wideL n xs)).pv.length = n ∧ n ≤ (redM P n (n + n) (wideL n xs)).pv.getD (n - 1) 0 := by
  have h0 := (redTo_pv (P := P) (R := n) (C := n + n) (xs := wideL n xs) n).2.1
  have h1 : (redTo P n (n + n) (wideL n xs) n).pv.length ≠ n := by simpa [invOk, invS] using h
  have h2 := wide_rank hp hl hx (unitTo_length n n) (unitTo_res2 P hp.1 n n) (fun i c hi hc => at2_unitTo hi hc)
  obtain ⟨l, h3, h4⟩ := redTo_prefix (P := P) (R := n) (C := n + n) (xs := wideL n xs) n n
  change (redM P n (n + n) (wideL n xs)).pv.length = n at h2
  change (redM P n (n + n) (wideL n xs)).pv = _ at h3
  refine ⟨by omega, by unfold invS; omega, h2, ?_⟩
  have h5 := h2
  rw [h3, List.length_append] at h5
  rw [h3, List.getD_eq_getElem?_getD, List.getElem?_append_right (by omega)]
  have h6 : n - 1 - (redTo P n (n + n) (wideL n xs) n).pv.length < l.length := by omega
  rw [List.getElem?_eq_getElem h6]
  exact h4 _ (List.getElem_mem h6)

/-- The last columns, k numbers of them, and zeros behind. -/
def ivAt (n : Nat) (m : List Int) (k : Nat) : List Int := mix (invR n m) (List.replicate (n * n) 0) k
theorem invR_length (n : Nat) (m : List Int) : (invR n m).length = n * n := mkL_length ..
theorem ivAt_zero (n : Nat) (m : List Int) : ivAt n m 0 = List.replicate (n * n) 0 := mix_zero _ _
theorem ivAt_full (n : Nat) (m : List Int) : ivAt n m (n * n) = invR n m := by
  have := mix_full (invR n m) (List.replicate (n * n) 0) (by rw [invR_length]; simp)
  rwa [List.length_replicate] at this
theorem ivAt_length (n : Nat) (m : List Int) (k : Nat) (hk : k ≤ n * n) : (ivAt n m k).length = n * n := by
  rw [ivAt, mix_length _ _ _ (by rw [invR_length]; simp) (by simpa using hk)]; simp
theorem ivAt_set (n : Nat) (m : List Int) {i j : Nat} (hi : i < n) (hj : j < n) : (ivAt n m (i * n + j)).set (i * n + j) (gi m (i * (n + n) + (n + j))) = ivAt n m (i * n + (j + 1)) := by
  have h : i * n + j < n * n := place_lt hi hj
  have e : gi (invR n m) (i * n + j) = gi m (i * (n + n) + (n + j)) := at2_mkL (fun i j => gi m (i * (n + n) + (n + j))) hi hj
  rw [← e, ivAt, mix_set _ _ _ (by rw [invR_length]; simp) (by simpa using h)]
  rfl
theorem ivAt_row (n : Nat) (m : List Int) (hm : m.length = n * (n + n)) {i : Nat} (hi : i < n) : spl (ivAt n m (i * n)) (i * n) ((m.drop (i * (n + n) + n)).take n) = ivAt n m ((i + 1) * n) := by
  have h1 : i * n + n ≤ n * n := row_le hi
  have h2 : i * (n + n) + (n + n) ≤ n * (n + n) := row_le hi
  have hr := invR_length n m
  have hl : ((m.drop (i * (n + n) + n)).take n).length = n := by rw [List.length_take, List.length_drop]; omega
  have e : (i + 1) * n = i * n + n := by rw [Nat.add_mul, Nat.one_mul]
  have hle := ivAt_length n m (i * n) (by omega)
  have hf : i * n + ((m.drop (i * (n + n) + n)).take n).length ≤ (ivAt n m (i * n)).length := by rw [hl, hle]; exact h1
  refine ext_gi ?_ (fun q hq => ?_)
  · rw [spl_length _ _ _ hf, hle, ivAt_length _ _ _ (by omega)]
  · rw [spl_length _ _ _ hf, hle] at hq
    rw [gi_spl _ _ _ hf, hl]
    by_cases h : i * n ≤ q ∧ q < i * n + n
    · rw [if_pos h, gi_take _ _ _ (by omega), gi_drop]
      have e2 : gi (ivAt n m ((i + 1) * n)) q = gi (invR n m) q := by
        rw [ivAt, mix, gi_append_l (by rw [List.length_take]; omega), gi_take _ _ _ (by omega)]
      have e3 := at2_mkL (k := n) (n := n) (fun i j => gi m (i * (n + n) + (n + j))) hi (show q - i * n < n by omega)
      rw [e2]
      have e4 : q = i * n + (q - i * n) := by omega
      rw [e4]
      refine Eq.trans ?_ e3.symm
      congr 1; omega
    · rw [if_neg h, ivAt, ivAt, mix, mix]
      by_cases h3 : q < i * n
      · rw [gi_append_l (by rw [List.length_take]; omega), gi_append_l (by rw [List.length_take]; omega), gi_take _ _ _ h3, gi_take _ _ _ (by omega)]
      · rw [gi_append_r (by rw [List.length_take]; omega), gi_append_r (by rw [List.length_take]; omega), List.length_take, List.length_take, gi_drop, gi_drop, gi_replicate, gi_replicate]
noncomputable def invertM (P R C : Int) (xs : List Int) : Mat × Bool := if mok P R C xs && (R == C) then (if invOk P R.toNat xs then (⟨P, R, R, invR R.toNat (invS P R.toNat xs).m⟩, true) else (noMat, false)) else (noMat, false)
end Go.Proofs.Ytgmipolgnpjmnaa
