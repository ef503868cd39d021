/-
  Remainders by a space; matrices whose rows span the same; blocks. Plain mathematics.
-/
import Derived.Test.YtnikfalpjieibaaRs
import Derived.Test.YtnikfalpjieibaaJn
namespace Go.Proofs.Ytnikfalpjieibaa
set_option linter.unusedVariables false

/-- What is left in column c of row i behind k rows of a space. -/
def rmN (P : Int) (C : Nat) (ss xs : List Int) (pv : List Nat) (i c k : Nat) : Int := (at2 C xs i c - sumN k fun t => at2 C xs i (pv.getD t 0) * at2 C ss t c) % P
/-- How many rows of the space row a is behind, where row i is at work. -/
def rmK (n i r a : Nat) : Nat := if a < i then n else if a = i then r else 0
def rmAt (P : Int) (R C : Nat) (ss xs : List Int) (pv : List Nat) (i r : Nat) : List Int := mkL R C fun a c => rmN P C ss xs pv a c (rmK pv.length i r a)
section
variable {P : Int} {R C : Nat} {ss xs : List Int} {pv : List Nat}
theorem rmAt_length (i r : Nat) : (rmAt P R C ss xs pv i r).length = R * C := mkL_length _ _ _
theorem at2_rmAt (i r : Nat) {a c : Nat} (ha : a < R) (hc : c < C) : at2 C (rmAt P R C ss xs pv i r) a c = rmN P C ss xs pv a c (rmK pv.length i r a) := at2_mkL _ ha hc
theorem rmN_res (hP : 0 < P) (i c k : Nat) : 0 ≤ rmN P C ss xs pv i c k ∧ rmN P C ss xs pv i c k < P := ⟨Int.emod_nonneg _ (by omega), Int.emod_lt_of_pos _ hP⟩
theorem mkL_res {f : Nat → Nat → Int} (h : ∀ a c, 0 ≤ f a c ∧ f a c < P) : Res (mkL R C f) P := fun j hj => by
  rw [mkL_length] at hj
  have : gi (mkL R C f) j = f (j / C) (j % C) := by simp [gi, mkL, hj]
  rw [this]; exact h _ _
theorem rmAt_res (hP : 0 < P) (i r : Nat) : Res (rmAt P R C ss xs pv i r) P := mkL_res (fun a c => rmN_res hP _ _ _)
theorem ext_at2 {a b : List Int} (ha : a.length = R * C) (hb : b.length = R * C) (h : ∀ i, i < R → ∀ c, c < C → at2 C a i c = at2 C b i c) : a = b := by
  refine ext_gi (by rw [ha, hb]) (fun q hq => ?_)
  rw [ha] at hq
  have hC : 0 < C := by
    rcases Nat.eq_zero_or_pos C with e | e
    · subst e; simp at hq
    · exact e
  have e : q = q / C * C + q % C := by rw [Nat.mul_comm]; exact (Nat.div_add_mod q C).symm
  rw [e]
  exact h _ (Nat.div_lt_of_lt_mul (by rw [Nat.mul_comm]; exact hq)) _ (Nat.mod_lt _ hC)
theorem at2_rs (hx : Res xs P) (hl : xs.length = R * C) {i c : Nat} (hi : i < R) (hc : c < C) : 0 ≤ at2 C xs i c ∧ at2 C xs i c < P := hx _ (by rw [hl]; have := row_lt (C := C) hi; omega)
theorem rmN_zero (hx : Res xs P) (hl : xs.length = R * C) {i c : Nat} (hi : i < R) (hc : c < C) : rmN P C ss xs pv i c 0 = at2 C xs i c := by
  have h := at2_rs hx hl hi hc
  rw [rmN, sumN, Int.sub_zero]
  exact Int.emod_eq_of_lt h.1 h.2
theorem rmAt_zero (hx : Res xs P) (hl : xs.length = R * C) : rmAt P R C ss xs pv 0 0 = xs := by
  refine ext_at2 (rmAt_length _ _) hl (fun i hi c hc => ?_)
  rw [at2_rmAt _ _ hi hc]
  have : rmK pv.length 0 0 i = 0 := by unfold rmK; rw [if_neg (by omega)]; split <;> rfl
  rw [this]; exact rmN_zero hx hl hi hc
theorem rmAt_row (i : Nat) : rmAt P R C ss xs pv i pv.length = rmAt P R C ss xs pv (i + 1) 0 := by
  refine ext_at2 (rmAt_length _ _) (rmAt_length _ _) (fun a ha c hc => ?_)
  rw [at2_rmAt _ _ ha hc, at2_rmAt _ _ ha hc]
  congr 1
  unfold rmK
  by_cases h1 : a < i
  · rw [if_pos h1, if_pos (by omega)]
  · rw [if_neg h1]
    by_cases h2 : a = i
    · rw [if_pos h2, if_pos (by omega)]
    · rw [if_neg h2, if_neg (by omega)]; split <;> rfl
/-- In the column of the next pivot the row is still as it was. -/
theorem rmN_pivot (hx : Res xs P) (hl : xs.length = R * C) {i : Nat} (hi : i < R) {r : Nat} (hz : ∀ t, t < r → at2 C ss t (pv.getD r 0) = 0) (hc : pv.getD r 0 < C) : rmN P C ss xs pv i (pv.getD r 0) r = at2 C xs i (pv.getD r 0) := by
  have h := at2_rs hx hl hi hc
  have : sumN r (fun t => at2 C xs i (pv.getD t 0) * at2 C ss t (pv.getD r 0)) = 0 := by
    rw [← sumN_zero r]
    exact sumN_congr (fun t ht => by rw [hz t ht, Int.mul_zero])
  rw [rmN, this, Int.sub_zero]
  exact Int.emod_eq_of_lt h.1 h.2
theorem rmN_step {i c r : Nat} : (rmN P C ss xs pv i c r + -at2 C xs i (pv.getD r 0) % P * at2 C ss r c) % P = rmN P C ss xs pv i c (r + 1) := by
  simp only [rmN, sumN]
  generalize sumN r (fun t => at2 C xs i (pv.getD t 0) * at2 C ss t c) = s
  rw [Int.add_emod, Int.emod_emod_of_dvd _ (Int.dvd_refl P), Int.mul_emod, Int.emod_emod_of_dvd _ (Int.dvd_refl P), ← Int.mul_emod, ← Int.add_emod]
  congr 1
  rw [Int.neg_mul]; omega
theorem at2_axL {k : Int} {ys l : List Int} {i r : Nat} (hl : l.length = R * C) (hi : i < R) {a c : Nat} (ha : a < R) (hc : c < C) :
    at2 C (axL P k ys (i * C) (r * C) C l) a c = if a = i ∧ k ≠ 0 then (at2 C l a c + k * at2 C ys r c) % P else at2 C l a c := by
  have h1 := row_lt (C := C) hi
  unfold axL
  by_cases hk : k = 0
  · rw [if_pos hk, if_neg (by simp [hk])]
  · rw [if_neg hk]
    by_cases e : a = i
    · subst e
      rw [if_pos ⟨rfl, hk⟩]
      exact gi_axTo_in P k (a * C) (r * C) C l ys (by rw [hl]; omega) c C hc (Nat.le_refl _)
    · rw [if_neg (by simp [e])]
      have h2 := row_lt (C := C) ha
      refine gi_axTo_out P k ys (i * C) (r * C) C l (by rw [hl]; omega) _ ?_ C (Nat.le_refl _)
      rcases Nat.lt_or_gt_of_ne e with h | h
      · have := Nat.mul_le_mul_right C (show a + 1 ≤ i from h); rw [Nat.add_mul] at this; omega
      · have := Nat.mul_le_mul_right C (show i + 1 ≤ a from h); rw [Nat.add_mul] at this; omega
theorem rmAt_step (hP : 0 < P) (hx : Res xs P) (hl : xs.length = R * C) {i r : Nat} (hi : i < R) (hz : ∀ t, t < r → at2 C ss t (pv.getD r 0) = 0) (hc : pv.getD r 0 < C) :
    axL P (-(gi (rmAt P R C ss xs pv i r) (i * C + pv.getD r 0)) % P) ss (i * C) (r * C) C (rmAt P R C ss xs pv i r) = rmAt P R C ss xs pv i (r + 1) := by
  have e : gi (rmAt P R C ss xs pv i r) (i * C + pv.getD r 0) = at2 C xs i (pv.getD r 0) := by
    have := at2_rmAt (P := P) (ss := ss) (xs := xs) (pv := pv) i r hi hc
    rw [show rmK pv.length i r i = r by simp [rmK], rmN_pivot hx hl hi hz hc] at this
    exact this
  rw [e]
  refine ext_at2 (by rw [axL_length, rmAt_length]) (rmAt_length _ _) (fun a ha c hc' => ?_)
  rw [at2_axL (rmAt_length _ _) hi ha hc', at2_rmAt _ _ ha hc', at2_rmAt _ _ ha hc']
  by_cases ea : a = i
  · subst ea
    have k1 : rmK pv.length a r a = r := by simp [rmK]
    have k2 : rmK pv.length a (r + 1) a = r + 1 := by simp [rmK]
    rw [k1, k2, ← rmN_step]
    by_cases h0 : -at2 C xs a (pv.getD r 0) % P = 0
    · rw [if_neg (fun h => h.2 h0), h0, Int.zero_mul, Int.add_zero]
      exact (Int.emod_eq_of_lt (rmN_res hP _ _ _).1 (rmN_res hP _ _ _).2).symm
    · rw [if_pos ⟨rfl, h0⟩]
  · rw [if_neg (by simp [ea])]
    unfold rmK
    simp [ea]
/-- All rows behind the whole space. -/
def rmL (P : Int) (R C : Nat) (ss xs : List Int) (pv : List Nat) : List Int := rmAt P R C ss xs pv R 0
theorem rmL_length : (rmL P R C ss xs pv).length = R * C := rmAt_length _ _
theorem rmL_res (hP : 0 < P) : Res (rmL P R C ss xs pv) P := rmAt_res hP _ _
theorem at2_rmL {a c : Nat} (ha : a < R) (hc : c < C) : at2 C (rmL P R C ss xs pv) a c = rmN P C ss xs pv a c pv.length := by
  rw [rmL, at2_rmAt _ _ ha hc, show rmK pv.length R 0 a = pv.length by simp [rmK, ha]]
/-- Nothing is left of the elements of the space, and of these alone. -/
theorem rm_iff (hr : Rref P C (at2 C ss) pv) (hP : 0 < P) {i : Nat} : (∀ c, c < C → rmN P C ss xs pv i c pv.length = 0) ↔ InSp P pv.length C (at2 C ss) (at2 C xs i) := by
  have key : ∀ c, rmN P C ss xs pv i c pv.length = 0 ↔ Eqm P (at2 C xs i c) (sumN pv.length fun t => at2 C xs i (pv.getD t 0) * at2 C ss t c) := fun c => by
    unfold rmN Eqm
    generalize sumN pv.length (fun t => at2 C xs i (pv.getD t 0) * at2 C ss t c) = s
    constructor
    · intro h
      obtain ⟨t, ht⟩ := Int.dvd_of_emod_eq_zero h
      exact ⟨t, by omega⟩
    · rintro ⟨t, ht⟩
      exact Int.emod_eq_zero_of_dvd ⟨t, by omega⟩
  constructor
  · intro h
    exact ⟨fun t => at2 C xs i (pv.getD t 0), fun c hc => (key c).1 (h c hc)⟩
  · intro h c hc
    exact (key c).2 (hr.coords h c hc)
end
/-! Matrices whose rows span the same: the same spans, kernels, and parts of other spaces. -/
theorem in_same {P : Int} {k C R R' : Nat} {M N S : Nat → Nat → Int} (h : SameSp P C R M R' N) : (∀ i, i < R → InSp P k C S (M i)) ↔ (∀ i, i < R' → InSp P k C S (N i)) :=
  ⟨fun h1 i hi => (h.2 i hi).trans h1, fun h1 i hi => (h.1 i hi).trans h1⟩
theorem span_same {P : Int} {R R' C : Nat} {xs ys : List Int} (hp : IsP P) (hl : xs.length = R * C) (hx : Res xs P) (hl' : ys.length = R' * C) (hy : Res ys P) (h : SameSp P C R (at2 C xs) R' (at2 C ys)) :
    (redM P R C xs).pv = (redM P R' C ys).pv ∧ spanL P R C xs = spanL P R' C ys := by
  have h1 := spanL_rref hp hl hx
  have h2 := spanL_rref hp hl' hy
  have h3 := h1.unique h2 hp.1 (((spanL_same hp hl hx).symm.trans h).trans (spanL_same hp hl' hy))
  refine ⟨h3.1, ext_at2 (spanL_length hl) ?_ h3.2⟩
  rw [h3.1]; exact spanL_length hl'
theorem kerL_same {P : Int} {R R' C : Nat} {xs ys : List Int} (hp : IsP P) (hl : xs.length = R * C) (hx : Res xs P) (hl' : ys.length = R' * C) (hy : Res ys P) (h : SameSp P C R (at2 C xs) R' (at2 C ys)) :
    kerL P R C xs = kerL P R' C ys ∧ nullN P R C xs = nullN P R' C ys := by
  have h1 := kerL_span hp hl hx
  have h2 := kerL_span hp hl' hy
  obtain ⟨e1, e2⟩ := span_same hp hl hx hl' hy h
  rw [← h1.1, ← h2.1, ← h1.2, ← h2.2, e1, e2]
  exact ⟨rfl, rfl⟩
theorem mem_freeTo {pv : List Nat} {n c : Nat} : c ∈ freeTo pv n ↔ c < n ∧ c ∉ pv := by
  induction n with
  | zero => simp [freeTo]
  | succ n ih =>
    rw [freeTo]
    split
    · rename_i h
      rw [ih]
      constructor
      · rintro ⟨h1, h2⟩; exact ⟨by omega, h2⟩
      · rintro ⟨h1, h2⟩
        refine ⟨?_, h2⟩
        rcases Nat.lt_or_ge c n with h3 | h3
        · exact h3
        · exact absurd (by have : c = n := by omega
                           rw [this]; exact h) h2
    · rename_i h
      rw [List.mem_append, ih, List.mem_singleton]
      constructor
      · rintro (⟨h1, h2⟩ | rfl)
        · exact ⟨by omega, h2⟩
        · exact ⟨by omega, h⟩
      · rintro ⟨h1, h2⟩
        rcases Nat.lt_or_ge c n with h3 | h3
        · exact Or.inl ⟨h3, h2⟩
        · exact Or.inr (by omega)
/-! Blocks of one length, one behind the other. -/
def bk (f : Nat → List Int) (k : Nat) : List Int := ((List.range k).map f).flatten
section
variable {f : Nat → List Int} {m n : Nat}
theorem bk_zero : bk f 0 = [] := rfl
theorem bk_succ (k : Nat) : bk f (k + 1) = bk f k ++ f k := by simp [bk, List.range_succ]
theorem bk_length (h : ∀ i, i < n → (f i).length = m) (k : Nat) (hk : k ≤ n) : (bk f k).length = k * m := by
  induction k with
  | zero => simp [bk]
  | succ k ih => rw [bk_succ, List.length_append, ih (by omega), h k (by omega), Nat.add_mul, Nat.one_mul]
theorem gi_bk (h : ∀ i, i < n → (f i).length = m) (k : Nat) (hk : k ≤ n) {i q : Nat} (hi : i < k) (hq : q < m) : gi (bk f k) (i * m + q) = gi (f i) q := by
  induction k with
  | zero => omega
  | succ k ih =>
    rw [bk_succ]
    have hl := bk_length h k (by omega)
    by_cases e : i = k
    · subst e
      rw [gi_append_r (by omega), hl, Nat.add_sub_cancel_left]
    · have := row_lt (C := m) (show i < k by omega)
      rw [gi_append_l (by omega)]
      exact ih (by omega) (by omega)
theorem bk_res {P : Int} (h : ∀ i, i < n → Res (f i) P) (k : Nat) (hk : k ≤ n) : Res (bk f k) P := by
  induction k with
  | zero => exact fun j hj => absurd hj (by simp [bk])
  | succ k ih => rw [bk_succ]; exact res_append (ih (by omega)) (h k (by omega))
def bkAt (f : Nat → List Int) (n m k : Nat) : List Int := bk f k ++ List.replicate ((n - k) * m) 0
theorem bkAt_zero : bkAt f n m 0 = List.replicate (n * m) 0 := by simp [bkAt, bk]
theorem bkAt_end : bkAt f n m n = bk f n := by simp [bkAt]
theorem bkAt_length (h : ∀ i, i < n → (f i).length = m) (k : Nat) (hk : k ≤ n) : (bkAt f n m k).length = n * m := by
  rw [bkAt, List.length_append, bk_length h k hk, List.length_replicate, ← Nat.add_mul]; congr 1; omega
end
theorem bkAt_step {f : Nat → List Int} {m n k : Nat} (h : ∀ i, i < n → (f i).length = m) (hk : k < n) : spl (bkAt f n m k) (k * m) (f k) = bkAt f n m (k + 1) := by
  have e : n - k = (n - (k + 1)) + 1 := by omega
  rw [bkAt, spl_at _ _ _ _ (bk_length h k (by omega)), h k hk, List.drop_replicate, bkAt, bk_succ, List.append_assoc, e, Nat.add_mul, Nat.one_mul, Nat.add_sub_cancel]
end Go.Proofs.Ytnikfalpjieibaa
