/-
  Products of matrices and brackets of rows. Plain mathematics.
-/
import Derived.Test.YtgmipolgnpjmnaaBrk
import Derived.Test.YtgmipolgnpjmnaaInvP
namespace Go.Proofs.Ytgmipolgnpjmnaa
set_option linter.unusedVariables false

/-! Products of matrices, number by number; all brackets of the rows of two matrices. -/
section
variable {p : Int} {xs ys : List Int} {R K Q : Nat}
theorem gi_kTo_out (i : Nat) (l : List Int) (hl : i * Q + Q ≤ l.length) (k q : Nat) (hq : q < i * Q ∨ i * Q + Q ≤ q) : gi (kTo p xs ys K Q i l k) q = gi l q := by
  induction k with
  | zero => rfl
  | succ k ih =>
    rw [kTo, axL]
    split
    · exact ih
    · rw [gi_axTo_out (n := Q) _ _ _ _ _ _ (by rw [kTo_length]; exact hl) q hq Q (Nat.le_refl _)]; exact ih
theorem gi_kTo_in (i : Nat) (l : List Int) (hl : i * Q + Q ≤ l.length) (k : Nat) {j : Nat} (hj : j < Q) (h0 : gi l (i * Q + j) = 0) : gi (kTo p xs ys K Q i l k) (i * Q + j) = (sumN k fun c => gi xs (i * K + c) * gi ys (c * Q + j)) % p := by
  induction k with
  | zero => rw [kTo, h0]; simp [sumN]
  | succ k ih =>
    rw [kTo, sumN]
    by_cases h : gi xs (i * K + k) = 0
    · rw [axL, if_pos h, ih, h]; simp
    · rw [axL, if_neg h, gi_axTo_in p (gi xs (i * K + k)) (i * Q) (k * Q) Q (kTo p xs ys K Q i l k) ys (by rw [kTo_length]; exact hl) j Q hj (Nat.le_refl _), ih]
      exact Int.emod_add_emod _ _ _
theorem gi_mulTo (i : Nat) (hi : i ≤ R) (r j : Nat) (hr : r < R) (hj : j < Q) : gi (mulTo p xs ys R K Q i) (r * Q + j) = if r < i then (sumN K fun c => gi xs (r * K + c) * gi ys (c * Q + j)) % p else 0 := by
  induction i with
  | zero => rw [mulTo, gi_replicate, if_neg (by omega)]
  | succ i ih =>
    have hb := row_le (Q := Q) (show i < R by omega)
    have hl : i * Q + Q ≤ (mulTo p xs ys R K Q i).length := by rw [mulTo_length]; exact hb
    rw [mulTo]
    by_cases e : r = i
    · subst e
      rw [if_pos (by omega), gi_kTo_in r _ hl K hj (by rw [ih (by omega), if_neg (by omega)])]
    · rw [gi_kTo_out i _ hl K _ (by
        rcases Nat.lt_or_gt_of_ne e with h | h
        · have := row_le (Q := Q) h; left; omega
        · have := row_le (Q := Q) h; right; omega), ih (by omega)]
      by_cases e2 : r < i
      · rw [if_pos e2, if_pos (by omega)]
      · rw [if_neg e2, if_neg (by omega)]
theorem at2_mulTo (r j : Nat) (hr : r < R) (hj : j < Q) : gi (mulTo p xs ys R K Q R) (r * Q + j) = (sumN K fun c => gi xs (r * K + c) * gi ys (c * Q + j)) % p := by
  rw [gi_mulTo R (Nat.le_refl _) r j hr hj, if_pos hr]
end
section
variable {P : Int} {D : Nat} {l : List Int}
/-- The brackets of x and the first k rows of t. -/
def bRows (P : Int) (D : Nat) (l xs ts : List Int) (k : Nat) : List (List Int) := (List.range k).map fun j => brL P D l xs (rowL D ts j)
theorem bRows_length (xs ts : List Int) (k : Nat) : (bRows P D l xs ts k).length = k := by simp [bRows]
theorem bRows_succ (xs ts : List Int) (k : Nat) : bRows P D l xs ts (k + 1) = bRows P D l xs ts k ++ [brL P D l xs (rowL D ts k)] := by simp [bRows, List.range_succ]
theorem bRows_flen (xs ts : List Int) (k : Nat) : (bRows P D l xs ts k).flatten.length = k * D := by
  induction k with
  | zero => simp [bRows]
  | succ k ih => rw [bRows_succ, List.flatten_append, List.length_append, ih, List.flatten_cons, List.flatten_nil, List.append_nil, brL_len, Nat.add_mul, Nat.one_mul]
theorem gi_bRows (xs ts : List Int) (k : Nat) {j q : Nat} (hj : j < k) (hq : q < D) : gi (bRows P D l xs ts k).flatten (j * D + q) = gi (brL P D l xs (rowL D ts j)) q := by
  induction k with
  | zero => omega
  | succ k ih =>
    rw [bRows_succ, List.flatten_append, List.flatten_cons, List.flatten_nil, List.append_nil]
    by_cases e : j = k
    · subst e
      rw [gi_append_r (by rw [bRows_flen]; omega), bRows_flen, Nat.add_sub_cancel_left]
    · have := row_le (Q := D) (show j < k by omega)
      rw [gi_append_l (by rw [bRows_flen]; omega)]
      exact ih (by omega)
theorem gi_rowL2 (ts : List Int) (j : Nat) {q : Nat} (hq : q < D) : gi (rowL D ts j) q = gi ts (j * D + q) := by
  rw [rowL, gi_take _ _ _ hq, gi_drop]
theorem gi_rowLo (ts : List Int) (j : Nat) {q : Nat} (hq : D ≤ q) : gi (rowL D ts j) q = 0 := by
  simp only [gi, List.getD_eq_getElem?_getD, rowL]
  rw [List.getElem?_eq_none (by rw [List.length_take]; omega)]; rfl
theorem gi_brL (xs ys : List Int) {q : Nat} (hq : q < D) : gi (brL P D l xs ys) q = brN D l (gi xs) (gi ys) q % P := by rw [brL, gi_map D _ hq]
theorem brN_eqm (hp : 0 < P) (xs : List Int) (y : Nat → Int) {q : Nat} (hq : q < D) : (sumN D fun c => y c * gi (adTo P D l xs D) (c * D + q)) % P = brN D l (gi xs) y q % P := by
  refine Eqm.to_emod ?_
  have e1 : Eqm P (sumN D fun j => y j * gi (adTo P D l xs D) (j * D + q)) (sumN D fun j => y j * adN D l (gi xs) j q) :=
    sumN_eqm (fun j hj => by rw [adTo_row hj hq]; exact (Eqm.refl _).mul (Eqm.emod _))
  refine e1.trans (Eqm.of_eq ?_)
  rw [brN]
  have e2 : (sumN D fun j => y j * adN D l (gi xs) j q) = sumN D fun j => sumN D fun i => gi xs i * y j * tb D l i j q := by
    refine sumN_congr (fun j _ => ?_)
    rw [adN, ← sumN_mul]
    exact sumN_congr (fun i _ => by grind)
  rw [e2, sumN_swap]
theorem brN_congr (x y z : Nat → Int) (h : ∀ c, c < D → y c = z c) (q : Nat) : brN D l x y q = brN D l x z q :=
  sumN_congr (fun i _ => sumN_congr (fun j hj => by rw [h j hj]))
theorem mul_rows (hp : 0 < P) (xs ts : List Int) (R : Nat) : mulTo P ts (adTo P D l xs D) R D D R = (bRows P D l xs ts R).flatten := by
  refine ext_gi (by rw [mulTo_length, bRows_flen]) (fun q hq => ?_)
  rw [mulTo_length] at hq
  have hD : 0 < D := by
    rcases Nat.eq_zero_or_pos D with h | h
    · subst h; simp at hq
    · exact h
  have hm := Nat.mod_lt q hD
  have hd : q / D < R := Nat.div_lt_of_lt_mul (by rw [Nat.mul_comm]; exact hq)
  have e : q = q / D * D + q % D := by rw [Nat.mul_comm]; exact (Nat.div_add_mod q D).symm
  rw [e, at2_mulTo _ _ hd hm, gi_bRows _ _ _ hd hm, gi_brL _ _ hm, brN_eqm hp xs (fun c => gi ts (q / D * D + c)) hm]
  congr 1
  exact brN_congr _ _ _ (fun c hc => (gi_rowL2 ts _ hc).symm) _
theorem bRows_res (hp : 0 < P) (xs ts : List Int) (k : Nat) : Res (bRows P D l xs ts k).flatten P := by
  induction k with
  | zero => intro j hj; simp [bRows] at hj
  | succ k ih =>
    rw [bRows_succ, List.flatten_append, List.flatten_cons, List.flatten_nil, List.append_nil]
    exact res_append ih (brL_res hp)
/-- All brackets of the first i rows of s and the rows of t. -/
def pRows (P : Int) (D : Nat) (l ss ts : List Int) (R2 : Nat) : Nat → List (List Int)
  | 0 => []
  | i + 1 => pRows P D l ss ts R2 i ++ bRows P D l (rowL D ss i) ts R2
theorem pRows_length (ss ts : List Int) (R2 i : Nat) : (pRows P D l ss ts R2 i).length = i * R2 := by
  induction i with
  | zero => simp [pRows]
  | succ i ih => rw [pRows, List.length_append, ih, bRows_length, Nat.add_mul, Nat.one_mul]
def pL (P : Int) (D : Nat) (l ss ts : List Int) (R2 i : Nat) : List Int := (pRows P D l ss ts R2 i).flatten
theorem pL_succ (ss ts : List Int) (R2 i : Nat) : pL P D l ss ts R2 (i + 1) = pL P D l ss ts R2 i ++ (bRows P D l (rowL D ss i) ts R2).flatten := by rw [pL, pRows, List.flatten_append]; rfl
theorem pL_length (ss ts : List Int) (R2 i : Nat) : (pL P D l ss ts R2 i).length = i * (R2 * D) := by
  induction i with
  | zero => simp [pL, pRows]
  | succ i ih => rw [pL_succ, List.length_append, ih, bRows_flen, Nat.add_mul, Nat.one_mul]
theorem pL_res (hp : 0 < P) (ss ts : List Int) (R2 i : Nat) : Res (pL P D l ss ts R2 i) P := by
  induction i with
  | zero => intro j hj; simp [pL, pRows] at hj
  | succ i ih => rw [pL_succ]; exact res_append ih (bRows_res hp _ _ _)
/-- The first i blocks, and zeros behind them. -/
def pAt (P : Int) (D : Nat) (l ss ts : List Int) (R1 R2 i : Nat) : List Int := pL P D l ss ts R2 i ++ List.replicate ((R1 - i) * (R2 * D)) 0
theorem pAt_zero (ss ts : List Int) (R1 R2 : Nat) : pAt P D l ss ts R1 R2 0 = List.replicate (R1 * (R2 * D)) 0 := by simp [pAt, pL, pRows]
theorem pAt_end (ss ts : List Int) (R1 R2 : Nat) : pAt P D l ss ts R1 R2 R1 = pL P D l ss ts R2 R1 := by simp [pAt]
theorem pAt_length (ss ts : List Int) (R1 R2 i : Nat) (hi : i ≤ R1) : (pAt P D l ss ts R1 R2 i).length = R1 * (R2 * D) := by
  rw [pAt, List.length_append, pL_length, List.length_replicate, ← Nat.add_mul]; congr 1; omega
theorem pAt_step (ss ts : List Int) (R1 R2 i : Nat) (hi : i < R1) : spl (pAt P D l ss ts R1 R2 i) (i * (R2 * D)) (bRows P D l (rowL D ss i) ts R2).flatten = pAt P D l ss ts R1 R2 (i + 1) := by
  have h : R1 - i = (R1 - (i + 1)) + 1 := by omega
  rw [pAt, spl_at _ _ _ _ (pL_length _ _ _ _), bRows_flen, List.drop_replicate, pAt, pL_succ, List.append_assoc, h, Nat.add_mul, Nat.one_mul, Nat.add_sub_cancel]
/-- The rows of the unit matrix give the table back. -/
theorem rowL_unit {i : Nat} (hi : i < D) : rowL D (unitTo D D) i = basL D i := by
  refine ext_gi ?_ (fun q hq => ?_)
  · have := row_le (Q := D) hi
    rw [rowL, List.length_take, List.length_drop, unitTo_length, basL_length]; omega
  · have hq2 : q < D := by rw [rowL, List.length_take] at hq; omega
    rw [gi_rowL2 _ _ hq2, gi_basL hi]
    have := at2_unitTo hi hq2
    rw [at2] at this
    rw [this, unitF]
    by_cases e : i = q
    · rw [if_pos e, if_pos e.symm]
    · rw [if_neg e, if_neg (Ne.symm e)]
theorem adN_bas {i j q : Nat} (hi : i < D) : adN D l (gi (basL D i)) j q = tb D l i j q := by
  rw [adN, sumN_one (k := i) (fun c => gi (basL D i) c * tb D l c j q) hi (fun c _ hne => by rw [gi_basL hi, if_neg hne]; simp), gi_basL hi, if_pos rfl, Int.one_mul]
theorem brL_bas (hl : Res l P) (hll : l.length = D * D * D) {i j q : Nat} (hi : i < D) (hj : j < D) (hq : q < D) : gi (brL P D l (basL D i) (basL D j)) q = tb D l i j q := by
  rw [gi_brL _ _ hq, brN_bas _ hj, adN_bas hi]
  have := tb_res hl hll hi hj hq
  exact Int.emod_eq_of_lt this.1 this.2
end
section
variable {P : Int} {D : Nat} {l : List Int}
theorem gi_pL (ss ts : List Int) (R2 n : Nat) {i j q : Nat} (hi : i < n) (hj : j < R2) (hq : q < D) : gi (pL P D l ss ts R2 n) (i * (R2 * D) + (j * D + q)) = gi (brL P D l (rowL D ss i) (rowL D ts j)) q := by
  have hjq : j * D + q < R2 * D := place_lt hj hq
  induction n with
  | zero => omega
  | succ n ih =>
    rw [pL_succ]
    by_cases e : i = n
    · subst e
      rw [gi_append_r (by rw [pL_length]; omega), pL_length, Nat.add_sub_cancel_left, gi_bRows _ _ _ hj hq]
    · have := row_le (Q := R2 * D) (show i < n by omega)
      rw [gi_append_l (by rw [pL_length]; omega)]
      exact ih (by omega)
theorem pL_units (hl : Res l P) (hll : l.length = D * D * D) : pL P D l (unitTo D D) (unitTo D D) D D = l := by
  refine ext_gi (by rw [pL_length, hll, Nat.mul_assoc]) (fun q hq => ?_)
  rw [pL_length] at hq
  have hD : 0 < D := by
    rcases Nat.eq_zero_or_pos D with h | h
    · subst h; simp at hq
    · exact h
  have hDD : 0 < D * D := Nat.mul_pos hD hD
  have hi : q / (D * D) < D := Nat.div_lt_of_lt_mul (by rw [Nat.mul_comm]; exact hq)
  have hm := Nat.mod_lt q hDD
  have hj : q % (D * D) / D < D := Nat.div_lt_of_lt_mul hm
  have hc := Nat.mod_lt (q % (D * D)) hD
  have e2 : q % (D * D) = q % (D * D) / D * D + q % (D * D) % D := by
    have := Nat.div_add_mod (q % (D * D)) D
    rw [Nat.mul_comm D (q % (D * D) / D)] at this; exact this.symm
  have e : q = q / (D * D) * (D * D) + (q % (D * D) / D * D + q % (D * D) % D) := by
    rw [← e2, Nat.mul_comm (q / (D * D))]; exact (Nat.div_add_mod q (D * D)).symm
  have h := gi_pL (P := P) (l := l) (unitTo D D) (unitTo D D) D D hi hj hc
  rw [← e] at h
  rw [h, rowL_unit hi, rowL_unit hj, brL_bas hl hll hi hj hc, tb]
  congr 1
  have e3 : (q / (D * D) * D + q % (D * D) / D) * D = q / (D * D) * (D * D) + q % (D * D) / D * D := by rw [Nat.add_mul, Nat.mul_assoc]
  omega
end
open Go.ChangeShapes Go.WideShapes Go.ChangeAt Go.RowKit

set_option maxHeartbeats 800000 in
theorem l1RowP_spec (P R : Int) (C i b0 o0 n d : Nat) (w : World) (hlt : (i + 1) * C ≤ n) (hn : n ≤ 1048576) (hi : i ≤ 1048576) (hd : n ≤ d) (hd2 : d ≤ maxLen) :
    Calls Try.prog 96 #[.agg #[.int .i64 P, .int .i64 R, .int .i64 C, .slice (some ⟨b0, o0, none⟩) n d], .int .i64 i] w fun e w' => e = .returned (.slice (some ⟨b0, o0 + i * C, none⟩) C (d - i * C)) ∧ Ext w w' := by
  unfold maxLen at hd2
  have e0 : (i + 1) * C = i * C + C := by rw [Nat.add_mul]; omega
  have e1 : (i : Int) * (C : Int) = ((i * C : Nat) : Int) := by simp
  have e2 : ((i : Int) + 1) * (C : Int) = ((i * C + C : Nat) : Int) := by rw [← e0]; simp
  have g1 : 0 ≤ (i : Int) * (C : Int) := by rw [e1]; omega
  have g2 : (i : Int) * (C : Int) ≤ 1048576 := by rw [e1]; omega
  have g3 : 0 ≤ ((i : Int) + 1) * (C : Int) := by rw [e2]; omega
  have g4 : ((i : Int) + 1) * (C : Int) ≤ (d : Int) := by rw [e2]; omega
  have g7 : ((i : Int) + 1) * (C : Int) ≤ 1048576 := by rw [e2]; omega
  have g5 : (i : Int) * (C : Int) ≤ ((i : Int) + 1) * (C : Int) := by rw [e1, e2]; omega
  have g6 : (i : Int) ≤ 1048576 := by omega
  have E0 := Lib.hid e0
  clear e0 e1 e2
  have HLT := Lib.hid hlt
  go_enter Try.func96, Try.ntmps96
  go_wp2
  case inl =>
    have e3 : C = 0 := by have := E0.out; omega
    subst e3
    simp only [Nat.mul_zero] at h
    subst h
    go_ret
    exact ⟨by simp, (Ext.refl _).alloc _⟩
  case inr =>
    have e3 : (i + 1) * C - i * C = C := by have := E0.out; omega
    go_ret
    exact ⟨by simp [e3], (Ext.refl _).alloc _⟩
end Go.Proofs.Ytgmipolgnpjmnaa
