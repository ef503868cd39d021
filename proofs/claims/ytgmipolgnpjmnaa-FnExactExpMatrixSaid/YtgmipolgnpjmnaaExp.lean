/-
  Exponentials of nilpotent matrices: both texts.
-/
import Derived.Test.YtgmipolgnpjmnaaNil
import Derived.Test.YtgmipolgnpjmnaaScale
import Derived.Test.YtgmipolgnpjmnaaBr
import Derived.Test.YtgmipolgnpjmnaaM0
namespace Go.Proofs.Ytgmipolgnpjmnaa
open Go.ChangeShapes Go.WideShapes Go.ChangeAt Go.RowKit
set_option linter.unusedVariables false
set_option linter.unusedSimpArgs false

noncomputable def facN (P : Int) : Nat → Int
  | 0 => 1
  | j + 1 => facN P j * invM ((j + 1 : Nat) : Int) P % P
noncomputable def trmL (P : Int) (xs : List Int) (K : Nat) : Nat → List Int
  | 0 => unitTo K K
  | j + 1 => scaleL P (invM ((j + 1 : Nat) : Int) P % P) (mulTo P (trmL P xs K j) xs K K K K)
noncomputable def outL (P : Int) (xs : List Int) (K : Nat) : Nat → List Int
  | 0 => List.replicate (K * K) 0
  | j + 1 => addL P 1 (outL P xs K j) (trmL P xs K j)
noncomputable def sumI (P : Int) (xs : List Int) (K : Nat) : Nat → List Int
  | 0 => powTo P xs K 0
  | j + 1 => addL P (facN P (j + 1)) (sumI P xs K j) (powTo P xs K (j + 1))
section
variable {P : Int} {xs : List Int} {K : Nat}
theorem trmL_length (j : Nat) : (trmL P xs K j).length = K * K := by
  cases j with
  | zero => exact unitTo_length K K
  | succ j => rw [trmL, scaleL_length, mulTo_length]
theorem outL_length (j : Nat) : (outL P xs K j).length = K * K := by
  induction j with
  | zero => simp [outL]
  | succ j ih => rw [outL, addL_length, ih]
theorem sumI_length (j : Nat) : (sumI P xs K j).length = K * K := by
  induction j with
  | zero => exact powTo_length ..
  | succ j ih => rw [sumI, addL_length, ih]
theorem trmL_res (hp : 2 ≤ P) (j : Nat) : Res (trmL P xs K j) P := by
  cases j with
  | zero => exact unitTo_res P hp K K
  | succ j =>
    intro q hq
    rw [trmL, gi_scaleL _ _ _ _ (by rw [trmL, scaleL_length] at hq; exact hq)]
    exact ⟨Int.emod_nonneg _ (by omega), Int.emod_lt_of_pos _ (by omega)⟩
theorem addL_res2 (hp : 2 ≤ P) (k : Int) (a b : List Int) : Res (addL P k a b) P := fun q hq => by
  rw [gi_addL _ _ _ _ _ (by rw [addL_length] at hq; exact hq)]
  exact ⟨Int.emod_nonneg _ (by omega), Int.emod_lt_of_pos _ (by omega)⟩
theorem outL_res (hp : 2 ≤ P) (j : Nat) : Res (outL P xs K j) P := by
  cases j with
  | zero => exact res_zero _ hp
  | succ j => exact addL_res2 hp _ _ _
theorem sumI_res (hp : 2 ≤ P) (j : Nat) : Res (sumI P xs K j) P := by
  cases j with
  | zero => exact powTo_res P hp xs K 0
  | succ j => exact addL_res2 hp _ _ _
theorem facN_bd (hp : 2 ≤ P) (j : Nat) : 0 ≤ facN P j ∧ facN P j < P := by
  cases j with
  | zero => rw [facN]; omega
  | succ j => rw [facN]; exact ⟨Int.emod_nonneg _ (by omega), Int.emod_lt_of_pos _ (by omega)⟩
theorem trm_pow (hp : 2 ≤ P) (j : Nat) : ∀ q, q < K * K → gi (trmL P xs K j) q = gi (powTo P xs K j) q * facN P j % P := by
  induction j with
  | zero =>
    intro q hq
    have h := unitTo_res P hp K K q (by rw [unitTo_length]; exact hq)
    rw [trmL, powTo, facN, Int.mul_one, Int.emod_eq_of_lt h.1 h.2]
  | succ j ih =>
    intro q hq
    have hK : 0 < K := by
      rcases Nat.eq_zero_or_pos K with e | e
      · subst e; simp at hq
      · exact e
    have e : q = q / K * K + q % K := by rw [Nat.mul_comm]; exact (Nat.div_add_mod q K).symm
    have hr : q / K < K := Nat.div_lt_of_lt_mul hq
    have hc := Nat.mod_lt q hK
    rw [trmL, gi_scaleL _ _ _ _ (by rw [mulTo_length]; exact hq), powTo, facN]
    rw [e]
    generalize q / K = r at hr
    generalize q % K = c at hc
    rw [at2_mulTo _ _ hr hc, at2_mulTo _ _ hr hc]
    refine Eqm.to_emod ?_
    have h1 : Eqm P (sumN K fun t => gi (trmL P xs K j) (r * K + t) * gi xs (t * K + c)) (facN P j * sumN K fun t => gi (powTo P xs K j) (r * K + t) * gi xs (t * K + c)) := by
      rw [← sumN_mul]
      refine sumN_eqm (fun t ht => ?_)
      rw [ih _ (place_lt hr ht)]
      have h2 : facN P j * (gi (powTo P xs K j) (r * K + t) * gi xs (t * K + c)) = gi (powTo P xs K j) (r * K + t) * facN P j * gi xs (t * K + c) := by grind
      rw [h2]
      exact (Eqm.emod _).mul (Eqm.refl _)
    generalize (sumN K fun t => gi (powTo P xs K j) (r * K + t) * gi xs (t * K + c)) = S at h1 ⊢
    generalize invM ((j + 1 : Nat) : Int) P = v
    have h3 := ((Eqm.emod _).trans h1).mul (Eqm.emod (P := P) v)
    refine h3.trans ?_
    have h4 : facN P j * S * v = S * (facN P j * v) := by grind
    rw [h4]
    exact (Eqm.emod S).symm.mul (Eqm.emod _).symm
theorem out_sum (hp : 2 ≤ P) (j : Nat) : outL P xs K (j + 1) = sumI P xs K j := by
  induction j with
  | zero =>
    refine ext_gi (by rw [outL_length, sumI_length]) (fun q hq => ?_)
    rw [outL_length] at hq
    have h := unitTo_res P hp K K q (by rw [unitTo_length]; exact hq)
    have hz : gi (List.replicate (K * K) (0 : Int)) q = 0 := by simp only [gi, List.getD_eq_getElem?_getD, List.getElem?_replicate]; split <;> rfl
    rw [outL, outL, gi_addL _ _ _ _ _ (by simpa using hq), hz, trmL, sumI, powTo, Int.zero_add, Int.one_mul, Int.emod_eq_of_lt h.1 h.2]
  | succ j ih =>
    refine ext_gi (by rw [outL_length, sumI_length]) (fun q hq => ?_)
    rw [outL_length] at hq
    rw [outL, ih, sumI, gi_addL _ _ _ _ _ (by rw [sumI_length]; exact hq), gi_addL _ _ _ _ _ (by rw [sumI_length]; exact hq), trm_pow hp _ q hq, Int.one_mul, Int.add_emod, Int.emod_emod_of_dvd _ (Int.dvd_refl P), ← Int.add_emod, Int.mul_comm]
theorem nilF_le (d : Nat) : ∀ k, K + 1 - k = d → nilF P xs K k ≤ K := by
  induction d with
  | zero => intro k h; rw [nilF, if_neg (by omega)]; omega
  | succ d ih =>
    intro k h
    rw [nilF]
    split
    · split
      · omega
      · exact ih (k + 1) (by omega)
    · omega
theorem nilF_none (hp : 2 ≤ P) (h : nilF P xs K 0 = 0) : K = 0 := by
  rcases Nat.eq_zero_or_pos K with e | e
  · exact e
  · exfalso
    have h1 : ¬ fz (powTo P xs K 0) 0 = (powTo P xs K 0).length := fun h2 => by
      rw [fz_all] at h2
      have h3 := h2 (0 * K + 0) (by rw [powTo_length]; exact place_lt e e)
      rw [powTo, gi_unitTo K 0 0 (Nat.le_refl _) e e, if_pos ⟨rfl, e⟩] at h3
      omega
    rw [nilF_next (by omega) h1] at h
    have key : ∀ d k, K + 1 - k = d → 1 ≤ k → nilF P xs K k ≠ 0 := by
      intro d
      induction d with
      | zero => intro k h1 h2; rw [nilF, if_neg (by omega)]; omega
      | succ d ih =>
        intro k h1 h2
        rw [nilF]
        split
        · split
          · omega
          · exact ih (k + 1) (by omega) (by omega)
        · omega
    exact key _ 1 rfl (Nat.le_refl _) h
end
noncomputable def expB (P R C : Int) (xs : List Int) : Bool := decide (0 ≤ nilM P R C xs) && decide (nilM P R C xs ≤ P)
noncomputable def expM (P R C : Int) (xs : List Int) : Mat × Bool := if expB P R C xs then (⟨P, R, R, outL P xs R.toNat (nilM P R C xs).toNat⟩, true) else (noMat, false)
theorem nil_parts {P R C : Int} {xs : List Int} (h : 0 ≤ nilM P R C xs) : mok P R C xs = true ∧ R = C ∧ nilM P R C xs = nilF P xs R.toNat 0 := by
  unfold nilM at h ⊢
  split at h
  · rename_i h1
    simp only [Bool.and_eq_true, beq_iff_eq] at h1
    exact ⟨h1.1, h1.2, by rw [h1.1, h1.2]; simp⟩
  · omega
theorem invM_small {P : Int} {k : Nat} (hpr : isP P = true) (h1 : 0 < k) (h2 : (k : Int) < P) : invM k P = inv k P := by
  unfold invM
  rw [if_pos hpr, Int.emod_eq_of_lt (by omega) h2]
def DD (w : World) (BP BQ x : Nat) : Prop := w.heap.size + 1 < x ∧ x ≠ BP ∧ x ≠ BQ
theorem inv_bd {P : Int} (hp : 0 < P) (x : Int) : 0 ≤ inv x P ∧ inv x P < P := by
  unfold inv; split
  · omega
  · exact ⟨powm_lo _ _ _ hp, powm_hi _ _ _ hp⟩
theorem keptB_set4 {w w1 : World} {b : Nat} (h : w.grownBy w1 (some b) ∧ ∀ B o, B ≠ b → B < w.heap.size → w1.cell? ⟨B, o, none⟩ = w.cell? ⟨B, o, none⟩) (v0 v1 v2 v3 : Value) :
    w.grownBy ((((w1.setCell ⟨b, 0, none⟩ v0).setCell ⟨b, 1, none⟩ v1).setCell ⟨b, 2, none⟩ v2).setCell ⟨b, 3, none⟩ v3) (some b) ∧ ∀ B o, B ≠ b → B < w.heap.size → ((((w1.setCell ⟨b, 0, none⟩ v0).setCell ⟨b, 1, none⟩ v1).setCell ⟨b, 2, none⟩ v2).setCell ⟨b, 3, none⟩ v3).cell? ⟨B, o, none⟩ = w.cell? ⟨B, o, none⟩ :=
  keptB_set (keptB_set (keptB_set (keptB_set h 0 v0) 1 v1) 2 v2) 3 v3
theorem own_keep {w1 w2 : World} {lo hi : Nat} {a : Option Addr} {n : Nat} {xs : List Int} (h : Own w1 lo hi a n xs) (hE : Ext w1 w2) : Own w2 lo hi a n xs := h.ext hE

set_option maxRecDepth 100000 in
set_option maxHeartbeats 6400000 in
theorem expMatrix_impl {P R C : Int} {a0 oa n : Nat} {xs : List Int} {w : World} {p r' c : Int} {d : List Int} {ok : Bool} (h : Reads w (some ⟨a0, oa, none⟩) n xs) (hm : n ≤ 1048576) (hM : expM P R C xs = (⟨p, r', c, d⟩, ok)) :
    Calls Try.prog 34 #[.agg #[.int .i64 P, .int .i64 R, .int .i64 C, .slice (some ⟨a0, oa, none⟩) n n]] w fun e w' => ∃ v, e = .returned (.tuple #[v, .bool ok]) ∧ Rmat w w' v p r' c d ∧ Ext w w' := by
  have HR := Lib.hid h
  obtain ⟨z, hz⟩ : ∃ z, nilM P R C xs = z := ⟨_, rfl⟩
  have HZ := Lib.hid hz
  have FAIL : ¬ (0 ≤ z ∧ z ≤ P) → p = 0 ∧ r' = 0 ∧ c = 0 ∧ d = [] ∧ ok = false := fun hn => by
    have hb : expB P R C xs = false := by
      simp only [expB, hz, Bool.and_eq_false_iff, decide_eq_false_iff_not]; omega
    simp only [expM, hb, noMat, Bool.false_eq_true, if_false, Prod.mk.injEq, Mat.mk.injEq] at hM
    obtain ⟨⟨rfl, rfl, rfl, rfl⟩, rfl⟩ := hM
    exact ⟨rfl, rfl, rfl, rfl, rfl⟩
  by_cases h0 : z < 0
  · obtain ⟨rfl, rfl, rfl, rfl, rfl⟩ := FAIL (by omega)
    clear FAIL hM h hz
    go_enter Try.func34, Try.ntmps34
    have A0_1 := Lib.hid ((cells_new' w #[.int .i64 P, .int .i64 R, .int .i64 C, .slice (some ⟨a0, oa, none⟩) n n] 36 (w.heap.size) (by simp)).ext ((Ext.refl _).alloc (.cells #[.int .i64 0, .int .i64 0, .int .i64 0, .slice none 0 0] 36)))
    have R_2 := Lib.hid (cells_new' (w.alloc (.cells #[.int .i64 P, .int .i64 R, .int .i64 C, .slice (some ⟨a0, oa, none⟩) n n] 36)) #[.int .i64 0, .int .i64 0, .int .i64 0, .slice none 0 0] 36 (w.heap.size + 1) (by simp))
    have E_3 := Lib.hid (((Ext.refl w).alloc (.cells #[.int .i64 P, .int .i64 R, .int .i64 C, .slice (some ⟨a0, oa, none⟩) n n] 36)).alloc (.cells #[.int .i64 0, .int .i64 0, .int .i64 0, .slice none 0 0] 36))
    have lA0 := A0_1.out.1
    have qA00 := A0_1.out.2 0 _ rfl
    have qA01 := A0_1.out.2 1 _ rfl
    have qA02 := A0_1.out.2 2 _ rfl
    have qA03 := A0_1.out.2 3 _ rfl
    try simp only [World.size_alloc] at lA0
    go_wp2_with fail
    refine (nilpotencyOf_impl (HR.out.ext E_3.out) hm HZ.out).mono ?_
    rintro e w_4 ⟨rfl, h_4⟩
    clear lA0 qA00 qA01 qA02 qA03
    have A0_5 := Lib.hid (A0_1.out.ext h_4)
    clear A0_1
    have R_6 := Lib.hid (R_2.out.ext h_4)
    clear R_2
    have E_7 := Lib.hid (E_3.out.trans h_4)
    clear E_3
    have lA0 := A0_5.out.1
    have qA00 := A0_5.out.2 0 _ rfl
    have qA01 := A0_5.out.2 1 _ rfl
    have qA02 := A0_5.out.2 2 _ rfl
    have qA03 := A0_5.out.2 3 _ rfl
    try simp only [World.size_alloc] at lA0
    have r0 := R_6.out.2 0 _ rfl
    have r1 := R_6.out.2 1 _ rfl
    have r2 := R_6.out.2 2 _ rfl
    have r3 := R_6.out.2 3 _ rfl
    have tR := R_6.out.3
    have lR := R_6.out.1
    go_wp2
    refine bodyPost_ret (v := .tuple #[.agg #[.int .i64 0, .int .i64 0, .int .i64 0, .slice none 0 0], .bool false]) (by simp [results, Try.results34, go_sem, r0, r1, r2, r3]) rfl ⟨_, rfl, ⟨_, _, _, rfl, own_nil _ _ _, by omega⟩, ext4 E_7.out (by omega) _ _ _ _⟩
  by_cases h1 : P < z
  · obtain ⟨rfl, rfl, rfl, rfl, rfl⟩ := FAIL (by omega)
    clear FAIL hM h hz
    go_enter Try.func34, Try.ntmps34
    have A0_1 := Lib.hid ((cells_new' w #[.int .i64 P, .int .i64 R, .int .i64 C, .slice (some ⟨a0, oa, none⟩) n n] 36 (w.heap.size) (by simp)).ext ((Ext.refl _).alloc (.cells #[.int .i64 0, .int .i64 0, .int .i64 0, .slice none 0 0] 36)))
    have R_2 := Lib.hid (cells_new' (w.alloc (.cells #[.int .i64 P, .int .i64 R, .int .i64 C, .slice (some ⟨a0, oa, none⟩) n n] 36)) #[.int .i64 0, .int .i64 0, .int .i64 0, .slice none 0 0] 36 (w.heap.size + 1) (by simp))
    have E_3 := Lib.hid (((Ext.refl w).alloc (.cells #[.int .i64 P, .int .i64 R, .int .i64 C, .slice (some ⟨a0, oa, none⟩) n n] 36)).alloc (.cells #[.int .i64 0, .int .i64 0, .int .i64 0, .slice none 0 0] 36))
    have lA0 := A0_1.out.1
    have qA00 := A0_1.out.2 0 _ rfl
    have qA01 := A0_1.out.2 1 _ rfl
    have qA02 := A0_1.out.2 2 _ rfl
    have qA03 := A0_1.out.2 3 _ rfl
    try simp only [World.size_alloc] at lA0
    go_wp2_with fail
    refine (nilpotencyOf_impl (HR.out.ext E_3.out) hm HZ.out).mono ?_
    rintro e w_4 ⟨rfl, h_4⟩
    clear lA0 qA00 qA01 qA02 qA03
    have A0_5 := Lib.hid (A0_1.out.ext h_4)
    clear A0_1
    have R_6 := Lib.hid (R_2.out.ext h_4)
    clear R_2
    have E_7 := Lib.hid (E_3.out.trans h_4)
    clear E_3
    have lA0 := A0_5.out.1
    have qA00 := A0_5.out.2 0 _ rfl
    have qA01 := A0_5.out.2 1 _ rfl
    have qA02 := A0_5.out.2 2 _ rfl
    have qA03 := A0_5.out.2 3 _ rfl
    try simp only [World.size_alloc] at lA0
    have r0 := R_6.out.2 0 _ rfl
    have r1 := R_6.out.2 1 _ rfl
    have r2 := R_6.out.2 2 _ rfl
    have r3 := R_6.out.2 3 _ rfl
    have tR := R_6.out.3
    have lR := R_6.out.1
    go_wp2
    refine bodyPost_ret (v := .tuple #[.agg #[.int .i64 0, .int .i64 0, .int .i64 0, .slice none 0 0], .bool false]) (by simp [results, Try.results34, go_sem, r0, r1, r2, r3]) rfl ⟨_, rfl, ⟨_, _, _, rfl, own_nil _ _ _, by omega⟩, ext4 E_7.out (by omega) _ _ _ _⟩
  clear FAIL
  obtain ⟨hmo, rfl, hzf⟩ := nil_parts (P := P) (R := R) (C := C) (xs := xs) (by omega)
  have hb : expB P R R xs = true := by
    simp only [expB, hz, Bool.and_eq_true, decide_eq_true_eq]; omega
  simp only [expM, hb, if_true, Prod.mk.injEq, Mat.mk.injEq] at hM
  obtain ⟨⟨rfl, rfl, rfl, rfl⟩, rfl⟩ := hM
  have hq1 := inB_iff.1 (mok_iff.1 hmo).2.1
  obtain ⟨R, rfl⟩ := Int.eq_ofNat_of_zero_le hq1.1
  have hpr := (mok_iff.1 hmo).1
  have HPR := Lib.hid hpr
  have hp := mok_lo hmo
  have hp2 := mok_hi hmo
  have hx := mok_res hmo
  have HX := Lib.hid hx
  have hR : R ≤ 40 := by omega
  have hl := mok_len hmo
  have hn : n = R * R := by rw [h.1, ← Int.natCast_mul] at hl; show n = R * R; omega
  have HN := Lib.hid hn
  have g40 := mul40 hR hR
  rw [hzf, Int.toNat_natCast] at hz
  have hle := nilF_le (P := P) (xs := xs) (K := R) _ 0 rfl
  have hnone := nilF_none (xs := xs) (K := R) hp
  rw [hzf, Int.toNat_natCast]
  rw [hz] at hle hnone ⊢
  obtain ⟨N, rfl⟩ := Int.eq_ofNat_of_zero_le (show 0 ≤ z by omega)
  rw [Int.toNat_natCast]
  have hNR : N ≤ R := by omega
  have HNONE : Hid (N = 0 → R = 0) := fun e => hnone (by omega)
  have hNP : (N : Int) ≤ P := by omega
  have HZR : Hid (∀ w1, Calls Try.prog 90 #[.int .i64 P, .int .i64 R, .int .i64 R] w1 fun e w' => ∃ b, e = .returned (.agg #[.int .i64 P, .int .i64 R, .int .i64 R, .slice (some ⟨b, 0, none⟩) (R * R) (R * R)]) ∧ w1.heap.size ≤ b ∧ b < w'.heap.size ∧ Has w' b (List.replicate (R * R) 0) ∧ Ext w1 w') := fun w1 => by
    have e9 : ((R : Int) * (R : Int)).toNat = R * R := by rw [← Int.natCast_mul, Int.toNat_natCast]
    have h9 := zeros_impl P R R w1 (by rw [← Int.natCast_mul]; omega) (by rw [← Int.natCast_mul]; omega)
    rw [e9] at h9
    exact h9
  clear hb hq1 hpr hmo hx hl hz hle hnone hzf h0 h1 h hn
  go_enter Try.func34, Try.ntmps34
  have A0_1 := Lib.hid ((cells_new' w #[.int .i64 P, .int .i64 R, .int .i64 R, .slice (some ⟨a0, oa, none⟩) n n] 36 (w.heap.size) (by simp)).ext ((Ext.refl _).alloc (.cells #[.int .i64 0, .int .i64 0, .int .i64 0, .slice none 0 0] 36)))
  have R_2 := Lib.hid (cells_new' (w.alloc (.cells #[.int .i64 P, .int .i64 R, .int .i64 R, .slice (some ⟨a0, oa, none⟩) n n] 36)) #[.int .i64 0, .int .i64 0, .int .i64 0, .slice none 0 0] 36 (w.heap.size + 1) (by simp))
  have E_3 := Lib.hid (((Ext.refl w).alloc (.cells #[.int .i64 P, .int .i64 R, .int .i64 R, .slice (some ⟨a0, oa, none⟩) n n] 36)).alloc (.cells #[.int .i64 0, .int .i64 0, .int .i64 0, .slice none 0 0] 36))
  have lA0 := A0_1.out.1
  have qA00 := A0_1.out.2 0 _ rfl
  have qA01 := A0_1.out.2 1 _ rfl
  have qA02 := A0_1.out.2 2 _ rfl
  have qA03 := A0_1.out.2 3 _ rfl
  try simp only [World.size_alloc] at lA0
  go_wp2_with fail
  refine (nilpotencyOf_impl (HR.out.ext E_3.out) hm HZ.out).mono ?_
  rintro e w_4 ⟨rfl, h_4⟩
  clear lA0 qA00 qA01 qA02 qA03
  have A0_5 := Lib.hid (A0_1.out.ext h_4)
  clear A0_1
  have R_6 := Lib.hid (R_2.out.ext h_4)
  clear R_2
  have E_7 := Lib.hid (E_3.out.trans h_4)
  clear E_3
  have hR0 := R_6.out.1
  have HR0 := Lib.hid hR0
  clear hR0
  have lA0 := A0_5.out.1
  have qA00 := A0_5.out.2 0 _ rfl
  have qA01 := A0_5.out.2 1 _ rfl
  have qA02 := A0_5.out.2 2 _ rfl
  have qA03 := A0_5.out.2 3 _ rfl
  try simp only [World.size_alloc] at lA0
  go_wp2_with fail
  refine (unit_impl P R _ hR).mono ?_
  rintro e w_8 ⟨b, rfl, hb1, hb2, hh, h_8⟩
  clear lA0 qA00 qA01 qA02 qA03
  have A0_9 := Lib.hid (A0_5.out.ext h_8)
  clear A0_5
  have R_10 := Lib.hid (R_6.out.ext h_8)
  clear R_6
  have E_11 := Lib.hid (E_7.out.trans h_8)
  clear E_7
  have hD1 : w.heap.size + 1 < b := by have := HR0.out; omega
  have H0 : Hid (Has (w_8.alloc (.cells #[.int .i64 P, .int .i64 R, .int .i64 R, .slice (some ⟨b, 0, none⟩) (R * R) (R * R)] 36)) b (powTo P xs R 0)) := hh.alloc _
  clear hh h_8
  have P_12 := (Ext.refl w_8).alloc (.cells #[.int .i64 P, .int .i64 R, .int .i64 R, .slice (some ⟨b, 0, none⟩) (R * R) (R * R)] 36)
  have A0_13 := Lib.hid (A0_9.out.ext P_12)
  clear A0_9
  have R_14 := Lib.hid (R_10.out.ext P_12)
  clear R_10
  have E_15 := Lib.hid (E_11.out.trans P_12)
  clear E_11
  clear P_12
  have PW_16 := Lib.hid (cells_new w_8 #[.int .i64 P, .int .i64 R, .int .i64 R, .slice (some ⟨b, 0, none⟩) (R * R) (R * R)] 36)
  have lA0 := A0_13.out.1
  have qA00 := A0_13.out.2 0 _ rfl
  have qA01 := A0_13.out.2 1 _ rfl
  have qA02 := A0_13.out.2 2 _ rfl
  have qA03 := A0_13.out.2 3 _ rfl
  have lPW := PW_16.out.1
  have qPW0 := PW_16.out.2 0 _ rfl
  have qPW1 := PW_16.out.2 1 _ rfl
  have qPW2 := PW_16.out.2 2 _ rfl
  have qPW3 := PW_16.out.2 3 _ rfl
  try simp only [World.size_alloc] at lA0 lPW
  go_wp2_with fail
  clear lA0 qA00 qA01 qA02 qA03 lPW qPW0 qPW1 qPW2 qPW3
  have H1 : Hid (Has ((w_8.alloc (.cells #[.int .i64 P, .int .i64 R, .int .i64 R, .slice (some ⟨b, 0, none⟩) (R * R) (R * R)] 36)).alloc (.cells #[.int .i64 P, .int .i64 R, .int .i64 R, .slice (some ⟨b, 0, none⟩) (R * R) (R * R)] 36)) b (powTo P xs R 0)) := H0.out.alloc _
  clear H0
  have P_17 := (Ext.refl (w_8.alloc (.cells #[.int .i64 P, .int .i64 R, .int .i64 R, .slice (some ⟨b, 0, none⟩) (R * R) (R * R)] 36))).alloc (.cells #[.int .i64 P, .int .i64 R, .int .i64 R, .slice (some ⟨b, 0, none⟩) (R * R) (R * R)] 36)
  have A0_18 := Lib.hid (A0_13.out.ext P_17)
  clear A0_13
  have R_19 := Lib.hid (R_14.out.ext P_17)
  clear R_14
  have PW_20 := Lib.hid (PW_16.out.ext P_17)
  clear PW_16
  have E_21 := Lib.hid (E_15.out.trans P_17)
  clear E_15
  clear P_17
  have SM_22 := Lib.hid (cells_new (w_8.alloc (.cells #[.int .i64 P, .int .i64 R, .int .i64 R, .slice (some ⟨b, 0, none⟩) (R * R) (R * R)] 36)) #[.int .i64 P, .int .i64 R, .int .i64 R, .slice (some ⟨b, 0, none⟩) (R * R) (R * R)] 36)
  have SM1 : Hid (Cells (((w_8.alloc (.cells #[.int .i64 P, .int .i64 R, .int .i64 R, .slice (some ⟨b, 0, none⟩) (R * R) (R * R)] 36)).alloc (.cells #[.int .i64 P, .int .i64 R, .int .i64 R, .slice (some ⟨b, 0, none⟩) (R * R) (R * R)] 36))) (w_8.heap.size + 1) [.int .i64 P, .int .i64 R, .int .i64 R, .slice (some ⟨b, 0, none⟩) (R * R) (R * R)]) := by have := SM_22; simp only [World.size_alloc] at this; exact this
  go_wp2_with fail
  try simp only [World.size_alloc]
  have hBP : w.heap.size + 1 < w_8.heap.size := by omega
  have hbP : b < w_8.heap.size := hb2
  clear hb1 hb2 SM_22
  generalize ((w_8.alloc (.cells #[.int .i64 P, .int .i64 R, .int .i64 R, .slice (some ⟨b, 0, none⟩) (R * R) (R * R)] 36)).alloc (.cells #[.int .i64 P, .int .i64 R, .int .i64 R, .slice (some ⟨b, 0, none⟩) (R * R) (R * R)] 36)) = W0 at *
  generalize w_8.heap.size = BP at *
  have HD : Hid (DD w BP (BP + 1) b) := ⟨hD1, by omega, by omega⟩
  have H2 : Hid (Has W0 b (sumI P xs R 0)) := H1
  have HBB : Hid (w.heap.size + 1 < BP ∧ w.heap.size + 1 < BP + 1 ∧ BP ≠ BP + 1) := ⟨hBP, by omega, by omega⟩
  clear hBP hbP hD1
  generalize BP + 1 = BQ at *
  go_loopw [7, 8] (fun v z wr => ∃ (j ps bs : Nat), (j + 1 ≤ N ∨ j = 0) ∧ z = .int .i64 ((j + 1 : Nat) : Int) ∧ v = .int .i64 (facN P j) ∧ Hid (Cells wr w.heap.size [.int .i64 P, .int .i64 R, .int .i64 R, .slice (some ⟨a0, oa, none⟩) n n]) ∧ Hid (Cells wr (w.heap.size + 1) [.int .i64 0, .int .i64 0, .int .i64 0, .slice none 0 0]) ∧ Hid (Cells wr BP [.int .i64 P, .int .i64 R, .int .i64 R, .slice (some ⟨ps, 0, none⟩) (R * R) (R * R)]) ∧ Hid (Cells wr BQ [.int .i64 P, .int .i64 R, .int .i64 R, .slice (some ⟨bs, 0, none⟩) (R * R) (R * R)]) ∧ Hid (Has wr ps (powTo P xs R (j))) ∧ Hid (Has wr bs (sumI P xs R (j))) ∧ Hid (Ext w wr) ∧ Hid (DD w BP BQ ps) ∧ Hid (DD w BP BQ bs)) (fun _ z _ => N - (intOf z).toNat)
  case atStart => exact ⟨0, b, b, Or.inr rfl, rfl, rfl, A0_18, R_19, PW_20, SM1, H1, H2, E_21, HD, HD⟩
  case round =>
    clear A0_18 R_19 PW_20 SM1 H1 H2 E_21 HD
    obtain ⟨j, ps, bs, hj, rfl, rfl, MA, MR, MP, MS, HP, HS, E, DP, DS⟩ := hrel
    have lA := MA.out.1
    have a0' := MA.out.2 0 _ rfl
    have a1' := MA.out.2 1 _ rfl
    have a2' := MA.out.2 2 _ rfl
    have a3' := MA.out.2 3 _ rfl
    have lP := MP.out.1
    have lS := MS.out.1
    by_cases hlt : j + 1 < N
    · have p0 := MP.out.2 0 _ rfl
      have p1 := MP.out.2 1 _ rfl
      have p2 := MP.out.2 2 _ rfl
      have p3 := MP.out.2 3 _ rfl
      have tP := MP.out.3
      have hlt' : ((j : Int) + 1 < (N : Int)) := by omega
      go_wp2_with fail
      refine (product_impl P R R R ps 0 a0 oa (R * R) n (powTo P xs R j) xs _ (HP.out.reads (powTo_length P xs R j)) (HR.out.ext E.out) rfl HN.out hR hR hR hp hp2 (powTo_res P hp xs R j) HX.out).mono ?_
      rintro e w5 ⟨q2, rfl, hq1, hq2, hk, h5⟩
      have D2 : Hid (DD w BP BQ q2) := ⟨by have := HBB.out; omega, by omega, by omega⟩
      have hne : BP ≠ q2 := by omega
      have N1 := Lib.hid (cells_set4 (MA.out.ext h5) (show w.heap.size ≠ BP by have := HBB.out; omega) (.int .i64 P) (.int .i64 R) (.int .i64 R) (.slice (some ⟨q2, 0, none⟩) (R * R) (R * R)))
      have N2 := Lib.hid (cells_set4 (MR.out.ext h5) (show w.heap.size + 1 ≠ BP by have := HBB.out; omega) (.int .i64 P) (.int .i64 R) (.int .i64 R) (.slice (some ⟨q2, 0, none⟩) (R * R) (R * R)))
      have N3 := Lib.hid (early4 (lo := 0) (v0 := .int .i64 P) (v1 := .int .i64 R) (v2 := .int .i64 R) (v3 := .slice (some ⟨q2, 0, none⟩) (R * R) (R * R)) (MP.out.ext h5))
      have N4 := Lib.hid (cells_set4 (MS.out.ext h5) (show BQ ≠ BP from fun e => HBB.out.2.2 e.symm) (.int .i64 P) (.int .i64 R) (.int .i64 R) (.slice (some ⟨q2, 0, none⟩) (R * R) (R * R)))
      have N5 : Hid (Has ((((w5.setCell ⟨BP, 0, none⟩ (.int .i64 P)).setCell ⟨BP, 1, none⟩ (.int .i64 R)).setCell ⟨BP, 2, none⟩ (.int .i64 R)).setCell ⟨BP, 3, none⟩ (.slice (some ⟨q2, 0, none⟩) (R * R) (R * R))) q2 (powTo P xs R (j + 1))) := has_set4 hk hne _ _ _ _
      have N6 : Hid (Has ((((w5.setCell ⟨BP, 0, none⟩ (.int .i64 P)).setCell ⟨BP, 1, none⟩ (.int .i64 R)).setCell ⟨BP, 2, none⟩ (.int .i64 R)).setCell ⟨BP, 3, none⟩ (.slice (some ⟨q2, 0, none⟩) (R * R) (R * R))) bs (sumI P xs R j)) := has_set4 (HS.out.ext h5) (fun e => DS.out.2.1 e.symm) _ _ _ _
      have N7 := Lib.hid (ext4 (E.out.trans h5) (show w.heap.size ≤ BP by have := HBB.out; omega) (.int .i64 P) (.int .i64 R) (.int .i64 R) (.slice (some ⟨q2, 0, none⟩) (R * R) (R * R)))
      have M2 := MP.out.ext h5
      clear lA a0' a1' a2' a3' lP lS p0 p1 p2 p3 tP MA MR MP MS HP HS E hq1 hq2 hk h5 hne
      have lP := M2.1
      have p0 := M2.2 0 _ rfl
      have p1 := M2.2 1 _ rfl
      have p2 := M2.2 2 _ rfl
      have p3 := M2.2 3 _ rfl
      have tP := M2.3
      clear M2
      go_upto_region 10 with fail
      clear lP p0 p1 p2 p3 tP
      generalize (((w5.setCell ⟨BP, 0, none⟩ (.int .i64 P)).setCell ⟨BP, 1, none⟩ (.int .i64 R)).setCell ⟨BP, 2, none⟩ (.int .i64 R)).setCell ⟨BP, 3, none⟩ (.slice (some ⟨q2, 0, none⟩) (R * R) (R * R)) = W6 at *
      have lA := N1.out.1
      have a0' := N1.out.2 0 _ rfl
      have hkP : ((j : Int) + 1) < P := by omega
      have HFS : Hid (facN P (j + 1) = facN P j * inv ((j : Int) + 1) P % P) := by
        have h9 := invM_small (P := P) (k := j + 1) HPR.out (by omega) (by simp; omega)
        rw [Hid, facN, h9]; simp
      obtain ⟨f0, f1⟩ := facN_bd (P := P) hp j
      obtain ⟨i0, i1⟩ := inv_bd (P := P) (by omega) ((j : Int) + 1)
      have m0 := Int.mul_nonneg f0 i0
      have m1 := mul_hi f0 f1 i0 i1 hp2
      have v1 : IntKind.i64.wrap (facN P j * inv ((j : Int) + 1) P) = facN P j * inv ((j : Int) + 1) P := IntWalk.i64_in _ ⟨by omega, by omega⟩
      have v6 : (P = 0) = False := eq_false (by omega)
      have v7 : (facN P j * inv ((j : Int) + 1) P).tmod P = (facN P j * inv ((j : Int) + 1) P) % P := IntWalk.rem_in _ _ (by omega)
      go_region_held3 (fun w' => Ext W6 w' ∧ (∀ b o, b < W6.heap.size → w'.cell? ⟨b, o, none⟩ = W6.cell? ⟨b, o, none⟩)) (first | assumption | (refine ext2 ?_; with_reducible repeat (first | exact Ext.refl _ | exact And.left ‹Ext W6 _ ∧ _› | refine Ext.drew ?_ | refine Ext.drewN ?_ _))) ((go_at_call 82; (with_reducible refine (inverse_impl _ _ _ hp hp2 (by omega) (by omega)).mono ?_); rintro e wz ⟨rfl, rfl⟩))
      rw [← HFS.out]
      have EW := Lib.hid ((Ext.refl W6).drew)
      obtain ⟨W7, hW7⟩ : ∃ W7 : World, W7 = W6.drew := ⟨_, rfl⟩
      rw [← hW7] at EW ⊢
      clear hW7 v1 v6 v7 m0 m1 f0 f1 i0 i1 HFS
      clear lA a0'
      have MP := Lib.hid (N3.out.ext EW.out)
      have MS := Lib.hid (N4.out.ext EW.out)
      have HP := Lib.hid (N5.out.ext EW.out)
      have HS := Lib.hid (N6.out.ext EW.out)
      have MA := Lib.hid (N1.out.ext EW.out)
      have MR := Lib.hid (N2.out.ext EW.out)
      have E := Lib.hid (N7.out.trans EW.out)
      clear N1 N2 N3 N4 N5 N6 N7 EW
      have lP := MP.out.1
      have p0 := MP.out.2 0 _ rfl
      have p1 := MP.out.2 1 _ rfl
      have p2 := MP.out.2 2 _ rfl
      have p3 := MP.out.2 3 _ rfl
      have lS := MS.out.1
      have s0 := MS.out.2 0 _ rfl
      have s1 := MS.out.2 1 _ rfl
      have s2 := MS.out.2 2 _ rfl
      have s3 := MS.out.2 3 _ rfl
      obtain ⟨f0, f1⟩ := facN_bd (P := P) hp (j + 1)
      go_wp2_with fail
      refine (addMultiple_impl P R R (facN P (j + 1)) P R R (some ⟨bs, 0, none⟩) (R * R) (R * R) (sumI P xs R j) (some ⟨q2, 0, none⟩) (R * R) (powTo P xs R (j + 1)) _ (HS.out.reads (sumI_length j)) (HP.out.reads (powTo_length P xs R (j + 1))) (by omega) (by simp) hp hp2 (sumI_res hp j) (powTo_res P hp xs R (j + 1)) f0 f1).mono ?_
      rintro e w8 ⟨b2, rfl, hq1, hq2, hk, h8⟩
      have D3 : Hid (DD w BP BQ b2) := ⟨by have := HBB.out; omega, by omega, by omega⟩
      have hne : BQ ≠ b2 := by omega
      have N1 := Lib.hid (cells_set4 (MA.out.ext h8) (show w.heap.size ≠ BQ by have := HBB.out; omega) (.int .i64 P) (.int .i64 R) (.int .i64 R) (.slice (some ⟨b2, 0, none⟩) (R * R) (R * R)))
      have N2 := Lib.hid (cells_set4 (MR.out.ext h8) (show w.heap.size + 1 ≠ BQ by have := HBB.out; omega) (.int .i64 P) (.int .i64 R) (.int .i64 R) (.slice (some ⟨b2, 0, none⟩) (R * R) (R * R)))
      have N3 := Lib.hid (cells_set4 (MP.out.ext h8) HBB.out.2.2 (.int .i64 P) (.int .i64 R) (.int .i64 R) (.slice (some ⟨b2, 0, none⟩) (R * R) (R * R)))
      have N4 := Lib.hid (early4 (lo := 0) (v0 := .int .i64 P) (v1 := .int .i64 R) (v2 := .int .i64 R) (v3 := .slice (some ⟨b2, 0, none⟩) (R * R) (R * R)) (MS.out.ext h8))
      have N5 : Hid (Has ((((w8.setCell ⟨BQ, 0, none⟩ (.int .i64 P)).setCell ⟨BQ, 1, none⟩ (.int .i64 R)).setCell ⟨BQ, 2, none⟩ (.int .i64 R)).setCell ⟨BQ, 3, none⟩ (.slice (some ⟨b2, 0, none⟩) (R * R) (R * R))) q2 (powTo P xs R (j + 1))) := has_set4 (HP.out.ext h8) (fun e => D2.out.2.2 e.symm) _ _ _ _
      have N6 : Hid (Has ((((w8.setCell ⟨BQ, 0, none⟩ (.int .i64 P)).setCell ⟨BQ, 1, none⟩ (.int .i64 R)).setCell ⟨BQ, 2, none⟩ (.int .i64 R)).setCell ⟨BQ, 3, none⟩ (.slice (some ⟨b2, 0, none⟩) (R * R) (R * R))) b2 (sumI P xs R (j + 1))) := has_set4 hk hne _ _ _ _
      have N7 := Lib.hid (ext4 (E.out.trans h8) (show w.heap.size ≤ BQ by have := HBB.out; omega) (.int .i64 P) (.int .i64 R) (.int .i64 R) (.slice (some ⟨b2, 0, none⟩) (R * R) (R * R)))
      have M2 := MS.out.ext h8
      clear lP p0 p1 p2 p3 lS s0 s1 s2 s3 MA MR MP MS HP HS E hq1 hq2 hk h8 hne f0 f1
      have lS := M2.1
      have s0 := M2.2 0 _ rfl
      have s1 := M2.2 1 _ rfl
      have s2 := M2.2 2 _ rfl
      have s3 := M2.2 3 _ rfl
      have tS := M2.3
      clear M2
      go_wp2
      exact ⟨⟨j + 1, q2, b2, Or.inl (by omega), by simp, rfl, N1, N2, N3, N4, N5, N6, N7, D2, D3⟩, by simp [intOf]; omega⟩
    · have HO : Hid (outL P xs R N = sumI P xs R j) := by
        rcases hj with h9 | h9
        · obtain rfl : N = j + 1 := by omega
          exact out_sum hp j
        · rcases Nat.eq_zero_or_pos N with h8 | h8
          · have h7 := HNONE.out h8
            exact ext_gi (by rw [outL_length, sumI_length]) (fun q hq => by rw [outL_length, h7] at hq; simp at hq)
          · obtain rfl : N = j + 1 := by omega
            exact out_sum hp j
      have hlt' : ¬ ((j : Int) + 1 < (N : Int)) := by omega
      have s0 := MS.out.2 0 _ rfl
      have s1 := MS.out.2 1 _ rfl
      have s2 := MS.out.2 2 _ rfl
      have s3 := MS.out.2 3 _ rfl
      have r0 := MR.out.2 0 _ rfl
      have r1 := MR.out.2 1 _ rfl
      have r2 := MR.out.2 2 _ rfl
      have r3 := MR.out.2 3 _ rfl
      have tR := MR.out.3
      have lR := MR.out.1
      have hbd := DS.out.1
      have hblt := HS.out.lt
      have HOL : Hid ((outL P xs R N).length = R * R) := outL_length N
      have HS9 : Hid (Has wr bs (outL P xs R N)) := by rw [HO.out]; exact HS.out
      clear hj HO HS lA a0' a1' a2' a3' lP
      go_wp2
      refine bodyPost_ret (v := .tuple #[.agg #[.int .i64 P, .int .i64 R, .int .i64 R, .slice (some ⟨bs, 0, none⟩) (R * R) (R * R)], .bool true]) (by simp [results, Try.results34, go_sem, r0, r1, r2, r3]) rfl ⟨_, rfl, ⟨_, _, _, rfl, ?_, by omega⟩, ext4 E.out (by omega) _ _ _ _⟩
      exact Own.mono (own4 (HS9.out.own (lo := w.heap.size + 1 + 1) (hi := wr.heap.size) (by omega) hblt HOL.out) (by omega) _ _ _ _) (by omega) (by simp)

set_option maxRecDepth 100000 in
set_option maxHeartbeats 6400000 in
theorem expMatrix_spec {P R C : Int} {a0 oa n : Nat} {xs : List Int} {w : World} {p r' c : Int} {d : List Int} {ok : Bool} (h : Reads w (some ⟨a0, oa, none⟩) n xs) (hm : n ≤ 1048576) (hM : expM P R C xs = (⟨p, r', c, d⟩, ok)) :
    Calls Try.prog 33 #[.agg #[.int .i64 P, .int .i64 R, .int .i64 C, .slice (some ⟨a0, oa, none⟩) n n]] w fun e w' => ∃ v, e = .returned (.tuple #[v, .bool ok]) ∧ Rmat w w' v p r' c d ∧ Ext w w' := by
  have HR := Lib.hid h
  obtain ⟨z, hz⟩ : ∃ z, nilM P R C xs = z := ⟨_, rfl⟩
  have HZ := Lib.hid hz
  have FAIL : ¬ (0 ≤ z ∧ z ≤ P) → p = 0 ∧ r' = 0 ∧ c = 0 ∧ d = [] ∧ ok = false := fun hn => by
    have hb : expB P R C xs = false := by
      simp only [expB, hz, Bool.and_eq_false_iff, decide_eq_false_iff_not]; omega
    simp only [expM, hb, noMat, Bool.false_eq_true, if_false, Prod.mk.injEq, Mat.mk.injEq] at hM
    obtain ⟨⟨rfl, rfl, rfl, rfl⟩, rfl⟩ := hM
    exact ⟨rfl, rfl, rfl, rfl, rfl⟩
  by_cases h0 : z < 0
  · obtain ⟨rfl, rfl, rfl, rfl, rfl⟩ := FAIL (by omega)
    clear FAIL hM h hz
    go_enter Try.func33, Try.ntmps33
    have A0_1 := Lib.hid ((cells_new' w #[.int .i64 P, .int .i64 R, .int .i64 C, .slice (some ⟨a0, oa, none⟩) n n] 36 (w.heap.size) (by simp)).ext ((Ext.refl _).alloc (.cells #[.int .i64 0, .int .i64 0, .int .i64 0, .slice none 0 0] 36)))
    have R_2 := Lib.hid (cells_new' (w.alloc (.cells #[.int .i64 P, .int .i64 R, .int .i64 C, .slice (some ⟨a0, oa, none⟩) n n] 36)) #[.int .i64 0, .int .i64 0, .int .i64 0, .slice none 0 0] 36 (w.heap.size + 1) (by simp))
    have E_3 := Lib.hid (((Ext.refl w).alloc (.cells #[.int .i64 P, .int .i64 R, .int .i64 C, .slice (some ⟨a0, oa, none⟩) n n] 36)).alloc (.cells #[.int .i64 0, .int .i64 0, .int .i64 0, .slice none 0 0] 36))
    have lA0 := A0_1.out.1
    have qA00 := A0_1.out.2 0 _ rfl
    have qA01 := A0_1.out.2 1 _ rfl
    have qA02 := A0_1.out.2 2 _ rfl
    have qA03 := A0_1.out.2 3 _ rfl
    try simp only [World.size_alloc] at lA0
    go_wp2_with fail
    refine (nilpotencyOf_spec (HR.out.ext E_3.out) hm HZ.out).mono ?_
    rintro e w_4 ⟨rfl, h_4⟩
    clear lA0 qA00 qA01 qA02 qA03
    have A0_5 := Lib.hid (A0_1.out.ext h_4)
    clear A0_1
    have R_6 := Lib.hid (R_2.out.ext h_4)
    clear R_2
    have E_7 := Lib.hid (E_3.out.trans h_4)
    clear E_3
    have lA0 := A0_5.out.1
    have qA00 := A0_5.out.2 0 _ rfl
    have qA01 := A0_5.out.2 1 _ rfl
    have qA02 := A0_5.out.2 2 _ rfl
    have qA03 := A0_5.out.2 3 _ rfl
    try simp only [World.size_alloc] at lA0
    have r0 := R_6.out.2 0 _ rfl
    have r1 := R_6.out.2 1 _ rfl
    have r2 := R_6.out.2 2 _ rfl
    have r3 := R_6.out.2 3 _ rfl
    have tR := R_6.out.3
    have lR := R_6.out.1
    go_wp2
    refine bodyPost_ret (v := .tuple #[.agg #[.int .i64 0, .int .i64 0, .int .i64 0, .slice none 0 0], .bool false]) (by simp [results, Try.results33, go_sem, r0, r1, r2, r3]) rfl ⟨_, rfl, ⟨_, _, _, rfl, own_nil _ _ _, by omega⟩, ext4 E_7.out (by omega) _ _ _ _⟩
  by_cases h1 : P < z
  · obtain ⟨rfl, rfl, rfl, rfl, rfl⟩ := FAIL (by omega)
    clear FAIL hM h hz
    go_enter Try.func33, Try.ntmps33
    have A0_1 := Lib.hid ((cells_new' w #[.int .i64 P, .int .i64 R, .int .i64 C, .slice (some ⟨a0, oa, none⟩) n n] 36 (w.heap.size) (by simp)).ext ((Ext.refl _).alloc (.cells #[.int .i64 0, .int .i64 0, .int .i64 0, .slice none 0 0] 36)))
    have R_2 := Lib.hid (cells_new' (w.alloc (.cells #[.int .i64 P, .int .i64 R, .int .i64 C, .slice (some ⟨a0, oa, none⟩) n n] 36)) #[.int .i64 0, .int .i64 0, .int .i64 0, .slice none 0 0] 36 (w.heap.size + 1) (by simp))
    have E_3 := Lib.hid (((Ext.refl w).alloc (.cells #[.int .i64 P, .int .i64 R, .int .i64 C, .slice (some ⟨a0, oa, none⟩) n n] 36)).alloc (.cells #[.int .i64 0, .int .i64 0, .int .i64 0, .slice none 0 0] 36))
    have lA0 := A0_1.out.1
    have qA00 := A0_1.out.2 0 _ rfl
    have qA01 := A0_1.out.2 1 _ rfl
    have qA02 := A0_1.out.2 2 _ rfl
    have qA03 := A0_1.out.2 3 _ rfl
    try simp only [World.size_alloc] at lA0
    go_wp2_with fail
    refine (nilpotencyOf_spec (HR.out.ext E_3.out) hm HZ.out).mono ?_
    rintro e w_4 ⟨rfl, h_4⟩
    clear lA0 qA00 qA01 qA02 qA03
    have A0_5 := Lib.hid (A0_1.out.ext h_4)
    clear A0_1
    have R_6 := Lib.hid (R_2.out.ext h_4)
    clear R_2
    have E_7 := Lib.hid (E_3.out.trans h_4)
    clear E_3
    have lA0 := A0_5.out.1
    have qA00 := A0_5.out.2 0 _ rfl
    have qA01 := A0_5.out.2 1 _ rfl
    have qA02 := A0_5.out.2 2 _ rfl
    have qA03 := A0_5.out.2 3 _ rfl
    try simp only [World.size_alloc] at lA0
    have r0 := R_6.out.2 0 _ rfl
    have r1 := R_6.out.2 1 _ rfl
    have r2 := R_6.out.2 2 _ rfl
    have r3 := R_6.out.2 3 _ rfl
    have tR := R_6.out.3
    have lR := R_6.out.1
    go_wp2
    refine bodyPost_ret (v := .tuple #[.agg #[.int .i64 0, .int .i64 0, .int .i64 0, .slice none 0 0], .bool false]) (by simp [results, Try.results33, go_sem, r0, r1, r2, r3]) rfl ⟨_, rfl, ⟨_, _, _, rfl, own_nil _ _ _, by omega⟩, ext4 E_7.out (by omega) _ _ _ _⟩
  clear FAIL
  obtain ⟨hmo, rfl, hzf⟩ := nil_parts (P := P) (R := R) (C := C) (xs := xs) (by omega)
  have hb : expB P R R xs = true := by
    simp only [expB, hz, Bool.and_eq_true, decide_eq_true_eq]; omega
  simp only [expM, hb, if_true, Prod.mk.injEq, Mat.mk.injEq] at hM
  obtain ⟨⟨rfl, rfl, rfl, rfl⟩, rfl⟩ := hM
  have hq1 := inB_iff.1 (mok_iff.1 hmo).2.1
  obtain ⟨R, rfl⟩ := Int.eq_ofNat_of_zero_le hq1.1
  have hpr := (mok_iff.1 hmo).1
  have HPR := Lib.hid hpr
  have hp := mok_lo hmo
  have hp2 := mok_hi hmo
  have hx := mok_res hmo
  have HX := Lib.hid hx
  have hR : R ≤ 40 := by omega
  have hl := mok_len hmo
  have hn : n = R * R := by rw [h.1, ← Int.natCast_mul] at hl; show n = R * R; omega
  have HN := Lib.hid hn
  have g40 := mul40 hR hR
  rw [hzf, Int.toNat_natCast] at hz
  have hle := nilF_le (P := P) (xs := xs) (K := R) _ 0 rfl
  have hnone := nilF_none (xs := xs) (K := R) hp
  rw [hzf, Int.toNat_natCast]
  rw [hz] at hle hnone ⊢
  obtain ⟨N, rfl⟩ := Int.eq_ofNat_of_zero_le (show 0 ≤ z by omega)
  rw [Int.toNat_natCast]
  have hNR : N ≤ R := by omega
  have HNONE : Hid (N = 0 → R = 0) := fun e => hnone (by omega)
  have hNP : (N : Int) ≤ P := by omega
  have HZR : Hid (∀ w1, Calls Try.prog 75 #[.int .i64 P, .int .i64 R, .int .i64 R] w1 fun e w' => ∃ b, e = .returned (.agg #[.int .i64 P, .int .i64 R, .int .i64 R, .slice (some ⟨b, 0, none⟩) (R * R) (R * R)]) ∧ w1.heap.size ≤ b ∧ b < w'.heap.size ∧ Has w' b (List.replicate (R * R) 0) ∧ Ext w1 w') := fun w1 => by
    have e9 : ((R : Int) * (R : Int)).toNat = R * R := by rw [← Int.natCast_mul, Int.toNat_natCast]
    have h9 := l1Zero_spec P R R w1 (by rw [← Int.natCast_mul]; omega) (by rw [← Int.natCast_mul]; omega)
    rw [e9] at h9
    exact h9
  clear hb hq1 hpr hmo hx hl hz hle hnone hzf h0 h1 h hn
  go_enter Try.func33, Try.ntmps33
  have A0_1 := Lib.hid ((cells_new' w #[.int .i64 P, .int .i64 R, .int .i64 R, .slice (some ⟨a0, oa, none⟩) n n] 36 (w.heap.size) (by simp)).ext ((Ext.refl _).alloc (.cells #[.int .i64 0, .int .i64 0, .int .i64 0, .slice none 0 0] 36)))
  have R_2 := Lib.hid (cells_new' (w.alloc (.cells #[.int .i64 P, .int .i64 R, .int .i64 R, .slice (some ⟨a0, oa, none⟩) n n] 36)) #[.int .i64 0, .int .i64 0, .int .i64 0, .slice none 0 0] 36 (w.heap.size + 1) (by simp))
  have E_3 := Lib.hid (((Ext.refl w).alloc (.cells #[.int .i64 P, .int .i64 R, .int .i64 R, .slice (some ⟨a0, oa, none⟩) n n] 36)).alloc (.cells #[.int .i64 0, .int .i64 0, .int .i64 0, .slice none 0 0] 36))
  have lA0 := A0_1.out.1
  have qA00 := A0_1.out.2 0 _ rfl
  have qA01 := A0_1.out.2 1 _ rfl
  have qA02 := A0_1.out.2 2 _ rfl
  have qA03 := A0_1.out.2 3 _ rfl
  try simp only [World.size_alloc] at lA0
  go_wp2_with fail
  refine (nilpotencyOf_spec (HR.out.ext E_3.out) hm HZ.out).mono ?_
  rintro e w_4 ⟨rfl, h_4⟩
  clear lA0 qA00 qA01 qA02 qA03
  have A0_5 := Lib.hid (A0_1.out.ext h_4)
  clear A0_1
  have R_6 := Lib.hid (R_2.out.ext h_4)
  clear R_2
  have E_7 := Lib.hid (E_3.out.trans h_4)
  clear E_3
  have hR0 := R_6.out.1
  have HR0 := Lib.hid hR0
  clear hR0
  have lA0 := A0_5.out.1
  have qA00 := A0_5.out.2 0 _ rfl
  have qA01 := A0_5.out.2 1 _ rfl
  have qA02 := A0_5.out.2 2 _ rfl
  have qA03 := A0_5.out.2 3 _ rfl
  try simp only [World.size_alloc] at lA0
  go_wp2_with fail
  refine (HZR.out _).mono ?_
  rintro e w_8 ⟨b, rfl, hb1, hb2, hh, h_8⟩
  clear lA0 qA00 qA01 qA02 qA03
  have A0_9 := Lib.hid (A0_5.out.ext h_8)
  clear A0_5
  have R_10 := Lib.hid (R_6.out.ext h_8)
  clear R_6
  have E_11 := Lib.hid (E_7.out.trans h_8)
  clear E_7
  have hD1 : w.heap.size + 1 < b := by have := HR0.out; omega
  have H0 : Hid (Has (w_8.alloc (.cells #[.int .i64 P, .int .i64 R, .int .i64 R, .slice (some ⟨b, 0, none⟩) (R * R) (R * R)] 36)) b (outL P xs R 0)) := hh.alloc _
  clear hh h_8
  have P_12 := (Ext.refl w_8).alloc (.cells #[.int .i64 P, .int .i64 R, .int .i64 R, .slice (some ⟨b, 0, none⟩) (R * R) (R * R)] 36)
  have A0_13 := Lib.hid (A0_9.out.ext P_12)
  clear A0_9
  have R_14 := Lib.hid (R_10.out.ext P_12)
  clear R_10
  have E_15 := Lib.hid (E_11.out.trans P_12)
  clear E_11
  clear P_12
  have PW_16 := Lib.hid (cells_new w_8 #[.int .i64 P, .int .i64 R, .int .i64 R, .slice (some ⟨b, 0, none⟩) (R * R) (R * R)] 36)
  have lA0 := A0_13.out.1
  have qA00 := A0_13.out.2 0 _ rfl
  have qA01 := A0_13.out.2 1 _ rfl
  have qA02 := A0_13.out.2 2 _ rfl
  have qA03 := A0_13.out.2 3 _ rfl
  try simp only [World.size_alloc] at lA0
  go_wp2_with fail
  refine (l1Unit_spec P R _ hR).mono ?_
  rintro e w_17 ⟨b2, rfl, hc1, hc2, hu, h_17⟩
  clear lA0 qA00 qA01 qA02 qA03
  have A0_18 := Lib.hid (A0_13.out.ext h_17)
  clear A0_13
  have R_19 := Lib.hid (R_14.out.ext h_17)
  clear R_14
  have PW_20 := Lib.hid (PW_16.out.ext h_17)
  clear PW_16
  have E_21 := Lib.hid (E_15.out.trans h_17)
  clear E_15
  have hw9 := h_17.le
  simp only [World.size_alloc] at hw9 hc1
  have H1 : Hid (Has (w_17.alloc (.cells #[.int .i64 P, .int .i64 R, .int .i64 R, .slice (some ⟨b2, 0, none⟩) (R * R) (R * R)] 36)) b (outL P xs R 0)) := (H0.out.ext h_17).alloc _
  have H2 : Hid (Has (w_17.alloc (.cells #[.int .i64 P, .int .i64 R, .int .i64 R, .slice (some ⟨b2, 0, none⟩) (R * R) (R * R)] 36)) b2 (trmL P xs R 0)) := hu.alloc _
  clear H0 hu h_17
  have P_22 := (Ext.refl w_17).alloc (.cells #[.int .i64 P, .int .i64 R, .int .i64 R, .slice (some ⟨b2, 0, none⟩) (R * R) (R * R)] 36)
  have A0_23 := Lib.hid (A0_18.out.ext P_22)
  clear A0_18
  have R_24 := Lib.hid (R_19.out.ext P_22)
  clear R_19
  have PW_25 := Lib.hid (PW_20.out.ext P_22)
  clear PW_20
  have E_26 := Lib.hid (E_21.out.trans P_22)
  clear E_21
  clear P_22
  have SM_27 := Lib.hid (cells_new w_17 #[.int .i64 P, .int .i64 R, .int .i64 R, .slice (some ⟨b2, 0, none⟩) (R * R) (R * R)] 36)
  go_wp2_with fail
  have hBP : w.heap.size + 1 < w_8.heap.size := by omega
  generalize (w_17.alloc (.cells #[.int .i64 P, .int .i64 R, .int .i64 R, .slice (some ⟨b2, 0, none⟩) (R * R) (R * R)] 36)) = W0 at *
  generalize w_8.heap.size = BP at *
  generalize w_17.heap.size = BQ at *
  have HD : Hid (DD w BP BQ b) := ⟨hD1, by omega, by omega⟩
  have HD2 : Hid (DD w BP BQ b2) := ⟨by omega, by omega, by omega⟩
  have HBB : Hid (w.heap.size + 1 < BP ∧ w.heap.size + 1 < BQ ∧ BP ≠ BQ) := ⟨hBP, by omega, by omega⟩
  clear hBP hD1 hb1 hb2 hc1 hc2 hw9
  go_loopw [7] (fun z wr => ∃ (j ps cp bs cb : Nat), j ≤ N ∧ z = .int .i64 ((j + 1 : Nat) : Int) ∧ Hid (Cells wr w.heap.size [.int .i64 P, .int .i64 R, .int .i64 R, .slice (some ⟨a0, oa, none⟩) n n]) ∧ Hid (Cells wr (w.heap.size + 1) [.int .i64 0, .int .i64 0, .int .i64 0, .slice none 0 0]) ∧ Hid (Cells wr BP [.int .i64 P, .int .i64 R, .int .i64 R, .slice (some ⟨ps, 0, none⟩) (R * R) cp]) ∧ Hid (Cells wr BQ [.int .i64 P, .int .i64 R, .int .i64 R, .slice (some ⟨bs, 0, none⟩) (R * R) cb]) ∧ Hid (Has wr ps (outL P xs R (j))) ∧ Hid (Has wr bs (trmL P xs R (j))) ∧ Hid (Ext w wr) ∧ Hid (DD w BP BQ ps) ∧ Hid (DD w BP BQ bs)) (fun z _ => N + 1 - (intOf z).toNat)
  case atStart => exact ⟨0, b, _, b2, _, by omega, rfl, A0_23, R_24, PW_25, SM_27, H1, H2, E_26, HD, HD2⟩
  case round =>
    clear A0_23 R_24 PW_25 SM_27 H1 H2 E_26 HD HD2
    obtain ⟨j, ps, cp, bs, cb, hj, rfl, MA, MR, MP, MS, HP, HS, E, DP, DS⟩ := hrel
    have lP := MP.out.1
    have lS := MS.out.1
    have p0 := MP.out.2 0 _ rfl
    have p1 := MP.out.2 1 _ rfl
    have p2 := MP.out.2 2 _ rfl
    have p3 := MP.out.2 3 _ rfl
    by_cases hlt : j < N
    · have s0 := MS.out.2 0 _ rfl
      have s1 := MS.out.2 1 _ rfl
      have s2 := MS.out.2 2 _ rfl
      have s3 := MS.out.2 3 _ rfl
      have hlt' : (j : Int) + 1 ≤ (N : Int) := by omega
      go_wp2_with fail
      refine (l1Add_spec P R R P R R ⟨ps, 0, none⟩ (R * R) cp (outL P xs R j) (some ⟨bs, 0, none⟩) cb (trmL P xs R j) _ (HP.out.reads (outL_length j)) (HS.out.reads (trmL_length j)) (by omega) hp hp2 (outL_res hp j) (trmL_res hp j)).mono ?_
      rintro e w5 ⟨q2, qc, rfl, hq1, hq2, hk, h5⟩
      have D2 : Hid (DD w BP BQ q2) := ⟨by have := HBB.out; omega, by omega, by omega⟩
      have hne : BP ≠ q2 := by omega
      have N1 := Lib.hid (cells_set4 (MA.out.ext h5) (show w.heap.size ≠ BP by have := HBB.out; omega) (.int .i64 P) (.int .i64 R) (.int .i64 R) (.slice (some ⟨q2, 0, none⟩) (R * R) qc))
      have N2 := Lib.hid (cells_set4 (MR.out.ext h5) (show w.heap.size + 1 ≠ BP by have := HBB.out; omega) (.int .i64 P) (.int .i64 R) (.int .i64 R) (.slice (some ⟨q2, 0, none⟩) (R * R) qc))
      have N3 := Lib.hid (early4 (lo := 0) (v0 := .int .i64 P) (v1 := .int .i64 R) (v2 := .int .i64 R) (v3 := .slice (some ⟨q2, 0, none⟩) (R * R) qc) (MP.out.ext h5))
      have N4 := Lib.hid (cells_set4 (MS.out.ext h5) (show BQ ≠ BP from fun e => HBB.out.2.2 e.symm) (.int .i64 P) (.int .i64 R) (.int .i64 R) (.slice (some ⟨q2, 0, none⟩) (R * R) qc))
      have N5 : Hid (Has ((((w5.setCell ⟨BP, 0, none⟩ (.int .i64 P)).setCell ⟨BP, 1, none⟩ (.int .i64 R)).setCell ⟨BP, 2, none⟩ (.int .i64 R)).setCell ⟨BP, 3, none⟩ (.slice (some ⟨q2, 0, none⟩) (R * R) qc)) q2 (outL P xs R (j + 1))) := has_set4 hk hne _ _ _ _
      have N6 : Hid (Has ((((w5.setCell ⟨BP, 0, none⟩ (.int .i64 P)).setCell ⟨BP, 1, none⟩ (.int .i64 R)).setCell ⟨BP, 2, none⟩ (.int .i64 R)).setCell ⟨BP, 3, none⟩ (.slice (some ⟨q2, 0, none⟩) (R * R) qc)) bs (trmL P xs R j)) := has_set4 (HS.out.ext h5) (fun e => DS.out.2.1 e.symm) _ _ _ _
      have N7 := Lib.hid (ext4 (E.out.trans h5) (show w.heap.size ≤ BP by have := HBB.out; omega) (.int .i64 P) (.int .i64 R) (.int .i64 R) (.slice (some ⟨q2, 0, none⟩) (R * R) qc))
      have M2 := MP.out.ext h5
      clear lP lS p0 p1 p2 p3 s0 s1 s2 s3 MA MR MP MS HP HS E hq1 hq2 hk h5 hne
      have lP := M2.1
      have p0 := M2.2 0 _ rfl
      have p1 := M2.2 1 _ rfl
      have p2 := M2.2 2 _ rfl
      have p3 := M2.2 3 _ rfl
      have tP := M2.3
      clear M2
      go_upto_region 10 with fail
      clear lP p0 p1 p2 p3 tP
      generalize (((w5.setCell ⟨BP, 0, none⟩ (.int .i64 P)).setCell ⟨BP, 1, none⟩ (.int .i64 R)).setCell ⟨BP, 2, none⟩ (.int .i64 R)).setCell ⟨BP, 3, none⟩ (.slice (some ⟨q2, 0, none⟩) (R * R) qc) = W6 at *
      have lA := N1.out.1
      have a0' := N1.out.2 0 _ rfl
      have a1' := N1.out.2 1 _ rfl
      have a2' := N1.out.2 2 _ rfl
      have a3' := N1.out.2 3 _ rfl
      have lS := N4.out.1
      have s0 := N4.out.2 0 _ rfl
      have s1 := N4.out.2 1 _ rfl
      have s2 := N4.out.2 2 _ rfl
      have s3 := N4.out.2 3 _ rfl
      have nA : w.heap.size ≠ BQ := by have := HBB.out; omega
      refine wp_region_held_drew (S := (fun w' => W6.grownBy w' (some BQ) ∧ ∀ B o, B ≠ BQ → B < W6.heap.size → w'.cell? ⟨B, o, none⟩ = W6.cell? ⟨B, o, none⟩)) (by kernel_rfl) keptB_drew (fun hHeld => ?_)
      refine wpAnyH_take (i := 1) (v := ?v1) rfl (by kernel_rfl) (by kernel_rfl) (by kernel_rfl) (fun _ _ _ h => h) (Or.inl ⟨by rfl, ?hy1⟩) hHeld ?rest1
      case hy1 => (intro wz hSw; (try dsimp only at hSw); go_simp; (try with_reducible rfl))
      (try simp only [Act.put, List.getElem_toArray, List.getElem_cons_succ, List.getElem_cons_zero]); (try simp only [List.setIfInBounds_toArray]); (try simp only [List.set_cons_succ]); (try simp only [List.set_cons_zero])
      refine wpAnyH_take (i := 3) (v := ?v2) rfl (by kernel_rfl) (by kernel_rfl) (by kernel_rfl) (fun _ _ _ h => h) (Or.inl ⟨by rfl, ?hy2⟩) hHeld ?rest2
      case hy2 => (intro wz hSw; (try dsimp only at hSw); go_simp; (try with_reducible rfl))
      (try simp only [Act.put, List.getElem_toArray, List.getElem_cons_succ, List.getElem_cons_zero]); (try simp only [List.setIfInBounds_toArray]); (try simp only [List.set_cons_succ]); (try simp only [List.set_cons_zero])
      refine wpAnyH_take (i := 4) (v := ?v3) rfl (by kernel_rfl) (by kernel_rfl) (by kernel_rfl) (fun _ _ _ h => h) (Or.inl ⟨by rfl, ?hy3⟩) hHeld ?rest3
      case hy3 => (intro wz hSw; (try dsimp only at hSw); go_simp; (try with_reducible rfl))
      (try simp only [Act.put, List.getElem_toArray, List.getElem_cons_succ, List.getElem_cons_zero]); (try simp only [List.setIfInBounds_toArray]); (try simp only [List.set_cons_succ]); (try simp only [List.set_cons_zero])
      refine wpAnyH_take (i := 5) (v := ?v4) rfl (by kernel_rfl) (by kernel_rfl) (by kernel_rfl) (fun _ _ _ h => h) (Or.inl ⟨by rfl, ?hy4⟩) hHeld ?rest4
      case hy4 => (intro wz hSw; (try dsimp only at hSw); go_simp; (try with_reducible rfl))
      (try simp only [Act.put, List.getElem_toArray, List.getElem_cons_succ, List.getElem_cons_zero]); (try simp only [List.setIfInBounds_toArray]); (try simp only [List.set_cons_succ]); (try simp only [List.set_cons_zero])
      refine wpAnyH_ready (rs := [0]) (by kernel_rfl) (by simp) ?_
      refine AllReadyH.cons rfl (fun K' hK => ?_) AllReadyH.nil
      go_simp
      refine hK.out _ _ hHeld (fun hHeld => ?_)
      clear hK
      refine wpAnyH_ready (rs := [2]) (by kernel_rfl) (by simp) ?_
      refine AllReadyH.cons rfl (fun K' hK => ?_) AllReadyH.nil
      go_simp
      refine (l1Mul_spec P R R R (some ⟨bs, 0, none⟩) (some ⟨a0, oa, none⟩) (R * R) cb n n (trmL P xs R j) xs _ ((N6.out.ext (Ext.refl _).drew).reads (trmL_length j)) (HR.out.ext (N7.out.trans (Ext.refl _).drew)) rfl HN.out hR hR hR hp hp2 (trmL_res hp j) HX.out).mono ?_
      rintro e w7 ⟨b7, rfl, hb7, hb7', k7, h7⟩
      dsimp only
      refine hK.out _ _ (keptB_call hHeld h7) (fun hHeld => ?_)
      clear hK
      refine wpAnyH_ready (rs := [6]) (by kernel_rfl) (by simp) ?_
      refine AllReadyH.cons rfl (fun K' hK => ?_) AllReadyH.nil
      go_simp
      refine (inverseOf_spec _ _ _).mono ?_
      rintro e wz ⟨rfl, rfl⟩
      dsimp only
      refine hK.out _ _ hHeld (fun hHeld => ?_)
      clear hK
      refine wpAnyH_ready (rs := [7]) (by kernel_rfl) (by simp) ?_
      refine AllReadyH.cons rfl (fun K' hK => ?_) AllReadyH.nil
      go_simp
      refine (l1Scale_spec P R R _ ⟨b7, 0, none⟩ (R * R) (R * R) (mulTo P (trmL P xs R j) xs R R R R) _ (k7.reads (mulTo_length _ _ _ _ _ _ _)) (by omega) hp hp2 (mulTo_res _ (by omega) _ _ _ _ _ _)).mono ?_
      rintro e w8 ⟨b8, c8, rfl, hb8, hb8', k8, h8⟩
      dsimp only
      refine hK.out _ _ (keptB_call hHeld h8) (fun hHeld => ?_)
      clear hK
      have EW := Lib.hid (((Ext.refl W6).drew.trans h7).trans h8)
      have sz9 := EW.out.le
      have sz8 := ((Ext.refl W6).drew.trans h7).le
      have M8 := N4.out.ext EW.out
      have y0 := M8.2 0 _ rfl
      have y1 := M8.2 1 _ rfl
      have y2 := M8.2 2 _ rfl
      have y3 := M8.2 3 _ rfl
      have ty := M8.3
      have ly := M8.1
      clear M8
      refine wpAnyH_ready (rs := [8]) (by kernel_rfl) (by simp) ?_
      refine AllReadyH.cons rfl (fun K' hK => ?_) AllReadyH.nil
      go_simp
      refine hK.out _ _ (keptB_set4 hHeld _ _ _ _) (fun hHeld => ?_)
      clear hK
      refine wpAnyH_done (by kernel_rfl) ?_ _
      have lW := N3.out.1
      have D3 : Hid (DD w BP BQ b8) := ⟨by have := HBB.out; omega, by omega, by omega⟩
      have hne : BQ ≠ b8 := by omega
      have HTS : Hid (scaleL P (invM ((j : Int) + 1) P % P) (mulTo P (trmL P xs R j) xs R R R R) = trmL P xs R (j + 1)) := by rw [Hid, trmL]; simp
      have K1 := Lib.hid (cells_set4 (N1.out.ext EW.out) (show w.heap.size ≠ BQ by have := HBB.out; omega) (.int .i64 P) (.int .i64 R) (.int .i64 R) (.slice (some ⟨b8, 0, none⟩) (R * R) c8))
      have K2 := Lib.hid (cells_set4 (N2.out.ext EW.out) (show w.heap.size + 1 ≠ BQ by have := HBB.out; omega) (.int .i64 P) (.int .i64 R) (.int .i64 R) (.slice (some ⟨b8, 0, none⟩) (R * R) c8))
      have K3 := Lib.hid (cells_set4 (N3.out.ext EW.out) HBB.out.2.2 (.int .i64 P) (.int .i64 R) (.int .i64 R) (.slice (some ⟨b8, 0, none⟩) (R * R) c8))
      have K4 := Lib.hid (early4 (lo := 0) (v0 := .int .i64 P) (v1 := .int .i64 R) (v2 := .int .i64 R) (v3 := .slice (some ⟨b8, 0, none⟩) (R * R) c8) (N4.out.ext EW.out))
      have K5 : Hid (Has ((((w8.setCell ⟨BQ, 0, none⟩ (.int .i64 P)).setCell ⟨BQ, 1, none⟩ (.int .i64 R)).setCell ⟨BQ, 2, none⟩ (.int .i64 R)).setCell ⟨BQ, 3, none⟩ (.slice (some ⟨b8, 0, none⟩) (R * R) c8)) q2 (outL P xs R (j + 1))) := has_set4 (N5.out.ext EW.out) (fun e => D2.out.2.2 e.symm) _ _ _ _
      have K6 : Hid (Has ((((w8.setCell ⟨BQ, 0, none⟩ (.int .i64 P)).setCell ⟨BQ, 1, none⟩ (.int .i64 R)).setCell ⟨BQ, 2, none⟩ (.int .i64 R)).setCell ⟨BQ, 3, none⟩ (.slice (some ⟨b8, 0, none⟩) (R * R) c8)) b8 (trmL P xs R (j + 1))) := by rw [← HTS.out]; exact has_set4 k8 hne _ _ _ _
      have K7 := Lib.hid (ext4 (N7.out.trans EW.out) (show w.heap.size ≤ BQ by have := HBB.out; omega) (.int .i64 P) (.int .i64 R) (.int .i64 R) (.slice (some ⟨b8, 0, none⟩) (R * R) c8))
      clear hHeld N1 N2 N3 N4 N5 N6 N7 EW k7 k8 h7 h8 y0 y1 y2 y3 ty ly lA a0' a1' a2' a3' lS s0 s1 s2 s3 nA hne HTS lW hb7 hb7' hb8 hb8' sz8 sz9
      go_wp2
      exact ⟨⟨j + 1, q2, qc, b8, c8, by omega, by simp, K1, K2, K3, K4, K5, K6, K7, D2, D3⟩, by simp [intOf]; omega⟩
    · obtain rfl : N = j := by omega
      have hlt' : ¬ ((N : Int) + 1 ≤ (N : Int)) := by omega
      have r0 := MR.out.2 0 _ rfl
      have r1 := MR.out.2 1 _ rfl
      have r2 := MR.out.2 2 _ rfl
      have r3 := MR.out.2 3 _ rfl
      have tR := MR.out.3
      have lR := MR.out.1
      have hbd := DP.out.1
      have hblt := HP.out.lt
      have HOL : Hid ((outL P xs R N).length = R * R) := outL_length N
      clear hj lS
      go_wp2
      refine bodyPost_ret (v := .tuple #[.agg #[.int .i64 P, .int .i64 R, .int .i64 R, .slice (some ⟨ps, 0, none⟩) (R * R) cp], .bool true]) (by simp [results, Try.results33, go_sem, r0, r1, r2, r3]) rfl ⟨_, rfl, ⟨_, _, _, rfl, ?_, by omega⟩, ext4 E.out (by omega) _ _ _ _⟩
      exact Own.mono (own4 (HP.out.own (lo := w.heap.size + 1 + 1) (hi := wr.heap.size) (by omega) hblt HOL.out) (by omega) _ _ _ _) (by omega) (by simp)
end Go.Proofs.Ytgmipolgnpjmnaa
