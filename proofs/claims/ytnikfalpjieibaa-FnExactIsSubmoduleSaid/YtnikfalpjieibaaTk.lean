/-
  Remainders by a space; matrices whose rows span the same; blocks. Plain mathematics.
-/
import Derived.Test.YtnikfalpjieibaaRs
import Derived.Test.YtnikfalpjieibaaJn
import Derived.Test.YtnikfalpjieibaaRi
import Derived.Test.YtnikfalpjieibaaSp
import Derived.Test.YtnikfalpjieibaaCs
import Derived.Test.YtnikfalpjieibaaPrI0
namespace Go.Proofs.Ytnikfalpjieibaa
set_option linter.unusedVariables false

/-- What is left in column c of row i behind k rows of a space. -/
def rmN (P : Int) (C : Nat) (ss xs : List Int) (pv : List Nat) (i c k : Nat) : Int := (at2 C xs i c - sumN k fun t => at2 C xs i (pv.getD t 0) * at2 C ss t c) % P
/-- How many rows of the space row a is behind, where row i is at work. -/
def rmK (n i r a : Nat) : Nat := if a < i then n else if a = i then r else 0
def rmAt (P : Int) (R C : Nat) (ss xs : List Int) (pv : List Nat) (i r : Nat) : List Int := mkL R C fun a c => rmN P C ss xs pv a c (rmK pv.length i r a)
section
variable {P : Int} {R C : Nat} {ss xs : List Int} {pv : List Nat}
theorem rmAt_length (i r : Nat) : (rmAt P R C ss xs pv i r).length = R * C := mkL_length _ _ _
theorem at2_rmAt (i r : Nat) {a c : Nat} (ha : a < R) (hc : c < C) : at2 C (rmAt P R C ss xs pv i r) a c = rmN P C ss xs pv a c (rmK pv.length i r a) := at2_mkL _ ha hc
theorem rmN_res (hP : 0 < P) (i c k : Nat) : 0 ≤ rmN P C ss xs pv i c k ∧ rmN P C ss xs pv i c k < P := ⟨Int.emod_nonneg _ (by omega), Int.emod_lt_of_pos _ hP⟩
theorem mkL_res {f : Nat → Nat → Int} (h : ∀ a c, 0 ≤ f a c ∧ f a c < P) : Res (mkL R C f) P := fun j hj => by
  rw [mkL_length] at hj
  have : gi (mkL R C f) j = f (j / C) (j % C) := by simp [gi, mkL, hj]
  rw [this]; exact h _ _
theorem rmAt_res (hP : 0 < P) (i r : Nat) : Res (rmAt P R C ss xs pv i r) P := mkL_res (fun a c => rmN_res hP _ _ _)
theorem ext_at2 {a b : List Int} (ha : a.length = R * C) (hb : b.length = R * C) (h : ∀ i, i < R → ∀ c, c < C → at2 C a i c = at2 C b i c) : a = b := by
  refine ext_gi (by rw [ha, hb]) (fun q hq => ?_)
  rw [ha] at hq
  have hC : 0 < C := by
    rcases Nat.eq_zero_or_pos C with e | e
    · subst e; simp at hq
    · exact e
  have e : q = q / C * C + q % C := by rw [Nat.mul_comm]; exact (Nat.div_add_mod q C).symm
  rw [e]
  exact h _ (Nat.div_lt_of_lt_mul (by rw [Nat.mul_comm]; exact hq)) _ (Nat.mod_lt _ hC)
theorem at2_rs (hx : Res xs P) (hl : xs.length = R * C) {i c : Nat} (hi : i < R) (hc : c < C) : 0 ≤ at2 C xs i c ∧ at2 C xs i c < P := hx _ (by rw [hl]; have := row_lt (C := C) hi; omega)
theorem rmN_zero (hx : Res xs P) (hl : xs.length = R * C) {i c : Nat} (hi : i < R) (hc : c < C) : rmN P C ss xs pv i c 0 = at2 C xs i c := by
  have h := at2_rs hx hl hi hc
  rw [rmN, sumN, Int.sub_zero]
  exact Int.emod_eq_of_lt h.1 h.2
theorem rmAt_zero (hx : Res xs P) (hl : xs.length = R * C) : rmAt P R C ss xs pv 0 0 = xs := by
  refine ext_at2 (rmAt_length _ _) hl (fun i hi c hc => ?_)
  rw [at2_rmAt _ _ hi hc]
  have : rmK pv.length 0 0 i = 0 := by unfold rmK; rw [if_neg (by omega)]; split <;> rfl
  rw [this]; exact rmN_zero hx hl hi hc
theorem rmAt_row (i : Nat) : rmAt P R C ss xs pv i pv.length = rmAt P R C ss xs pv (i + 1) 0 := by
  refine ext_at2 (rmAt_length _ _) (rmAt_length _ _) (fun a ha c hc => ?_)
  rw [at2_rmAt _ _ ha hc, at2_rmAt _ _ ha hc]
  congr 1
  unfold rmK
  by_cases h1 : a < i
  · rw [if_pos h1, if_pos (by omega)]
  · rw [if_neg h1]
    by_cases h2 : a = i
    · rw [if_pos h2, if_pos (by omega)]
    · rw [if_neg h2, if_neg (by omega)]; split <;> rfl
/-- In the column of the next pivot the row is still as it was. -/
theorem rmN_pivot (hx : Res xs P) (hl : xs.length = R * C) {i : Nat} (hi : i < R) {r : Nat} (hz : ∀ t, t < r → at2 C ss t (pv.getD r 0) = 0) (hc : pv.getD r 0 < C) : rmN P C ss xs pv i (pv.getD r 0) r = at2 C xs i (pv.getD r 0) := by
  have h := at2_rs hx hl hi hc
  have : sumN r (fun t => at2 C xs i (pv.getD t 0) * at2 C ss t (pv.getD r 0)) = 0 := by
    rw [← sumN_zero r]
    exact sumN_congr (fun t ht => by rw [hz t ht, Int.mul_zero])
  rw [rmN, this, Int.sub_zero]
  exact Int.emod_eq_of_lt h.1 h.2
theorem rmN_step {i c r : Nat} : (rmN P C ss xs pv i c r + -at2 C xs i (pv.getD r 0) % P * at2 C ss r c) % P = rmN P C ss xs pv i c (r + 1) := by
  simp only [rmN, sumN]
  generalize sumN r (fun t => at2 C xs i (pv.getD t 0) * at2 C ss t c) = s
  rw [Int.add_emod, Int.emod_emod_of_dvd _ (Int.dvd_refl P), Int.mul_emod, Int.emod_emod_of_dvd _ (Int.dvd_refl P), ← Int.mul_emod, ← Int.add_emod]
  congr 1
  rw [Int.neg_mul]; omega
theorem at2_axL {k : Int} {ys l : List Int} {i r : Nat} (hl : l.length = R * C) (hi : i < R) {a c : Nat} (ha : a < R) (hc : c < C) :
    at2 C (axL P k ys (i * C) (r * C) C l) a c = if a = i ∧ k ≠ 0 then (at2 C l a c + k * at2 C ys r c) % P else at2 C l a c := by
  have h1 := row_lt (C := C) hi
  unfold axL
  by_cases hk : k = 0
  · rw [if_pos hk, if_neg (by simp [hk])]
  · rw [if_neg hk]
    by_cases e : a = i
    · subst e
      rw [if_pos ⟨rfl, hk⟩]
      exact gi_axTo_in P k (a * C) (r * C) C l ys (by rw [hl]; omega) c C hc (Nat.le_refl _)
    · rw [if_neg (by simp [e])]
      have h2 := row_lt (C := C) ha
      refine gi_axTo_out P k ys (i * C) (r * C) C l (by rw [hl]; omega) _ ?_ C (Nat.le_refl _)
      rcases Nat.lt_or_gt_of_ne e with h | h
      · have := Nat.mul_le_mul_right C (show a + 1 ≤ i from h); rw [Nat.add_mul] at this; omega
      · have := Nat.mul_le_mul_right C (show i + 1 ≤ a from h); rw [Nat.add_mul] at this; omega
theorem rmAt_step (hP : 0 < P) (hx : Res xs P) (hl : xs.length = R * C) {i r : Nat} (hi : i < R) (hz : ∀ t, t < r → at2 C ss t (pv.getD r 0) = 0) (hc : pv.getD r 0 < C) :
    axL P (-(gi (rmAt P R C ss xs pv i r) (i * C + pv.getD r 0)) % P) ss (i * C) (r * C) C (rmAt P R C ss xs pv i r) = rmAt P R C ss xs pv i (r + 1) := by
  have e : gi (rmAt P R C ss xs pv i r) (i * C + pv.getD r 0) = at2 C xs i (pv.getD r 0) := by
    have := at2_rmAt (P := P) (ss := ss) (xs := xs) (pv := pv) i r hi hc
    rw [show rmK pv.length i r i = r by simp [rmK], rmN_pivot hx hl hi hz hc] at this
    exact this
  rw [e]
  refine ext_at2 (by rw [axL_length, rmAt_length]) (rmAt_length _ _) (fun a ha c hc' => ?_)
  rw [at2_axL (rmAt_length _ _) hi ha hc', at2_rmAt _ _ ha hc', at2_rmAt _ _ ha hc']
  by_cases ea : a = i
  · subst ea
    have k1 : rmK pv.length a r a = r := by simp [rmK]
    have k2 : rmK pv.length a (r + 1) a = r + 1 := by simp [rmK]
    rw [k1, k2, ← rmN_step]
    by_cases h0 : -at2 C xs a (pv.getD r 0) % P = 0
    · rw [if_neg (fun h => h.2 h0), h0, Int.zero_mul, Int.add_zero]
      exact (Int.emod_eq_of_lt (rmN_res hP _ _ _).1 (rmN_res hP _ _ _).2).symm
    · rw [if_pos ⟨rfl, h0⟩]
  · rw [if_neg (by simp [ea])]
    unfold rmK
    simp [ea]
/-- All rows behind the whole space. -/
def rmL (P : Int) (R C : Nat) (ss xs : List Int) (pv : List Nat) : List Int := rmAt P R C ss xs pv R 0
theorem rmL_length : (rmL P R C ss xs pv).length = R * C := rmAt_length _ _
theorem rmL_res (hP : 0 < P) : Res (rmL P R C ss xs pv) P := rmAt_res hP _ _
theorem at2_rmL {a c : Nat} (ha : a < R) (hc : c < C) : at2 C (rmL P R C ss xs pv) a c = rmN P C ss xs pv a c pv.length := by
  rw [rmL, at2_rmAt _ _ ha hc, show rmK pv.length R 0 a = pv.length by simp [rmK, ha]]
/-- Nothing is left of the elements of the space, and of these alone. -/
theorem rm_iff (hr : Rref P C (at2 C ss) pv) (hP : 0 < P) {i : Nat} : (∀ c, c < C → rmN P C ss xs pv i c pv.length = 0) ↔ InSp P pv.length C (at2 C ss) (at2 C xs i) := by
  have key : ∀ c, rmN P C ss xs pv i c pv.length = 0 ↔ Eqm P (at2 C xs i c) (sumN pv.length fun t => at2 C xs i (pv.getD t 0) * at2 C ss t c) := fun c => by
    unfold rmN Eqm
    generalize sumN pv.length (fun t => at2 C xs i (pv.getD t 0) * at2 C ss t c) = s
    constructor
    · intro h
      obtain ⟨t, ht⟩ := Int.dvd_of_emod_eq_zero h
      exact ⟨t, by omega⟩
    · rintro ⟨t, ht⟩
      exact Int.emod_eq_zero_of_dvd ⟨t, by omega⟩
  constructor
  · intro h
    exact ⟨fun t => at2 C xs i (pv.getD t 0), fun c hc => (key c).1 (h c hc)⟩
  · intro h c hc
    exact (key c).2 (hr.coords h c hc)
end
/-! Matrices whose rows span the same: the same spans, kernels, and parts of other spaces. -/
theorem in_same {P : Int} {k C R R' : Nat} {M N S : Nat → Nat → Int} (h : SameSp P C R M R' N) : (∀ i, i < R → InSp P k C S (M i)) ↔ (∀ i, i < R' → InSp P k C S (N i)) :=
  ⟨fun h1 i hi => (h.2 i hi).trans h1, fun h1 i hi => (h.1 i hi).trans h1⟩
theorem span_same {P : Int} {R R' C : Nat} {xs ys : List Int} (hp : IsP P) (hl : xs.length = R * C) (hx : Res xs P) (hl' : ys.length = R' * C) (hy : Res ys P) (h : SameSp P C R (at2 C xs) R' (at2 C ys)) :
    (redM P R C xs).pv = (redM P R' C ys).pv ∧ spanL P R C xs = spanL P R' C ys := by
  have h1 := spanL_rref hp hl hx
  have h2 := spanL_rref hp hl' hy
  have h3 := h1.unique h2 hp.1 (((spanL_same hp hl hx).symm.trans h).trans (spanL_same hp hl' hy))
  refine ⟨h3.1, ext_at2 (spanL_length hl) ?_ h3.2⟩
  rw [h3.1]; exact spanL_length hl'
theorem kerL_same {P : Int} {R R' C : Nat} {xs ys : List Int} (hp : IsP P) (hl : xs.length = R * C) (hx : Res xs P) (hl' : ys.length = R' * C) (hy : Res ys P) (h : SameSp P C R (at2 C xs) R' (at2 C ys)) :
    kerL P R C xs = kerL P R' C ys ∧ nullN P R C xs = nullN P R' C ys := by
  have h1 := kerL_span hp hl hx
  have h2 := kerL_span hp hl' hy
  obtain ⟨e1, e2⟩ := span_same hp hl hx hl' hy h
  rw [← h1.1, ← h2.1, ← h1.2, ← h2.2, e1, e2]
  exact ⟨rfl, rfl⟩
theorem mem_freeTo {pv : List Nat} {n c : Nat} : c ∈ freeTo pv n ↔ c < n ∧ c ∉ pv := by
  induction n with
  | zero => simp [freeTo]
  | succ n ih =>
    rw [freeTo]
    split
    · rename_i h
      rw [ih]
      constructor
      · rintro ⟨h1, h2⟩; exact ⟨by omega, h2⟩
      · rintro ⟨h1, h2⟩
        refine ⟨?_, h2⟩
        rcases Nat.lt_or_ge c n with h3 | h3
        · exact h3
        · exact absurd (by have : c = n := by omega
                           rw [this]; exact h) h2
    · rename_i h
      rw [List.mem_append, ih, List.mem_singleton]
      constructor
      · rintro (⟨h1, h2⟩ | rfl)
        · exact ⟨by omega, h2⟩
        · exact ⟨by omega, h⟩
      · rintro ⟨h1, h2⟩
        rcases Nat.lt_or_ge c n with h3 | h3
        · exact Or.inl ⟨h3, h2⟩
        · exact Or.inr (by omega)
/-! Blocks of one length, one behind the other. -/
def bk (f : Nat → List Int) (k : Nat) : List Int := ((List.range k).map f).flatten
section
variable {f : Nat → List Int} {m n : Nat}
theorem bk_zero : bk f 0 = [] := rfl
theorem bk_succ (k : Nat) : bk f (k + 1) = bk f k ++ f k := by simp [bk, List.range_succ]
theorem bk_length (h : ∀ i, i < n → (f i).length = m) (k : Nat) (hk : k ≤ n) : (bk f k).length = k * m := by
  induction k with
  | zero => simp [bk]
  | succ k ih => rw [bk_succ, List.length_append, ih (by omega), h k (by omega), Nat.add_mul, Nat.one_mul]
theorem gi_bk (h : ∀ i, i < n → (f i).length = m) (k : Nat) (hk : k ≤ n) {i q : Nat} (hi : i < k) (hq : q < m) : gi (bk f k) (i * m + q) = gi (f i) q := by
  induction k with
  | zero => omega
  | succ k ih =>
    rw [bk_succ]
    have hl := bk_length h k (by omega)
    by_cases e : i = k
    · subst e
      rw [gi_append_r (by omega), hl, Nat.add_sub_cancel_left]
    · have := row_lt (C := m) (show i < k by omega)
      rw [gi_append_l (by omega)]
      exact ih (by omega) (by omega)
theorem bk_res {P : Int} (h : ∀ i, i < n → Res (f i) P) (k : Nat) (hk : k ≤ n) : Res (bk f k) P := by
  induction k with
  | zero => exact fun j hj => absurd hj (by simp [bk])
  | succ k ih => rw [bk_succ]; exact res_append (ih (by omega)) (h k (by omega))
def bkAt (f : Nat → List Int) (n m k : Nat) : List Int := bk f k ++ List.replicate ((n - k) * m) 0
theorem bkAt_zero : bkAt f n m 0 = List.replicate (n * m) 0 := by simp [bkAt, bk]
theorem bkAt_end : bkAt f n m n = bk f n := by simp [bkAt]
theorem bkAt_length (h : ∀ i, i < n → (f i).length = m) (k : Nat) (hk : k ≤ n) : (bkAt f n m k).length = n * m := by
  rw [bkAt, List.length_append, bk_length h k hk, List.length_replicate, ← Nat.add_mul]; congr 1; omega
end
theorem bkAt_step {f : Nat → List Int} {m n k : Nat} (h : ∀ i, i < n → (f i).length = m) (hk : k < n) : spl (bkAt f n m k) (k * m) (f k) = bkAt f n m (k + 1) := by
  have e : n - k = (n - (k + 1)) + 1 := by omega
  rw [bkAt, spl_at _ _ _ _ (bk_length h k (by omega)), h k hk, List.drop_replicate, bkAt, bk_succ, List.append_assoc, e, Nat.add_mul, Nat.one_mul, Nat.add_sub_cancel]
end Go.Proofs.Ytnikfalpjieibaa

/-
  Remainders by a space, in the program.
-/
namespace Go.Proofs.Ytnikfalpjieibaa
open Go.ChangeShapes Go.WideShapes Go.ChangeAt Go.RowKit
set_option linter.unusedVariables false
set_option linter.unusedSimpArgs false

theorem spaceM_parts {P : Int} {k C : Nat} {ss : List Int} (h : spaceM P k C ss = true) : isP P = true ∧ IsSp P k C ss ∧ Res ss P ∧ ss.length = k * C ∧ k ≤ 40 ∧ C ≤ 40 := by
  simp only [spaceM, Bool.and_eq_true, Int.toNat_natCast, spB, decide_eq_true_eq] at h
  have hmo := h.1
  have hq1 := inB_iff.1 (mok_iff.1 hmo).2.1
  have hq2 := inB_iff.1 (mok_iff.1 hmo).2.2.1
  have hl := mok_len hmo
  rw [← Int.natCast_mul] at hl
  exact ⟨(mok_iff.1 hmo).1, h.2, mok_res hmo, by omega, by omega, by omega⟩

set_option maxRecDepth 100000 in
set_option maxHeartbeats 6400000 in
theorem remainders_impl (P : Int) (R C k n n1 c s0 so : Nat) (a : Option Addr) (xs ss : List Int) (w : World) (hr : Reads w a n xs) (hn : n = R * C) (hb : n ≤ 1048576) (hR : R ≤ 1048576) (hS : Reads w (some ⟨s0, so, none⟩) n1 ss) (hsp : spaceM P k C ss = true) (hx : Res xs P) :
    Calls Try.prog 136 #[.agg #[.int .i64 P, .int .i64 R, .int .i64 C, .slice a n c], .agg #[.int .i64 P, .int .i64 k, .int .i64 C, .slice (some ⟨s0, so, none⟩) n1 n1]] w fun e w' => ∃ b, e = .returned (.agg #[.int .i64 P, .int .i64 R, .int .i64 C, .slice (some ⟨b, 0, none⟩) n n]) ∧ w.heap.size ≤ b ∧ b < w'.heap.size ∧ Has w' b (rmL P R C ss xs (redM P k C ss).pv) ∧ Ext w w' := by
  obtain ⟨hpr, hs, hxs, hls, hk, hC⟩ := spaceM_parts hsp
  have hip := isP_iff.1 hpr
  have hp := isP_lo hpr
  have hp2 := isP_hi hpr
  have hrr := hs.rref hip hls hxs
  have hpl : (redM P k C ss).pv.length = k := hs.1
  have hn1 : n1 = k * C := by rw [← hS.1]; exact hls
  have hb1 : n1 ≤ 1048576 := by rw [hn1]; exact Nat.le_trans (Nat.mul_le_mul hk hC) (by decide)
  have HPV := Lib.hid (leads_pv hip hls hxs hs)
  have HR := Lib.hid hr
  have HN := Lib.hid hn
  have HSR := Lib.hid hS
  have HN1 := Lib.hid hn1
  have H1 := Lib.hid hsp
  have HXS := Lib.hid hxs
  generalize (redM P k C ss).pv = pv at *
  have HPL := Lib.hid hpl
  have HPC : Hid (∀ r, r < k → pv.getD r 0 < C) := fun r h => hrr.lt r (by rw [hpl]; exact h)
  have hlx : xs.length = R * C := by rw [hr.1]; exact hn
  have HF0 : Hid (rmAt P R C ss xs pv 0 0 = xs) := rmAt_zero hx hlx
  have HFW : Hid (∀ i, rmAt P R C ss xs pv i k = rmAt P R C ss xs pv (i + 1) 0) := fun i => by
    have := rmAt_row (P := P) (R := R) (C := C) (ss := ss) (xs := xs) (pv := pv) i
    rwa [hpl] at this
  have HFS : Hid (∀ i r, i < R → r < k → axL P (-(gi (rmAt P R C ss xs pv i r) (i * C + pv.getD r 0)) % P) ss (i * C) (r * C) C (rmAt P R C ss xs pv i r) = rmAt P R C ss xs pv i (r + 1)) := fun i r hi h =>
    rmAt_step (by omega) hx hlx hi (fun t ht => hrr.only r t (by omega) (by omega) (by omega)) (hrr.lt r (by omega))
  have HFL : Hid (∀ i r, (rmAt P R C ss xs pv i r).length = n) := fun i r => by rw [rmAt_length, hn]
  have HFR : Hid (∀ i r, Res (rmAt P R C ss xs pv i r) P) := fun i r => rmAt_res (by omega) i r
  have HFE : Hid (rmL P R C ss xs pv = rmAt P R C ss xs pv R 0) := rfl
  generalize rmL P R C ss xs pv = RM at HFE ⊢
  generalize rmAt P R C ss xs pv = F at *
  clear hr hn hS hn1 hsp hx hxs hls hlx hrr hpl hs hpr hip
  go_enter Try.func136, Try.ntmps136
  have A0_1 := Lib.hid (((cells_new' w #[.int .i64 P, .int .i64 R, .int .i64 C, .slice a n c] 37 (w.heap.size) (by simp)).ext ((Ext.refl _).alloc (.cells #[.int .i64 P, .int .i64 k, .int .i64 C, .slice (some ⟨s0, so, none⟩) n1 n1] 37))).ext ((Ext.refl _).alloc (.cells #[.int .i64 0, .int .i64 0, .int .i64 0, .slice none 0 0] 37)))
  have A1_2 := Lib.hid ((cells_new' (w.alloc (.cells #[.int .i64 P, .int .i64 R, .int .i64 C, .slice a n c] 37)) #[.int .i64 P, .int .i64 k, .int .i64 C, .slice (some ⟨s0, so, none⟩) n1 n1] 37 (w.heap.size + 1) (by simp)).ext ((Ext.refl _).alloc (.cells #[.int .i64 0, .int .i64 0, .int .i64 0, .slice none 0 0] 37)))
  have R_3 := Lib.hid (cells_new' ((w.alloc (.cells #[.int .i64 P, .int .i64 R, .int .i64 C, .slice a n c] 37)).alloc (.cells #[.int .i64 P, .int .i64 k, .int .i64 C, .slice (some ⟨s0, so, none⟩) n1 n1] 37)) #[.int .i64 0, .int .i64 0, .int .i64 0, .slice none 0 0] 37 (w.heap.size + 1 + 1) (by simp))
  have E_4 := Lib.hid ((((Ext.refl w).alloc (.cells #[.int .i64 P, .int .i64 R, .int .i64 C, .slice a n c] 37)).alloc (.cells #[.int .i64 P, .int .i64 k, .int .i64 C, .slice (some ⟨s0, so, none⟩) n1 n1] 37)).alloc (.cells #[.int .i64 0, .int .i64 0, .int .i64 0, .slice none 0 0] 37))
  have lA0 := A0_1.out.1
  have qA00 := A0_1.out.2 0 _ rfl
  have qA01 := A0_1.out.2 1 _ rfl
  have qA02 := A0_1.out.2 2 _ rfl
  have qA03 := A0_1.out.2 3 _ rfl
  have lA1 := A1_2.out.1
  have qA10 := A1_2.out.2 0 _ rfl
  have qA11 := A1_2.out.2 1 _ rfl
  have qA12 := A1_2.out.2 2 _ rfl
  have qA13 := A1_2.out.2 3 _ rfl
  try simp only [World.size_alloc] at lA0 lA1
  go_wp2_with fail
  refine (copyMatrix_impl P R C n c a xs _ (HR.out.ext E_4.out) HN.out hb).mono ?_
  rintro e w_5 ⟨b, rfl, hb1x, hb2, hh, h_5⟩
  clear lA0 qA00 qA01 qA02 qA03 lA1 qA10 qA11 qA12 qA13
  have A0_6 := Lib.hid (A0_1.out.ext h_5)
  clear A0_1
  have A1_7 := Lib.hid (A1_2.out.ext h_5)
  clear A1_2
  have R_8 := Lib.hid (R_3.out.ext h_5)
  clear R_3
  have E_9 := Lib.hid (E_4.out.trans h_5)
  clear E_4
  simp only [World.size_alloc] at hb1x
  have H0 := Lib.hid (hh.alloc (.cells #[.int .i64 P, .int .i64 R, .int .i64 C, .slice (some ⟨b, 0, none⟩) n n] 37))
  clear hh
  have P_10 := (Ext.refl w_5).alloc (.cells #[.int .i64 P, .int .i64 R, .int .i64 C, .slice (some ⟨b, 0, none⟩) n n] 37)
  have A0_11 := Lib.hid (A0_6.out.ext P_10)
  clear A0_6
  have A1_12 := Lib.hid (A1_7.out.ext P_10)
  clear A1_7
  have R_13 := Lib.hid (R_8.out.ext P_10)
  clear R_8
  have E_14 := Lib.hid (E_9.out.trans P_10)
  clear E_9
  clear P_10
  have M_15 := Lib.hid (cells_new w_5 #[.int .i64 P, .int .i64 R, .int .i64 C, .slice (some ⟨b, 0, none⟩) n n] 37)
  have hMB : w_5.heap.size < (w_5.alloc (.cells #[.int .i64 P, .int .i64 R, .int .i64 C, .slice (some ⟨b, 0, none⟩) n n] 37)).heap.size := by simp
  have HMB := Lib.hid hb2
  clear hb2
  have HB1 : Hid (w.heap.size + 1 + 1 + 1 ≤ b) := hb1x
  clear hb1x h_5
  have lA0 := A0_11.out.1
  have qA00 := A0_11.out.2 0 _ rfl
  have qA01 := A0_11.out.2 1 _ rfl
  have qA02 := A0_11.out.2 2 _ rfl
  have qA03 := A0_11.out.2 3 _ rfl
  have lA1 := A1_12.out.1
  have qA10 := A1_12.out.2 0 _ rfl
  have qA11 := A1_12.out.2 1 _ rfl
  have qA12 := A1_12.out.2 2 _ rfl
  have qA13 := A1_12.out.2 3 _ rfl
  try simp only [World.size_alloc] at lA0 lA1
  go_wp2_with fail
  refine (pivotsOf_impl (HSR.out.ext E_14.out) hb1).mono ?_
  rw [H1.out]
  rintro e w_16 ⟨pa, pm, pc, rfl, hpo0, hn0, h_16⟩
  obtain ⟨hpo, hpm⟩ := hpo0 rfl
  clear hn0 hpo0
  simp only [Int.toNat_natCast] at hpo hpm
  obtain rfl : k = pm := hpm.symm
  clear hpm
  rw [HPV.out] at hpo
  have HPP := Lib.hid hpo.reads
  have hpb := hpo.blk
  clear hpo
  clear lA0 qA00 qA01 qA02 qA03 lA1 qA10 qA11 qA12 qA13
  have hNPB : Hid (∀ z, blk pa = some z → z ≠ b) := fun z hz => by have := hpb z hz; have := HMB.out; omega
  clear hpb HPV
  have K0 : Hid (Has w_16 b (F 0 0)) := by rw [Hid, HF0.out]; exact H0.out.ext h_16
  clear H0 HF0
  have A0_17 := Lib.hid (A0_11.out.ext h_16)
  clear A0_11
  have A1_18 := Lib.hid (A1_12.out.ext h_16)
  clear A1_12
  have R_19 := Lib.hid (R_13.out.ext h_16)
  clear R_13
  have M_20 := Lib.hid (M_15.out.ext h_16)
  clear M_15
  have E_21 := Lib.hid (E_14.out.trans h_16)
  clear E_14
  clear h_16 hMB
  have HRLO : Hid (w.heap.size + 1 + 1 < w_16.heap.size) := R_19.out.1
  have HNM : Hid (w_5.heap.size ≠ b) := by have := HMB.out; exact fun e => by omega
  have lM := M_20.out.1
  have qM0 := M_20.out.2 0 _ rfl
  have qM1 := M_20.out.2 1 _ rfl
  have qM2 := M_20.out.2 2 _ rfl
  have qM3 := M_20.out.2 3 _ rfl
  try simp only [World.size_alloc] at lM
  go_wp2_with fail
  clear lM qM0 qM1 qM2 qM3
  go_loopw [21, 8, 9, 10, 11] (fun z _ _ _ _ wr => ∃ i : Nat, i ≤ R ∧ z = .int .i64 i ∧ Hid (w_16.grownBy wr (some b)) ∧ Hid (Has wr b (F i 0))) (fun z _ _ _ _ _ => R - (intOf z).toNat)
  case atStart => exact ⟨0, by omega, rfl, grownBy_refl _ _, K0⟩
  case round =>
    clear K0
    obtain ⟨i, hi, rfl, hG, hK1⟩ := hrel
    by_cases hlt : i < R
    · have HRN := Lib.hid (row_n hlt HN.out)
      have mc := M_20.out.grown hG.out (fun z hz => by simp at hz; have := HB1.out; have := HNM.out; omega)
      have lm := mc.1
      have m0 := mc.2 0 _ rfl
      have m1 := mc.2 1 _ rfl
      have m2 := mc.2 2 _ rfl
      have m3 := mc.2 3 _ rfl
      clear mc
      go_wp2_with fail
      refine (rowOf_impl P R C i b 0 n _ HRN.out hb (by omega)).mono ?_
      rintro e w3 ⟨rfl, h3⟩
      rw [Nat.zero_add]
      clear lm m0 m1 m2 m3
      have hG3 := Lib.hid (grownBy_ext hG.out h3)
      have hK3 := Lib.hid (hK1.out.ext h3)
      clear hG hK1 h3
      go_wp2_with fail
      go_loopw [29, 10, 11] (fun z _ _ wr => ∃ r : Nat, r ≤ k ∧ z = .int .i64 r ∧ Hid (w_16.grownBy wr (some b)) ∧ Hid (Has wr b (F i r))) (fun z _ _ _ => k - (intOf z).toNat)
      case atStart => exact ⟨0, by omega, rfl, hG3, hK3⟩
      case round =>
        clear hG3 hK3
        obtain ⟨r, hr, rfl, hG, hK1⟩ := hrel
        by_cases hlt2 : r < k
        · have hp1 := HPC.out r hlt2
          have HFS1 := Lib.hid (HFS.out i r hlt hlt2)
          rcases HPP.out.2 with h | ⟨pb, po, rfl, hpb, hpc⟩
          · omega
          have x1 := (World.cell?_of_block (a := ⟨pb, po + r, none⟩) (hG.out.block pb hpb (fun e => by injection e with e; exact hNPB.out pb rfl e))).trans (hpc r hlt2)
          have hpb2 : pb < wr.heap.size := Nat.lt_of_lt_of_le hpb hG.out.size
          rw [gi_pvI] at x1
          generalize pv.getD r 0 = z at x1 hp1 HFS1
          have hio : i * C + C ≤ n := by have := HRN.out; rw [Nat.add_mul] at this; omega
          have HIO := Lib.hid hio
          have x3 := hK1.out.cell (i * C + z) (by rw [HFL.out]; omega)
          have hv := HFR.out i r (i * C + z) (by rw [HFL.out]; omega)
          have EW : Hid (Ext w wr) := E_21.out.grown hG.out (fun z hz => by simp at hz; have := HB1.out; omega)
          have HRN1 := Lib.hid (row_n hlt2 HN1.out)
          have hs0 : r * C + C ≤ n1 := by have := HRN1.out; rw [Nat.add_mul] at this; omega
          have HS0 := Lib.hid hs0
          have hv1 := Int.emod_nonneg (-(gi (F i r) (i * C + z))) (show P ≠ 0 by omega)
          have hv2 := Int.emod_lt_of_pos (-(gi (F i r) (i * C + z))) (show 0 < P by omega)
          have HAX : Hid (∀ w3, Ext wr w3 → Calls Try.prog 101 #[.slice (some ⟨b, i * C, none⟩) C (n - i * C), .int .i64 (-(gi (F i r) (i * C + z)) % P), .slice (some ⟨s0, so + r * C, none⟩) C (n1 - r * C), .int .i64 P] w3 fun e w' => e = .returned (.tuple #[]) ∧ Has w' b (F i (r + 1)) ∧ w3.grownBy w' (some b)) := fun w3 hE3 => by
            rw [← HFS1.out]
            refine addToRow_impl b (i * C) C _ _ s0 (so + r * C) _ ss (r * C) P (F i r) w3 (hK1.out.ext hE3) (by omega) (by rw [HFL.out]; exact HIO.out) (fun wz l' hg hz ho hl j hj => ?_) hp hp2 hv1 hv2 (fun j hj => HFR.out i r _ (by rw [HFL.out]; have := HIO.out; omega)) (fun j hj => HXS.out _ (by rw [HSR.out.1]; have := HS0.out; omega))
            have EZ : Ext w wz := (EW.out.trans hE3).grown hg (fun z hz => by simp at hz; have := HB1.out; omega)
            rcases (HSR.out.ext EZ).2 with h | ⟨b3, o3, h, hb3, hc3⟩
            · have := HS0.out; omega
            · simp only [Option.some.injEq, Addr.mk.injEq, and_true] at h
              obtain ⟨rfl, rfl⟩ := h
              rw [Nat.add_assoc]
              exact hc3 (r * C + j) (by have := HS0.out; omega)
          have hzc : (z : Int) < (C : Int) := by omega
          clear hio hs0 hv1 hv2 HFS1 EW
          have bac := A0_17.out.grown hG.out (fun z hz => by simp at hz; have := HB1.out; have := HNM.out; omega)
          have lba := bac.1
          have ba0 := bac.2 0 _ rfl
          have ba1 := bac.2 1 _ rfl
          have ba2 := bac.2 2 _ rfl
          have ba3 := bac.2 3 _ rfl
          clear bac
          have bbc := A1_18.out.grown hG.out (fun z hz => by simp at hz; have := HB1.out; have := HNM.out; omega)
          have lbb := bbc.1
          have bb0 := bbc.2 0 _ rfl
          have bb1 := bbc.2 1 _ rfl
          have bb2 := bbc.2 2 _ rfl
          have bb3 := bbc.2 3 _ rfl
          clear bbc
          have nx : w.heap.size ≠ b := by have := HB1.out; omega
          have ny : w.heap.size + 1 ≠ b := by have := HB1.out; omega
          obtain ⟨v, hgv⟩ : ∃ v, gi (F i r) (i * C + z) = v := ⟨_, rfl⟩
          rw [hgv] at x3 hv HAX
          have HGV := Lib.hid hgv
          clear hgv
          obtain ⟨hv0, hv1⟩ := hv
          have v1 : IntKind.i64.wrap (-v) = -v := IntWalk.i64_in _ ⟨by omega, by omega⟩
          have x3' : wr.drew.cell? ⟨b, i * C + z, none⟩ = some (.int .i64 v) := x3
          go_wp2_with fail
          refine wp_region_held_drew (S := (fun w' => wr.grownBy w' (some b) ∧ ∀ B o, B ≠ b → B < wr.heap.size → w'.cell? ⟨B, o, none⟩ = wr.cell? ⟨B, o, none⟩)) (by kernel_rfl) keptB_drew (fun hHeld => ?_)
          refine wpAnyH_take (i := 0) (v := ?v1) rfl (by kernel_rfl) (by kernel_rfl) (by kernel_rfl) (fun _ _ _ h => h) (Or.inl ⟨by rfl, ?hy1⟩) hHeld ?rest1
          case hy1 => (intro wz hSw; (try dsimp only at hSw); go_simp; (try with_reducible rfl))
          (try simp only [Act.put, List.getElem_toArray, List.getElem_cons_succ, List.getElem_cons_zero]); (try simp only [List.setIfInBounds_toArray]); (try simp only [List.set_cons_succ]); (try simp only [List.set_cons_zero])
          refine wpAnyH_take (i := 1) (v := ?v2) rfl (by kernel_rfl) (by kernel_rfl) (by kernel_rfl) (fun _ _ _ h => h) (Or.inl ⟨by rfl, ?hy2⟩) hHeld ?rest2
          case hy2 => (intro wz hSw; (try dsimp only at hSw); go_simp; (try with_reducible rfl))
          (try simp only [Act.put, List.getElem_toArray, List.getElem_cons_succ, List.getElem_cons_zero]); (try simp only [List.setIfInBounds_toArray]); (try simp only [List.set_cons_succ]); (try simp only [List.set_cons_zero])
          refine wpAnyH_take (i := 2) (v := ?v3) rfl (by kernel_rfl) (by kernel_rfl) (by kernel_rfl) (fun _ _ _ h => h) (Or.inl ⟨by rfl, ?hy3⟩) hHeld ?rest3
          case hy3 => (intro wz hSw; (try dsimp only at hSw); go_simp; (try with_reducible rfl))
          (try simp only [Act.put, List.getElem_toArray, List.getElem_cons_succ, List.getElem_cons_zero]); (try simp only [List.setIfInBounds_toArray]); (try simp only [List.set_cons_succ]); (try simp only [List.set_cons_zero])
          refine wpAnyH_take (i := 3) (v := ?v4) rfl (by kernel_rfl) (by kernel_rfl) (by kernel_rfl) (fun _ _ _ h => h) (Or.inl ⟨by rfl, ?hy4⟩) hHeld ?rest4
          case hy4 => (intro wz hSw; (try dsimp only at hSw); go_simp; (try with_reducible rfl))
          (try simp only [Act.put, List.getElem_toArray, List.getElem_cons_succ, List.getElem_cons_zero]); (try simp only [List.setIfInBounds_toArray]); (try simp only [List.set_cons_succ]); (try simp only [List.set_cons_zero])
          refine wpAnyH_take (i := 6) (v := ?v5) rfl (by kernel_rfl) (by kernel_rfl) (by kernel_rfl) (fun _ _ _ h => h) (Or.inl ⟨by rfl, ?hy5⟩) hHeld ?rest5
          case hy5 => (intro wz hSw; (try dsimp only at hSw); go_simp; (try with_reducible rfl))
          (try simp only [Act.put, List.getElem_toArray, List.getElem_cons_succ, List.getElem_cons_zero]); (try simp only [List.setIfInBounds_toArray]); (try simp only [List.set_cons_succ]); (try simp only [List.set_cons_zero])
          refine wpAnyH_take (i := 7) (v := ?v6) rfl (by kernel_rfl) (by kernel_rfl) (by kernel_rfl) (fun _ _ _ h => h) (Or.inl ⟨by rfl, ?hy6⟩) hHeld ?rest6
          case hy6 => (intro wz hSw; (try dsimp only at hSw); go_simp; (try with_reducible rfl))
          (try simp only [Act.put, List.getElem_toArray, List.getElem_cons_succ, List.getElem_cons_zero]); (try simp only [List.setIfInBounds_toArray]); (try simp only [List.set_cons_succ]); (try simp only [List.set_cons_zero])
          refine wpAnyH_take (i := 9) (v := ?v7) rfl (by kernel_rfl) (by kernel_rfl) (by kernel_rfl) (fun _ _ _ h => h) (Or.inl ⟨by rfl, ?hy7⟩) hHeld ?rest7
          case hy7 => (intro wz hSw; (try dsimp only at hSw); go_simp; (try with_reducible rfl))
          (try simp only [Act.put, List.getElem_toArray, List.getElem_cons_succ, List.getElem_cons_zero]); (try simp only [List.setIfInBounds_toArray]); (try simp only [List.set_cons_succ]); (try simp only [List.set_cons_zero])
          refine wpAnyH_take (i := 10) (v := ?v8) rfl (by kernel_rfl) (by kernel_rfl) (by kernel_rfl) (fun _ _ _ h => h) (Or.inl ⟨by rfl, ?hy8⟩) hHeld ?rest8
          case hy8 => (intro wz hSw; (try dsimp only at hSw); go_simp; (try with_reducible rfl))
          (try simp only [Act.put, List.getElem_toArray, List.getElem_cons_succ, List.getElem_cons_zero]); (try simp only [List.setIfInBounds_toArray]); (try simp only [List.set_cons_succ]); (try simp only [List.set_cons_zero])
          refine wpAnyH_take (i := 12) (v := ?v9) rfl (by kernel_rfl) (by kernel_rfl) (by kernel_rfl) (fun _ _ _ h => h) (Or.inl ⟨by rfl, ?hy9⟩) hHeld ?rest9
          case hy9 => (intro wz hSw; (try dsimp only at hSw); go_simp; (try with_reducible rfl))
          (try simp only [Act.put, List.getElem_toArray, List.getElem_cons_succ, List.getElem_cons_zero]); (try simp only [List.setIfInBounds_toArray]); (try simp only [List.set_cons_succ]); (try simp only [List.set_cons_zero])
          refine wpAnyH_take (i := 13) (v := ?v10) rfl (by kernel_rfl) (by kernel_rfl) (by kernel_rfl) (fun _ _ _ h => h) (Or.inl ⟨by rfl, ?hy10⟩) hHeld ?rest10
          case hy10 => (intro wz hSw; (try dsimp only at hSw); go_simp; (try with_reducible rfl))
          (try simp only [Act.put, List.getElem_toArray, List.getElem_cons_succ, List.getElem_cons_zero]); (try simp only [List.setIfInBounds_toArray]); (try simp only [List.set_cons_succ]); (try simp only [List.set_cons_zero])
          refine wpAnyH_ready (rs := [4]) (by kernel_rfl) (by simp) ?_
          refine AllReadyH.cons rfl (fun K' hK => ?_) AllReadyH.nil
          go_simp
          refine hK.out _ _ hHeld (fun hHeld => ?_)
          clear hK
          refine wpAnyH_take (i := 5) (v := ?v11) rfl (by kernel_rfl) (by kernel_rfl) (by kernel_rfl) (fun _ _ _ h => h) (Or.inl ⟨by rfl, ?hy11⟩) hHeld ?rest11
          case hy11 => (intro wz hSw; (try dsimp only at hSw); go_simp; (try with_reducible rfl))
          (try simp only [Act.put, List.getElem_toArray, List.getElem_cons_succ, List.getElem_cons_zero]); (try simp only [List.setIfInBounds_toArray]); (try simp only [List.set_cons_succ]); (try simp only [List.set_cons_zero])
          refine wpAnyH_ready (rs := [8]) (by kernel_rfl) (by simp) ?_
          refine AllReadyH.cons rfl (fun K' hK => ?_) AllReadyH.nil
          go_simp
          refine (residue_impl _ _ _ hp hp2).mono ?_
          rintro e w2 ⟨rfl, rfl⟩
          dsimp only
          refine hK.out _ _ hHeld (fun hHeld => ?_)
          clear hK
          refine wpAnyH_ready (rs := [11]) (by kernel_rfl) (by simp) ?_
          refine AllReadyH.cons rfl (fun K' hK => ?_) AllReadyH.nil
          go_simp
          refine (rowOf_impl _ _ _ _ _ _ _ _ HRN1.out hb1 (by omega)).mono ?_
          rintro e w3 ⟨rfl, h3⟩
          dsimp only
          refine hK.out _ _ (keptB_call hHeld h3) (fun hHeld => ?_)
          clear hK
          refine wpAnyH_ready (rs := [14]) (by kernel_rfl) (by simp) ?_
          refine AllReadyH.cons rfl (fun K' hK => ?_) AllReadyH.nil
          go_simp
          refine (HAX.out _ ((Ext.refl _).drew.trans h3)).mono ?_
          rintro e w4 ⟨rfl, hh4, hg4⟩
          dsimp only
          refine hK.out _ _ (keptB_grown hHeld hg4) (fun hHeld => ?_)
          clear hK
          refine wpAnyH_done (by kernel_rfl) ?_ _
          have G4 := Lib.hid (grownBy_trans hG.out (‹wr.grownBy w4 (some b) ∧ _› : wr.grownBy w4 (some b) ∧ _).1)
          have K4 := Lib.hid hh4
          clear hHeld hh4 hg4 h3 HAX x1 x3 hpc hG hK1
          go_wp2
          exact ⟨⟨r + 1, by omega, by simp, G4, K4⟩, by simp [intOf]; omega⟩
        · obtain rfl : k = r := by omega
          rw [HFW.out] at hK1
          go_wp2
          exact ⟨⟨i + 1, by omega, by simp, hG, hK1⟩, by simp [intOf]; omega⟩
    · obtain rfl : R = i := by omega
      have HF : Hid (Has wr b RM) := by rw [HFE.out]; exact hK1
      have EW := Lib.hid (E_21.out.grown hG.out (fun z hz => by simp at hz; have := HB1.out; omega))
      have RW := R_19.out.grown hG.out (fun z hz => by simp at hz; have := HB1.out; omega)
      have hb9 : b < wr.heap.size := hK1.out.lt
      have hbl := HB1.out
      have mc := M_20.out.grown hG.out (fun z hz => by simp at hz; have := HB1.out; have := HNM.out; omega)
      have lm := mc.1
      have m0 := mc.2 0 _ rfl
      have m1 := mc.2 1 _ rfl
      have m2 := mc.2 2 _ rfl
      have m3 := mc.2 3 _ rfl
      clear mc
      have r0 := RW.2 0 _ rfl
      have r1 := RW.2 1 _ rfl
      have r2 := RW.2 2 _ rfl
      have r3 := RW.2 3 _ rfl
      have tR := RW.3
      have lR := RW.1
      clear RW hK1
      go_wp2
      refine bodyPost_ret (v := .agg #[.int .i64 P, .int .i64 R, .int .i64 C, .slice (some ⟨b, 0, none⟩) n n]) (by simp [results, Try.results136, go_sem, r0, r1, r2, r3]) rfl ⟨b, rfl, by omega, ?_, ?_, ?_⟩
      · simpa using hb9
      · repeat with_reducible (first | exact HF.out | refine Has.setOther ?_ (by simp <;> omega) _)
      · exact ext4 EW.out (by omega) _ _ _ _
end Go.Proofs.Ytnikfalpjieibaa

/-
  Brackets that lie in a space, in the program.
-/
namespace Go.Proofs.Ytnikfalpjieibaa
open Go.ChangeShapes Go.WideShapes Go.ChangeAt Go.RowKit
set_option linter.unusedVariables false
set_option linter.unusedSimpArgs false

theorem rm_in {P : Int} {R k C : Nat} {ss xs : List Int} (hp : IsP P) (hs : IsSp P k C ss) (hls : ss.length = k * C) (hxs : Res ss P) : decide (fzR (rmL P R C ss xs (redM P k C ss).pv) < 0) = inB2 P R k C xs ss := by
  have hr := hs.rref hp hls hxs
  have hP : 0 < P := by have := hp.1; omega
  have h1 : fzR (rmL P R C ss xs (redM P k C ss).pv) < 0 ↔ fz (rmL P R C ss xs (redM P k C ss).pv) 0 = (rmL P R C ss xs (redM P k C ss).pv).length := by
    unfold fzR; split
    · rename_i h; exact ⟨fun _ => h, fun _ => by decide⟩
    · rename_i h; exact ⟨fun h2 => by omega, fun h2 => absurd h2 h⟩
  have h2 : fzR (rmL P R C ss xs (redM P k C ss).pv) < 0 ↔ InP2 P R k C xs ss := by
    rw [h1, fz_all, rmL_length]
    have key : ∀ i, (∀ c, c < C → rmN P C ss xs (redM P k C ss).pv i c (redM P k C ss).pv.length = 0) ↔ InSp P k C (at2 C ss) (at2 C xs i) := fun i => by
      have := rm_iff (xs := xs) (i := i) hr hP
      rwa [hs.1] at this ⊢
    constructor
    · intro h i hi
      refine (key i).1 (fun c hc => ?_)
      rw [← at2_rmL hi hc]
      exact h _ (by have := row_lt (C := C) hi; omega)
    · intro h q hq
      have hC : 0 < C := by
        rcases Nat.eq_zero_or_pos C with e | e
        · subst e; simp at hq
        · exact e
      have e : q = q / C * C + q % C := by rw [Nat.mul_comm]; exact (Nat.div_add_mod q C).symm
      have hi : q / C < R := Nat.div_lt_of_lt_mul (by rw [Nat.mul_comm]; exact hq)
      have := at2_rmL (P := P) (ss := ss) (xs := xs) (pv := (redM P k C ss).pv) hi (Nat.mod_lt q hC)
      rw [(key _).2 (h _ hi) _ (Nat.mod_lt q hC)] at this
      rw [e]; exact this
  by_cases e : InP2 P R k C xs ss
  · rw [inB2_true e]; exact decide_eq_true (h2.2 e)
  · rw [inB2_false e]; exact decide_eq_false (fun h => e (h2.1 h))
theorem in_span {P : Int} {R k C : Nat} {ss xs : List Int} (hp : IsP P) (hl : xs.length = R * C) (hx : Res xs P) : inB2 P (redM P R C xs).pv.length k C (spanL P R C xs) ss = inB2 P R k C xs ss := by
  have h : InP2 P (redM P R C xs).pv.length k C (spanL P R C xs) ss ↔ InP2 P R k C xs ss := (in_same (spanL_same hp hl hx)).symm
  by_cases e : InP2 P R k C xs ss
  · rw [inB2_true e, inB2_true (h.2 e)]
  · rw [inB2_false e, inB2_false (fun h' => e (h.1 h'))]

end Go.Proofs.Ytnikfalpjieibaa
