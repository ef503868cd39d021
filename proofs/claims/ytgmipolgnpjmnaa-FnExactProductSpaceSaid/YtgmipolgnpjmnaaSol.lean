/-
  Spaces, kernels, systems. Plain mathematics.
-/
import Derived.Test.YtgmipolgnpjmnaaRed
namespace Go.Proofs.Ytgmipolgnpjmnaa
set_option linter.unusedVariables false

/-! Spaces: matrices that are their own span; what lies in them. -/
/-- A list is its own span: then its rows are in reduced form. -/
theorem spanL_take_at2 {P : Int} {R C : Nat} {xs : List Int} {i c : Nat} (hi : i < (redM P R C xs).pv.length) (hc : c < C) : at2 C (spanL P R C xs) i c = at2 C (redM P R C xs).m i c := by
  have := row_lt (C := C) hi
  unfold at2 spanL
  exact gi_take _ _ _ (by omega)
theorem Rref.congr {P : Int} {C : Nat} {M N : Nat → Nat → Int} {pv : List Nat} (h : Rref P C M pv) (he : ∀ i, i < pv.length → ∀ c, c < C → N i c = M i c) : Rref P C N pv := by
  have hlt := h.lt
  refine ⟨h.lt, h.up, fun i hi => ?_, fun i j hi hj hne => ?_, fun i hi c hc => ?_, fun i hi c hc => ?_⟩
  · rw [he i hi _ (hlt i hi)]; exact h.one i hi
  · rw [he j hj _ (hlt i hi)]; exact h.only i j hi hj hne
  · rw [he i hi c (by have := hlt i hi; omega)]; exact h.zero i hi c hc
  · rw [he i hi c hc]; exact h.res i hi c hc
theorem SameSp.congr {P : Int} {R C : Nat} {M N : Nat → Nat → Int} (he : ∀ i, i < R → ∀ c, c < C → N i c = M i c) : SameSp P C R M R N :=
  ⟨fun i hi => (InSp.row (M := N) hi).congr (fun c hc => by rw [he i hi c hc]; exact Eqm.refl _), fun i hi => (InSp.row (M := M) hi).congr (fun c hc => by rw [he i hi c hc]; exact Eqm.refl _)⟩
section
variable {P : Int} {R C : Nat} {xs : List Int}
/-- The span's rows are in reduced form, and span the same. -/
theorem spanL_rref (hp : IsP P) (hl : xs.length = R * C) (hx : Res xs P) : Rref P C (at2 C (spanL P R C xs)) (redM P R C xs).pv :=
  (redM_rref hp hl hx).congr (fun i hi c hc => spanL_take_at2 hi hc)
theorem spanL_same (hp : IsP P) (hl : xs.length = R * C) (hx : Res xs P) : SameSp P C R (at2 C xs) (redM P R C xs).pv.length (at2 C (spanL P R C xs)) :=
  (redM_same hp hl hx).trans (SameSp.congr (fun i hi c hc => spanL_take_at2 hi hc))
theorem spanL_res (hP : 2 ≤ P) (hx : Res xs P) : Res (spanL P R C xs) P := by
  intro j hj
  have hj' := hj
  rw [spanL, List.length_take] at hj'
  rw [spanL, gi_take _ _ _ (by omega)]
  exact res_gi _ _ (redTo_res hP hx C) (by omega) _
/-- Rows in reduced form are their own span. -/
theorem rref_span {pv : List Nat} (hp : IsP P) (hl : xs.length = R * C) (hx : Res xs P) (h : Rref P C (at2 C xs) pv) (hk : pv.length = R) : (redM P R C xs).pv = pv ∧ spanL P R C xs = xs := by
  subst hk
  have hu := (redM_rref hp hl hx).unique h hp.1 (redM_same hp hl hx).symm
  refine ⟨hu.1, ext_gi (by rw [spanL_length hl, hu.1, hl]) (fun k hk => ?_)⟩
  rw [spanL_length hl] at hk
  have hC : 0 < C := by
    rcases Nat.eq_zero_or_pos C with h | h
    · subst h; simp at hk
    · exact h
  have := hu.2 (k / C) (Nat.div_lt_of_lt_mul (by rwa [Nat.mul_comm] at hk)) (k % C) (Nat.mod_lt _ hC)
  unfold at2 at this
  rw [show k / C * C + k % C = k by rw [Nat.mul_comm]; exact Nat.div_add_mod k C] at this
  rw [spanL, gi_take _ _ _ hk]
  exact this
/-- A space: its own span, with all of its rows. -/
def IsSp (P : Int) (R C : Nat) (xs : List Int) : Prop := (redM P R C xs).pv.length = R ∧ spanL P R C xs = xs
theorem IsSp.rref (h : IsSp P R C xs) (hp : IsP P) (hl : xs.length = R * C) (hx : Res xs P) : Rref P C (at2 C xs) (redM P R C xs).pv := by
  have := spanL_rref hp hl hx
  rwa [h.2] at this
theorem isSp_of_rref {pv : List Nat} (hp : IsP P) (hl : xs.length = R * C) (hx : Res xs P) (h : Rref P C (at2 C xs) pv) (hk : pv.length = R) : IsSp P R C xs := by
  have := rref_span hp hl hx h hk
  exact ⟨by rw [this.1, hk], this.2⟩
/-- Every span is a space. -/
theorem spanL_isSp (hp : IsP P) (hl : xs.length = R * C) (hx : Res xs P) : IsSp P (redM P R C xs).pv.length C (spanL P R C xs) :=
  isSp_of_rref hp (spanL_length hl) (spanL_res hp.1 hx) (spanL_rref hp hl hx) rfl
/-- Orthogonal to rows: a system of equations. -/
def Orth (P : Int) (R C : Nat) (M : Nat → Nat → Int) (y : Nat → Int) : Prop := ∀ i, i < R → Eqm P (sumN C fun c => M i c * y c) 0
theorem Orth.span {M : Nat → Nat → Int} {y : Nat → Int} (h : Orth P R C M y) {v : Nat → Int} (hv : InSp P R C M v) : Eqm P (sumN C fun c => v c * y c) 0 := by
  obtain ⟨a, ha⟩ := hv
  have h1 : Eqm P (sumN C fun c => v c * y c) (sumN C fun c => sumN R fun i => a i * (M i c * y c)) := sumN_eqm fun c hc => by
    have := (ha c hc).mul (Eqm.refl (P := P) (y c))
    refine this.trans (Eqm.of_eq ?_)
    rw [Int.mul_comm, ← sumN_mul]
    exact sumN_congr fun i _ => by rw [Int.mul_comm, Int.mul_assoc]
  refine h1.trans ?_
  rw [sumN_swap]
  rw [← sumN_zero R]
  refine sumN_eqm fun i hi => ?_
  rw [sumN_mul]
  have := (Eqm.refl (P := P) (a i)).mul (h i hi)
  rwa [Int.mul_zero] at this
theorem Orth.same {R' : Nat} {M N : Nat → Nat → Int} {y : Nat → Int} (h : Orth P R C M y) (hs : SameSp P C R M R' N) : Orth P R' C N y := fun i hi => h.span (hs.2 i hi)
/-- Two spaces of one dimension, one in the other, are one. -/
theorem Rref.eq_of_le {M N : Nat → Nat → Int} {pv qv : List Nat} (h : Rref P C M pv) (h' : Rref P C N qv) (hP : 2 ≤ P) (hs : ∀ i, i < qv.length → InSp P pv.length C M (N i)) (hl : pv.length = qv.length) :
    pv = qv ∧ ∀ i, i < pv.length → ∀ c, c < C → M i c = N i c := by
  have hsub : ∀ x, x ∈ qv → x ∈ pv := fun x hx => by
    rw [getD_mem_iff] at hx ⊢
    obtain ⟨j, hj, rfl⟩ := hx
    exact h.mem h' hP hs j hj
  have e : pv = qv := by
    have hn : qv.Nodup := h'.asc.imp (fun h => by omega)
    have hn2 : pv.Nodup := h.asc.imp (fun h => by omega)
    have hp := perm_of_nodup qv pv hn hsub hl.symm
    exact asc_eq _ _ h.asc h'.asc (fun x => ⟨fun hx => hp.mem_iff.2 hx, fun hx => hp.mem_iff.1 hx⟩)
  subst e
  refine ⟨rfl, fun i hi c hc => ?_⟩
  refine Eqm.eq ?_ (h.res i hi c hc).1 (h.res i hi c hc).2 (h'.res i hi c hc).1 (h'.res i hi c hc).2
  refine ((h.coords (hs i hi) c hc).trans ?_).symm
  rw [sumN_one (k := i) _ hi (fun j hj hne => by rw [h'.only j i hj hi (Ne.symm hne), Int.zero_mul]), h'.one i hi, Int.one_mul]
  exact Eqm.refl _
end
/-! Kernels and systems. -/
/-- The element of the kernel that has 1 in the column c without a pivot. -/
def krTo (P : Int) (C : Nat) (m : List Int) (pv : List Nat) (c : Nat) : Nat → List Int
  | 0 => (List.replicate C 0).set c 1
  | r + 1 => (krTo P C m pv c r).set (pv.getD r 0) ((-(gi m (r * C + c))) % P)
/-- Those of the first columns, one behind the other. -/
def kerTo (P : Int) (C : Nat) (m : List Int) (pv : List Nat) : Nat → List Int
  | 0 => []
  | c + 1 => if c ∈ pv then kerTo P C m pv c else kerTo P C m pv c ++ krTo P C m pv c pv.length
/-- The columns without a pivot. -/
def freeTo (pv : List Nat) : Nat → List Nat
  | 0 => []
  | c + 1 => if c ∈ pv then freeTo pv c else freeTo pv c ++ [c]
section
variable {P : Int} {R C : Nat} {xs : List Int} {m : List Int} {pv : List Nat}
theorem krTo_length (c r : Nat) : (krTo P C m pv c r).length = C := by
  induction r with
  | zero => simp [krTo]
  | succ r ih => simp [krTo, ih]
theorem kerTo_length (c : Nat) : (kerTo P C m pv c).length = (freeTo pv c).length * C := by
  induction c with
  | zero => simp [kerTo, freeTo]
  | succ c ih =>
    rw [kerTo, freeTo]; split
    · exact ih
    · rw [List.length_append, ih, krTo_length, List.length_append, List.length_singleton, Nat.add_mul, Nat.one_mul]
theorem res_zero (n : Nat) (hP : 2 ≤ P) : Res (List.replicate n 0) P := fun j _ => by
  have : gi (List.replicate n (0 : Int)) j = 0 := by
    simp only [gi, List.getD_eq_getElem?_getD, List.getElem?_replicate]; split <;> rfl
  rw [this]; omega
theorem krTo_res (hP : 2 ≤ P) (c r : Nat) : Res (krTo P C m pv c r) P := by
  induction r with
  | zero => exact res_set _ _ _ _ (res_zero _ hP) (by omega) (by omega)
  | succ r ih => exact res_set _ _ _ _ ih (Int.emod_nonneg _ (by omega)) (Int.emod_lt_of_pos _ (by omega))
theorem res_append {a b : List Int} (h : Res a P) (h' : Res b P) : Res (a ++ b) P := by
  intro j hj
  rw [List.length_append] at hj
  by_cases e : j < a.length
  · have : gi (a ++ b) j = gi a j := by simp [gi, List.getD_eq_getElem?_getD, List.getElem?_append, e]
    rw [this]; exact h j e
  · have : gi (a ++ b) j = gi b (j - a.length) := by simp [gi, List.getD_eq_getElem?_getD, List.getElem?_append, e]
    rw [this]; exact h' _ (by omega)
theorem kerTo_res (hP : 2 ≤ P) (c : Nat) : Res (kerTo P C m pv c) P := by
  induction c with
  | zero => intro j hj; simp [kerTo] at hj
  | succ c ih =>
    rw [kerTo]; split
    · exact ih
    · exact res_append ih (krTo_res hP _ _)
/-- Only the rows with pivots count. -/
theorem krTo_take (c : Nat) (hc : c < C) (k r : Nat) (hr : r ≤ k) : krTo P C (m.take (k * C)) pv c r = krTo P C m pv c r := by
  induction r with
  | zero => rfl
  | succ r ih =>
    rw [krTo, krTo, ih (by omega), gi_take]
    have := row_lt (C := C) (show r < k by omega)
    omega
theorem kerTo_take (c : Nat) (hc : c ≤ C) : kerTo P C (m.take (pv.length * C)) pv c = kerTo P C m pv c := by
  induction c with
  | zero => rfl
  | succ c ih => rw [kerTo, kerTo, ih (by omega), krTo_take c (by omega) _ _ (Nat.le_refl _)]
/-- The rows that vanish on all solutions: the kernel's, before they are reduced, and how many. -/
def kerL (P : Int) (R C : Nat) (xs : List Int) : List Int := kerTo P C (redM P R C xs).m (redM P R C xs).pv C
def nullN (P : Int) (R C : Nat) (xs : List Int) : Nat := (freeTo (redM P R C xs).pv C).length
theorem kerL_length : (kerL P R C xs).length = nullN P R C xs * C := kerTo_length C
/-- They depend on the span alone. -/
theorem kerL_span (hp : IsP P) (hl : xs.length = R * C) (hx : Res xs P) : kerL P (redM P R C xs).pv.length C (spanL P R C xs) = kerL P R C xs ∧ nullN P (redM P R C xs).pv.length C (spanL P R C xs) = nullN P R C xs := by
  have h := rref_span (R := (redM P R C xs).pv.length) hp (spanL_length hl) (spanL_res hp.1 hx) (spanL_rref hp hl hx) rfl
  refine ⟨?_, by rw [nullN, nullN, h.1]⟩
  rw [kerL, ← kerTo_take C (Nat.le_refl _)]
  have h2 : (redM P (redM P R C xs).pv.length C (spanL P R C xs)).m.take ((redM P (redM P R C xs).pv.length C (spanL P R C xs)).pv.length * C) = spanL P R C xs := h.2
  rw [h2, h.1, spanL, kerTo_take C (Nat.le_refl _)]
  rfl
/-- As many columns without a pivot as are left. -/
theorem freeTo_length (c : Nat) (hn : pv.Nodup) (hlt : ∀ x, x ∈ pv → x < c) : (freeTo pv c).length + pv.length = c := by
  have key : ∀ c, (freeTo pv c).length + (pv.filter (· < c)).length = c := by
    intro c
    induction c with
    | zero => simp [freeTo]
    | succ c ih =>
      have h2 : (pv.filter (· < c + 1)).length = (pv.filter (· < c)).length + if c ∈ pv then 1 else 0 := by
        clear ih hlt
        induction pv with
        | nil => simp
        | cons x l ihl =>
          rw [List.nodup_cons] at hn
          have := ihl hn.2
          simp only [List.filter_cons, List.mem_cons]
          by_cases e : c = x
          · subst e
            simp [hn.1] at this ⊢
            omega
          · by_cases e2 : x < c
            · have : x < c + 1 := by omega
              simp [e, e2, this]; omega
            · have : ¬ x < c + 1 := by omega
              simp [e, e2, this]; omega
      rw [freeTo, h2]
      split
      · omega
      · rw [List.length_append, List.length_singleton]; omega
  have := key c
  rwa [List.filter_eq_self.2 (fun x hx => by simpa using hlt x hx)] at this
end
/-- A column is laid behind a matrix, row by row: the first i rows. -/
def jcTo (C : Nat) (xs vs : List Int) : Nat → List Int
  | 0 => []
  | i + 1 => jcTo C xs vs i ++ ((xs.drop (i * C)).take C ++ [gi vs i])
/-- The unknowns of the first r pivots. -/
def solTo (C : Nat) (m : List Int) (pv : List Nat) : Nat → List Int
  | 0 => List.replicate C 0
  | r + 1 => (solTo C m pv r).set (pv.getD r 0) (gi m (r * (C + 1) + C))
theorem solTo_length (C : Nat) (m : List Int) (pv : List Nat) (r : Nat) : (solTo C m pv r).length = C := by
  induction r with
  | zero => simp [solTo]
  | succ r ih => simp [solTo, ih]
/-- The system's end: the reduction of the first C columns of the matrix with v behind it. -/
def solS (P : Int) (R C : Nat) (xs vs : List Int) : RSt := redTo P R (C + 1) (jcTo C xs vs R) C
def solOk (P : Int) (R C : Nat) (xs vs : List Int) : Bool := fnz (solS P R C xs vs).m (C + 1) C R (solS P R C xs vs).pv.length == R
def solL (P : Int) (R C : Nat) (xs vs : List Int) : List Int := solTo C (solS P R C xs vs).m (solS P R C xs vs).pv (solS P R C xs vs).pv.length
section
variable {P : Int} {R C : Nat} {xs vs : List Int}
theorem jcTo_length (hl : xs.length = R * C) (i : Nat) (hi : i ≤ R) : (jcTo C xs vs i).length = i * (C + 1) := by
  induction i with
  | zero => simp [jcTo]
  | succ i ih =>
    have := row_lt (C := C) (show i < R by omega)
    rw [jcTo, List.length_append, ih (by omega)]
    simp only [List.length_append, List.length_take, List.length_drop, List.length_singleton, hl]
    rw [Nat.add_mul i 1, Nat.one_mul]
    have : min C (R * C - i * C) = C := by omega
    rw [this]
theorem gi_append_l {a b : List Int} {k : Nat} (h : k < a.length) : gi (a ++ b) k = gi a k := by
  simp [gi, List.getD_eq_getElem?_getD, List.getElem?_append, h]
theorem gi_append_r {a b : List Int} {k : Nat} (h : a.length ≤ k) : gi (a ++ b) k = gi b (k - a.length) := by
  simp [gi, List.getD_eq_getElem?_getD, List.getElem?_append, show ¬ k < a.length by omega]
theorem gi_drop (l : List Int) (n k : Nat) : gi (l.drop n) k = gi l (n + k) := by
  simp [gi, List.getD_eq_getElem?_getD]
theorem at2_jcTo (hl : xs.length = R * C) (n : Nat) (hn : n ≤ R) (i c : Nat) (hi : i < n) (hc : c < C + 1) : at2 (C + 1) (jcTo C xs vs n) i c = if c < C then at2 C xs i c else gi vs i := by
  induction n with
  | zero => omega
  | succ n ih =>
    have hln := jcTo_length (vs := vs) hl n (by omega)
    have h3 := row_lt (C := C) (show n < R by omega)
    have hlr : ((xs.drop (n * C)).take C).length = C := by simp only [List.length_take, List.length_drop, hl]; omega
    unfold at2 at ih ⊢
    rw [jcTo]
    by_cases e : i = n
    · subst e
      rw [gi_append_r (by rw [hln]; omega), hln, Nat.add_sub_cancel_left]
      by_cases e2 : c < C
      · rw [gi_append_l (by omega), gi_take _ _ _ e2, gi_drop, if_pos e2]
      · obtain rfl : c = C := by omega
        rw [gi_append_r (by omega), hlr, Nat.sub_self, if_neg e2]; rfl
    · have := row_lt (C := C + 1) (show i < n by omega)
      rw [gi_append_l (by rw [hln]; omega)]
      exact ih (by omega) (by omega)
theorem jcTo_res (hP : 2 ≤ P) (hl : xs.length = R * C) (hx : Res xs P) (hv : Res vs P) (i : Nat) : Res (jcTo C xs vs i) P := by
  induction i with
  | zero => intro j hj; simp [jcTo] at hj
  | succ i ih =>
    refine res_append ih (res_append (fun j hj => ?_) (fun j hj => ?_))
    · rw [gi_take _ _ _ (by rw [List.length_take] at hj; omega), gi_drop]; exact res_gi _ _ hx (by omega) _
    · have : j = 0 := by simpa using hj
      subst this
      exact res_gi _ _ hv (by omega) _
theorem gi_solTo {m : List Int} {pv : List Nat} (hu : ∀ i j, i < j → j < pv.length → pv.getD i 0 < pv.getD j 0) (hlt : ∀ i, i < pv.length → pv.getD i 0 < C) (r : Nat) (hr : r ≤ pv.length) (c : Nat) (hc : c < C) :
    (∀ j, j < r → pv.getD j 0 = c → gi (solTo C m pv r) c = gi m (j * (C + 1) + C)) ∧ ((∀ j, j < r → pv.getD j 0 ≠ c) → gi (solTo C m pv r) c = 0) := by
  induction r with
  | zero =>
    refine ⟨fun j hj => by omega, fun _ => ?_⟩
    rw [solTo]; simp only [gi, List.getD_eq_getElem?_getD, List.getElem?_replicate]; split <;> rfl
  | succ r ih =>
    have hpr := hlt r (by omega)
    have hs := fun q => gi_set (solTo C m pv r) (pv.getD r 0) q (gi m (r * (C + 1) + C)) (by rw [solTo_length]; exact hpr)
    refine ⟨fun j hj e => ?_, fun h => ?_⟩
    · rw [solTo, hs]
      by_cases e2 : j = r
      · subst e2; rw [if_pos e.symm]
      · have := hu j r (by omega) (by omega)
        rw [if_neg (by omega)]
        exact (ih (by omega)).1 j (by omega) e
    · rw [solTo, hs, if_neg (fun e => h r (by omega) e.symm)]
      exact (ih (by omega)).2 (fun j hj => h j (by omega))
/-- x solves the system. -/
def Solves (P : Int) (R C : Nat) (xs vs : List Int) (x : Nat → Int) : Prop := ∀ i, i < R → Eqm P (sumN C fun c => at2 C xs i c * x c) (gi vs i)
/-- .. as a vector that is orthogonal to rows. -/
def ext1 (C : Nat) (x : Nat → Int) (c : Nat) : Int := if c < C then x c else -1
theorem solves_iff (hl : xs.length = R * C) (x : Nat → Int) : Solves P R C xs vs x ↔ Orth P R (C + 1) (at2 (C + 1) (jcTo C xs vs R)) (ext1 C x) := by
  have e : ∀ i, i < R → sumN (C + 1) (fun c => at2 (C + 1) (jcTo C xs vs R) i c * ext1 C x c) = sumN C (fun c => at2 C xs i c * x c) - gi vs i := fun i hi => by
    rw [sumN, at2_jcTo hl R (Nat.le_refl _) i C hi (by omega), if_neg (by omega), ext1, if_neg (by omega)]
    have : sumN C (fun c => at2 (C + 1) (jcTo C xs vs R) i c * ext1 C x c) = sumN C (fun c => at2 C xs i c * x c) := sumN_congr fun c hc => by
      rw [at2_jcTo hl R (Nat.le_refl _) i c hi (by omega), if_pos hc, ext1, if_pos hc]
    rw [this]; omega
  constructor
  · intro h i hi
    rw [e i hi]
    have := (h i hi).sub (Eqm.refl (P := P) (gi vs i))
    rwa [Int.sub_self] at this
  · intro h i hi
    have := h i hi
    rw [e i hi] at this
    have := this.add (Eqm.refl (P := P) (gi vs i))
    rwa [Int.sub_add_cancel, Int.zero_add] at this
theorem sol_half (hp : IsP P) (hl : xs.length = R * C) (hx : Res xs P) (hv : Res vs P) : Half P R (C + 1) C (solS P R C xs vs) :=
  half_redTo hp (jcTo_length hl R (Nat.le_refl _)) (jcTo_res hp.1 hl hx hv R) C (by omega)
theorem sol_same (hp : IsP P) (hl : xs.length = R * C) (hx : Res xs P) (hv : Res vs P) : SameSp P (C + 1) R (at2 (C + 1) (jcTo C xs vs R)) R (at2 (C + 1) (solS P R C xs vs).m) :=
  redTo_same hp (jcTo_length hl R (Nat.le_refl _)) (jcTo_res hp.1 hl hx hv R) C (by omega)
theorem solOk_iff (hp : IsP P) (hl : xs.length = R * C) (hx : Res xs P) (hv : Res vs P) : solOk P R C xs vs = true ↔ ∀ j, (solS P R C xs vs).pv.length ≤ j → j < R → at2 (C + 1) (solS P R C xs vs).m j C = 0 := by
  have h := sol_half hp hl hx hv
  obtain ⟨f1, f2, f3, f4⟩ := fnz_spec (solS P R C xs vs).m (C + 1) C R _ (solS P R C xs vs).pv.length rfl h.le
  rw [solOk, beq_iff_eq]
  constructor
  · intro e j hj hj2
    exact f3 j hj (by omega)
  · intro hz
    apply Classical.byContradiction
    intro e
    have := f4 (by omega)
    exact this (hz _ f1 (by omega))
/-- What is found solves the system. -/
theorem sol_solves (hp : IsP P) (hl : xs.length = R * C) (hx : Res xs P) (hv : Res vs P) (hok : solOk P R C xs vs = true) : Solves P R C xs vs (gi (solL P R C xs vs)) := by
  have h := sol_half hp hl hx hv
  rw [solOk_iff hp hl hx hv] at hok
  rw [solves_iff hl]
  refine Orth.same (M := at2 (C + 1) (solS P R C xs vs).m) (fun i hi => ?_) (sol_same hp hl hx hv).symm
  have g := fun c hc => gi_solTo (m := (solS P R C xs vs).m) h.up h.lt _ (Nat.le_refl _) c hc
  rw [sumN, ext1, if_neg (by omega)]
  by_cases e : i < (solS P R C xs vs).pv.length
  · have hpi := h.lt i e
    rw [sumN_one (k := (solS P R C xs vs).pv.getD i 0) _ hpi, h.one i e, ext1, if_pos hpi, solL, (g _ hpi).1 i e rfl]
    · have : (1 : Int) * gi (solS P R C xs vs).m (i * (C + 1) + C) + at2 (C + 1) (solS P R C xs vs).m i C * -1 = 0 := by unfold at2; omega
      rw [this]; exact Eqm.refl _
    · intro c hc hne
      rw [ext1, if_pos hc]
      by_cases e2 : ∃ j, j < (solS P R C xs vs).pv.length ∧ (solS P R C xs vs).pv.getD j 0 = c
      · obtain ⟨j, hj, rfl⟩ := e2
        rw [h.only j i hj hi (fun e3 => hne (by rw [e3])), Int.zero_mul]
      · rw [solL, (g c hc).2 (fun j hj e3 => e2 ⟨j, hj, e3⟩), Int.mul_zero]
  · rw [hok i (by omega) hi, Int.zero_mul, Int.add_zero]
    have : sumN C (fun c => at2 (C + 1) (solS P R C xs vs).m i c * ext1 C (gi (solL P R C xs vs)) c) = sumN C (fun _ => 0) := sumN_congr fun c hc => by
      rw [h.rest i (by omega) hi c hc, Int.zero_mul]
    rw [this, sumN_zero]; exact Eqm.refl _
/-- Where a system has a solution, it is found. -/
theorem sol_found (hp : IsP P) (hl : xs.length = R * C) (hx : Res xs P) (hv : Res vs P) {x : Nat → Int} (hs : Solves P R C xs vs x) : solOk P R C xs vs = true := by
  have h := sol_half hp hl hx hv
  rw [solOk_iff hp hl hx hv]
  intro j hj hj2
  rw [solves_iff hl] at hs
  have := (hs.same (sol_same hp hl hx hv)) j hj2
  rw [sumN, ext1, if_neg (by omega)] at this
  have e : sumN C (fun c => at2 (C + 1) (solS P R C xs vs).m j c * ext1 C x c) = sumN C (fun _ => 0) := sumN_congr fun c hc => by
    rw [h.rest j hj hj2 c hc, Int.zero_mul]
  rw [e, sumN_zero, Int.zero_add] at this
  have h2 := this.mul (Eqm.refl (P := P) (-1))
  rw [Int.mul_assoc] at h2
  have h3 := at2_res (C := C + 1) h.res (show 0 < P by have := hp.1; omega) j C
  exact (show Eqm P _ 0 by simpa using h2).eq h3.1 h3.2 (by omega) (by have := hp.1; omega)
end
/-! Inverses, coordinates, subspaces. -/
/-- The columns of ys behind those of xs, row by row: the first i rows. -/
def jmTo (C D : Nat) (xs ys : List Int) : Nat → List Int
  | 0 => []
  | i + 1 => jmTo C D xs ys i ++ ((xs.drop (i * C)).take C ++ (ys.drop (i * D)).take D)
theorem row_len {R C : Nat} {xs : List Int} (hl : xs.length = R * C) {i : Nat} (hi : i < R) : ((xs.drop (i * C)).take C).length = C := by
  have := row_lt (C := C) hi
  simp only [List.length_take, List.length_drop, hl]; omega
section
variable {P : Int} {R C D : Nat} {xs ys : List Int}
theorem jmTo_length (hl : xs.length = R * C) (hl' : ys.length = R * D) (i : Nat) (hi : i ≤ R) : (jmTo C D xs ys i).length = i * (C + D) := by
  induction i with
  | zero => simp [jmTo]
  | succ i ih => rw [jmTo, List.length_append, ih (by omega), List.length_append, row_len hl (by omega), row_len hl' (by omega), Nat.add_mul i 1, Nat.one_mul]
theorem at2_jmTo (hl : xs.length = R * C) (hl' : ys.length = R * D) (n : Nat) (hn : n ≤ R) (i c : Nat) (hi : i < n) (hc : c < C + D) : at2 (C + D) (jmTo C D xs ys n) i c = if c < C then at2 C xs i c else at2 D ys i (c - C) := by
  induction n with
  | zero => omega
  | succ n ih =>
    have hln := jmTo_length hl hl' n (by omega)
    have h1 := row_len hl (show n < R by omega)
    have h2 := row_len hl' (show n < R by omega)
    unfold at2 at ih ⊢
    rw [jmTo]
    by_cases e : i = n
    · subst e
      rw [gi_append_r (by rw [hln]; omega), hln, Nat.add_sub_cancel_left]
      by_cases e2 : c < C
      · rw [gi_append_l (by omega), gi_take _ _ _ e2, gi_drop, if_pos e2]
      · rw [gi_append_r (by omega), h1, gi_take _ _ _ (by omega), gi_drop, if_neg e2]
    · have := row_lt (C := C + D) (show i < n by omega)
      rw [gi_append_l (by rw [hln]; omega)]
      exact ih (by omega) (by omega)
theorem rowL_res (hP : 0 < P) (hx : Res xs P) (o n : Nat) : Res ((xs.drop o).take n) P := fun j hj => by
  rw [gi_take _ _ _ (by rw [List.length_take] at hj; omega), gi_drop]; exact res_gi _ _ hx hP _
theorem jmTo_res (hP : 2 ≤ P) (hx : Res xs P) (hy : Res ys P) (i : Nat) : Res (jmTo C D xs ys i) P := by
  induction i with
  | zero => intro j hj; simp [jmTo] at hj
  | succ i ih => exact res_append ih (res_append (rowL_res (by omega) hx _ _) (rowL_res (by omega) hy _ _))
theorem jmTo_one {vs : List Int} (hl : vs.length = R) (i : Nat) (hi : i ≤ R) : jmTo C 1 xs vs i = jcTo C xs vs i := by
  induction i with
  | zero => rfl
  | succ i ih =>
    rw [jmTo, jcTo, ih (by omega), Nat.mul_one]
    congr 2
    apply ext_gi
    · simp [hl]; omega
    · intro k hk
      have : k = 0 := by simp at hk; omega
      subst this
      rw [gi_take _ _ _ (by omega), gi_drop]; rfl
end
/-- The pivots of the first columns stay, those that are found later stand behind. -/
theorem redTo_prefix {P : Int} {R C : Nat} {xs : List Int} (c k : Nat) : ∃ l, (redTo P R C xs (c + k)).pv = (redTo P R C xs c).pv ++ l ∧ ∀ x, x ∈ l → c ≤ x := by
  induction k with
  | zero => exact ⟨[], by simp, by simp⟩
  | succ k ih =>
    obtain ⟨l, h1, h2⟩ := ih
    rw [← Nat.add_assoc, redTo, colS]
    split
    · exact ⟨l, h1, h2⟩
    · refine ⟨l ++ [c + k], ?_, fun x hx => ?_⟩
      · simp only [colP, h1, List.append_assoc]
      · rw [List.mem_append, List.mem_singleton] at hx
        rcases hx with hx | rfl
        · exact h2 x hx
        · omega
/-- A matrix as a list. -/
def mkL (k n : Nat) (f : Nat → Nat → Int) : List Int := (List.range (k * n)).map fun q => f (q / n) (q % n)
theorem mkL_length (k n : Nat) (f : Nat → Nat → Int) : (mkL k n f).length = k * n := by simp [mkL]
theorem at2_mkL {k n : Nat} (f : Nat → Nat → Int) {i c : Nat} (hi : i < k) (hc : c < n) : at2 n (mkL k n f) i c = f i c := by
  have := row_lt (C := n) hi
  have h1 : (i * n + c) / n = i := by
    rw [Nat.mul_comm, Nat.mul_add_div (by omega), Nat.div_eq_of_lt hc, Nat.add_zero]
  have h2 : (i * n + c) % n = c := by rw [Nat.mul_comm, Nat.mul_add_mod, Nat.mod_eq_of_lt hc]
  simp [at2, gi, mkL, show i * n + c < k * n by omega, h1, h2]
theorem InSp.right {P : Int} {R C D : Nat} {M : Nat → Nat → Int} {v : Nat → Int} (h : InSp P R (C + D) M v) : InSp P R D (fun i c => M i (C + c)) (fun c => v (C + c)) := by
  obtain ⟨a, ha⟩ := h
  exact ⟨a, fun c hc => ha (C + c) (by omega)⟩
/-- The unit matrix is in reduced form. -/
def unitF (i c : Nat) : Int := if i = c then 1 else 0
theorem unit_rref {P : Int} (hP : 2 ≤ P) (n : Nat) : Rref P n unitF (List.range n) := by
  have g : ∀ i, i < n → (List.range n).getD i 0 = i := fun i hi => by simp [List.getD_eq_getElem?_getD, hi]
  refine ⟨fun i hi => ?_, fun i j hij hj => ?_, fun i hi => ?_, fun i j hi hj hne => ?_, fun i hi c hc => ?_, fun i hi c hc => ?_⟩ <;> simp only [List.length_range] at *
  · rw [g i hi]; exact hi
  · rw [g i (by omega), g j hj]; exact hij
  · rw [g i hi]; simp [unitF]
  · rw [g i hi]; simp [unitF, hne]
  · rw [g i hi] at hc; simp [unitF]; omega
  · unfold unitF; split <;> omega
/-- Vectors that span all are as many at least. -/
theorem span_all {P : Int} {k n : Nat} {N : Nat → Nat → Int} (hp : IsP P) (hr : ∀ i c, 0 ≤ N i c ∧ N i c < P) (h : ∀ i, i < n → InSp P k n N (unitF i)) : n ≤ k := by
  have hl := mkL_length k n N
  have hx : Res (mkL k n N) P := fun j hj => by
    rw [hl] at hj
    have : gi (mkL k n N) j = N (j / n) (j % n) := by simp [gi, mkL, hj]
    rw [this]; exact hr _ _
  have hs : SameSp P n k N n unitF := by
    refine ⟨fun i hi => ⟨N i, fun c hc => ?_⟩, h⟩
    rw [sumN_one (k := c) _ hc (fun j hj hne => by simp [unitF, hne])]
    simp [unitF]; exact Eqm.refl _
  have hm : SameSp P n k (at2 n (mkL k n N)) k N := (SameSp.congr (fun i hi c hc => at2_mkL N hi hc)).symm
  have hu := (redM_rref hp hl hx).unique (unit_rref hp.1 n) hp.1 (by
    rw [List.length_range]; exact (redM_same hp hl hx).symm.trans (hm.trans hs))
  have := (redTo_pv (P := P) (R := k) (C := n) (xs := mkL k n N) n).2.1
  have e : (redM P k n (mkL k n N)).pv.length = n := by rw [hu.1, List.length_range]
  unfold redM at e
  omega
/-- A matrix with the unit matrix behind it has as many pivots as rows. -/
theorem wide_rank {P : Int} {n : Nat} {xs us : List Int} (hp : IsP P) (hl : xs.length = n * n) (hx : Res xs P) (hu : us.length = n * n) (hus : Res us P) (hU : ∀ i c, i < n → c < n → at2 n us i c = unitF i c) :
    (redTo P n (n + n) (jmTo n n xs us n) (n + n)).pv.length = n := by
  have hjl := jmTo_length hl hu n (Nat.le_refl _)
  have hjr := jmTo_res (C := n) (D := n) hp.1 hx hus n
  have hs := redM_same hp hjl hjr
  have h1 := (redTo_pv (P := P) (R := n) (C := n + n) (xs := jmTo n n xs us n) (n + n)).2.1
  have h2 : n ≤ (redM P n (n + n) (jmTo n n xs us n)).pv.length := by
    refine span_all (N := fun i c => at2 (n + n) (redM P n (n + n) (jmTo n n xs us n)).m i (n + c)) hp (fun i c => at2_res (redTo_res hp.1 hjr _) (by have := hp.1; omega) _ _) (fun i hi => ?_)
    refine (hs.1 i hi).right.congr (fun c hc => ?_)
    rw [at2_jmTo hl hu n (Nat.le_refl _) i (n + c) hi (by omega), if_neg (by omega), Nat.add_sub_cancel_left, hU i c hi hc]
    exact Eqm.refl _
  unfold redM at h2
  omega
section
variable {P : Int} {R C : Nat} {xs xt vs : List Int}
/-- Solutions of the transposed system are coordinates. -/
theorem trans_solves (hT : ∀ c i, c < C → i < R → at2 R xt c i = at2 C xs i c) (x : Nat → Int) : Solves P C R xt vs x ↔ ∀ c, c < C → Eqm P (gi vs c) (sumN R fun i => x i * at2 C xs i c) := by
  have e : ∀ c, c < C → sumN R (fun i => at2 R xt c i * x i) = sumN R (fun i => x i * at2 C xs i c) := fun c hc => sumN_congr fun i hi => by rw [hT c i hc hi, Int.mul_comm]
  constructor
  · intro h c hc
    have := h c hc
    rw [e c hc] at this; exact this.symm
  · intro h c hc
    rw [e c hc]; exact (h c hc).symm
theorem trans_sol (hp : IsP P) (hl : xs.length = R * C) (hx : Res xs P) (hv : Res vs P) (ht : xt.length = C * R) (htr : Res xt P) (hT : ∀ c i, c < C → i < R → at2 R xt c i = at2 C xs i c) :
    solOk P C R xt vs = true ↔ InSp P R C (at2 C xs) (gi vs) := by
  constructor
  · intro h
    exact ⟨_, (trans_solves hT _).1 (sol_solves hp ht htr hv h)⟩
  · rintro ⟨a, ha⟩
    exact sol_found hp ht htr hv ((trans_solves hT a).2 ha)
/-- The coordinates that stand in the columns of the pivots. -/
def coL (pv : List Nat) (vs : List Int) : List Int := pv.map fun c => gi vs c
/-- .. and what they make: the first r rows. -/
def coTo (P : Int) (C : Nat) (xs vs : List Int) (pv : List Nat) : Nat → List Int
  | 0 => List.replicate C 0
  | r + 1 => axL P (gi vs (pv.getD r 0)) xs 0 (r * C) C (coTo P C xs vs pv r)
theorem coTo_length (pv : List Nat) (r : Nat) : (coTo P C xs vs pv r).length = C := by
  induction r with
  | zero => simp [coTo]
  | succ r ih => rw [coTo, axL_length, ih]
theorem coTo_res (hP : 2 ≤ P) (pv : List Nat) (r : Nat) : Res (coTo P C xs vs pv r) P := by
  induction r with
  | zero => exact res_zero _ hP
  | succ r ih => exact axL_res _ _ _ _ _ _ _ (by omega) ih
theorem gi_coTo (hP : 2 ≤ P) (pv : List Nat) (r c : Nat) (hc : c < C) : Eqm P (gi (coTo P C xs vs pv r) c) (sumN r fun i => gi vs (pv.getD i 0) * at2 C xs i c) := by
  induction r with
  | zero =>
    have : gi (List.replicate C (0 : Int)) c = 0 := by simp only [gi, List.getD_eq_getElem?_getD, List.getElem?_replicate]; split <;> rfl
    rw [coTo, this]; exact Eqm.refl _
  | succ r ih =>
    rw [coTo, axL, sumN]
    split
    · rename_i e
      rw [e, Int.zero_mul, Int.add_zero]; exact ih
    · have := gi_axTo_in P (gi vs (pv.getD r 0)) 0 (r * C) C (coTo P C xs vs pv r) xs (by rw [coTo_length]; omega) c C hc (Nat.le_refl _)
      rw [Nat.zero_add] at this
      rw [this]
      exact (Eqm.emod _).trans (ih.add (Eqm.refl _))
theorem co_iff (hp : IsP P) (hl : xs.length = R * C) (hx : Res xs P) (hs : IsSp P R C xs) (hv : Res vs P) (hvl : vs.length = C) :
    coTo P C xs vs (redM P R C xs).pv R = vs ↔ InSp P R C (at2 C xs) (gi vs) := by
  have hr := hs.rref hp hl hx
  constructor
  · intro h
    refine ⟨fun i => gi vs ((redM P R C xs).pv.getD i 0), fun c hc => ?_⟩
    have := gi_coTo (xs := xs) (vs := vs) hp.1 (redM P R C xs).pv R c hc
    rwa [h] at this
  · intro h
    refine ext_gi (by rw [coTo_length, hvl]) (fun c hc => ?_)
    rw [coTo_length] at hc
    have h1 := res_gi _ _ (coTo_res (C := C) (xs := xs) (vs := vs) hp.1 (redM P R C xs).pv R) (show 0 < P by have := hp.1; omega) c
    have h2 := res_gi _ _ hv (show 0 < P by have := hp.1; omega) c
    refine Eqm.eq ?_ h1.1 h1.2 h2.1 h2.2
    refine (gi_coTo hp.1 _ R c hc).trans ?_
    have := hr.coords (by rw [hs.1]; exact h) c hc
    rw [hs.1] at this
    exact this.symm
theorem co_sol (hp : IsP P) (hl : xs.length = R * C) (hx : Res xs P) (hs : IsSp P R C xs) (hv : Res vs P) (ht : xt.length = C * R) (htr : Res xt P) (hT : ∀ c i, c < C → i < R → at2 R xt c i = at2 C xs i c) (hok : solOk P C R xt vs = true) :
    solL P C R xt vs = coL (redM P R C xs).pv vs := by
  have hr := hs.rref hp hl hx
  have h := (trans_solves hT _).1 (sol_solves hp ht htr hv hok)
  have hlen : (solL P C R xt vs).length = R := solTo_length ..
  refine ext_gi (by rw [hlen, coL, List.length_map, hs.1]) (fun i hi => ?_)
  rw [hlen] at hi
  have hi' : i < (redM P R C xs).pv.length := by rw [hs.1]; exact hi
  have e : gi (coL (redM P R C xs).pv vs) i = gi vs ((redM P R C xs).pv.getD i 0) := by simp [gi, coL, List.getD_eq_getElem?_getD, hi']
  rw [e]
  have hP : 0 < P := by have := hp.1; omega
  have h1 := res_gi _ _ hv hP ((redM P R C xs).pv.getD i 0)
  have hres : Res (solL P C R xt vs) P := by
    unfold solL
    generalize (solS P C R xt vs).pv = pv
    have hm := (sol_half hp ht htr hv).res
    have : ∀ r, Res (solTo R (solS P C R xt vs).m pv r) P := fun r => by
      induction r with
      | zero => exact res_zero _ hp.1
      | succ r ih => exact res_set _ _ _ _ ih (res_gi _ _ hm hP _).1 (res_gi _ _ hm hP _).2
    exact this _
  have h2 := res_gi _ _ hres hP i
  refine Eqm.eq (Eqm.symm ?_) h2.1 h2.2 h1.1 h1.2
  exact hr.coord (by rw [hs.1]; exact h) i hi'
end
theorem at2_append_l {C R : Nat} {xs ys : List Int} (hl : xs.length = R * C) {i c : Nat} (hi : i < R) (hc : c < C) : at2 C (xs ++ ys) i c = at2 C xs i c := by
  have := row_lt (C := C) hi
  exact gi_append_l (by omega)
theorem at2_append_r {C R : Nat} {xs ys : List Int} (hl : xs.length = R * C) (i c : Nat) : at2 C (xs ++ ys) (R + i) c = at2 C ys i c := by
  unfold at2
  rw [gi_append_r (by rw [hl, Nat.add_mul]; omega), hl]
  congr 1
  rw [Nat.add_mul]; omega
/-- A space that lies in another one does not make it larger. -/
theorem sub_iff {P : Int} {Ra Rb C : Nat} {xa xb : List Int} (hp : IsP P) (hla : xa.length = Ra * C) (hlb : xb.length = Rb * C) (hxa : Res xa P) (hxb : Res xb P) (hs : IsSp P Rb C xb) :
    (redM P (Ra + Rb) C (xa ++ xb)).pv.length = Rb ↔ ∀ i, i < Ra → InSp P Rb C (at2 C xb) (at2 C xa i) := by
  have hl : (xa ++ xb).length = (Ra + Rb) * C := by rw [List.length_append, hla, hlb, Nat.add_mul]
  have hx : Res (xa ++ xb) P := res_append hxa hxb
  have hb := hs.rref hp hlb hxb
  have hsame := redM_same hp hl hx
  have hinB : ∀ i, i < Rb → InSp P (Ra + Rb) C (at2 C (xa ++ xb)) (at2 C xb i) := fun i hi =>
    (InSp.row (M := at2 C (xa ++ xb)) (show Ra + i < Ra + Rb by omega)).congr (fun c _ => by rw [at2_append_r hla]; exact Eqm.refl _)
  have hinA : ∀ i, i < Ra → InSp P (Ra + Rb) C (at2 C (xa ++ xb)) (at2 C xa i) := fun i hi =>
    (InSp.row (M := at2 C (xa ++ xb)) (show i < Ra + Rb by omega)).congr (fun c hc => by rw [at2_append_l hla hi hc]; exact Eqm.refl _)
  constructor
  · intro h i hi
    have heq := (redM_rref hp hl hx).eq_of_le hb hp.1 (fun j hj => (hinB j (by rw [hs.1] at hj; exact hj)).trans hsame.1) (by rw [h, hs.1])
    have h2 : SameSp P C (redM P (Ra + Rb) C (xa ++ xb)).pv.length (at2 C (redM P (Ra + Rb) C (xa ++ xb)).m) (redM P (Ra + Rb) C (xa ++ xb)).pv.length (at2 C xb) :=
      SameSp.congr (fun j hj c hc => (heq.2 j hj c hc).symm)
    have h3 := (hinA i hi).trans (hsame.trans h2).1
    rwa [h] at h3
  · intro h
    have hss : SameSp P C (Ra + Rb) (at2 C (xa ++ xb)) Rb (at2 C xb) := by
      refine ⟨fun i hi => ?_, hinB⟩
      by_cases e : i < Ra
      · exact (h i e).congr (fun c hc => by rw [at2_append_l hla e hc]; exact Eqm.refl _)
      · have := at2_append_r (ys := xb) hla (i - Ra)
        rw [show Ra + (i - Ra) = i by omega] at this
        exact (InSp.row (M := at2 C xb) (show i - Ra < Rb by omega)).congr (fun c _ => by rw [this]; exact Eqm.refl _)
    have := (spanL_unique hp hl hlb hx hxb hss).1
    rw [this, hs.1]
end Go.Proofs.Ytgmipolgnpjmnaa
