/-
  Kernels have all solutions; the upper series. Plain mathematics.
-/
import Derived.Test.YtapaopapgnfdkaaSer0
import Derived.Test.YtapaopapgnfdkaaForms
import Derived.Test.YtapaopapgnfdkaaMeet
namespace Go.Proofs.Ytapaopapgnfdkaa
set_option linter.unusedVariables false

/-! A kernel has all solutions, and no other elements. -/
section
variable {P : Int} {R C : Nat} {xs m : List Int} {pv : List Nat}
theorem sumN_ind (n : Nat) (f : Nat → Int) (k : Nat) : (sumN n fun c => if c = k then f c else 0) = if k < n then f k else 0 := by
  by_cases h : k < n
  · rw [sumN_one (k := k) _ h (fun i _ hne => by rw [if_neg hne]), if_pos rfl, if_pos h]
  · rw [if_neg h]
    exact (sumN_congr (g := fun _ => 0) fun i hi => if_neg (by omega)).trans (sumN_zero n)
theorem sumN_free (g : Nat → Int) (n : Nat) : (sumN n fun c => if c ∈ pv then 0 else g c) = sumN (freeTo pv n).length fun j => g ((freeTo pv n).getD j 0) := by
  induction n with
  | zero => simp [freeTo, sumN]
  | succ n ih =>
    rw [sumN, ih, freeTo]
    split
    · rw [Int.add_zero]
    · rw [List.length_append, List.length_singleton, sumN]
      congr 1
      · exact sumN_congr fun j hj => by rw [getD_snoc, if_pos hj]
      · rw [getD_snoc, if_neg (Nat.lt_irrefl _), if_pos rfl]
theorem sumN_pivots (g : Nat → Int) (n : Nat) (hlt : ∀ t, t < pv.length → pv.getD t 0 < n) (hn : ∀ s t, s < pv.length → t < pv.length → pv.getD s 0 = pv.getD t 0 → s = t) : (sumN n fun c => if c ∈ pv then g c else 0) = sumN pv.length fun t => g (pv.getD t 0) := by
  have h1 : (sumN n fun c => if c ∈ pv then g c else 0) = sumN n fun c => sumN pv.length fun t => if c = pv.getD t 0 then g c else 0 := sumN_congr fun c _ => by
    split
    · next h =>
      rw [getD_mem_iff] at h
      obtain ⟨t, ht, rfl⟩ := h
      rw [sumN_one (k := t) _ ht (fun s hs hne => by rw [if_neg (fun e => hne (hn _ _ hs ht e.symm))]), if_pos rfl]
    · next h =>
      refine ((sumN_congr (g := fun _ => 0) fun t ht => if_neg (fun e => h ?_)).trans (sumN_zero pv.length)).symm
      rw [e]
      exact getD_mem_iff.2 ⟨t, ht, rfl⟩
  rw [h1, sumN_swap]
  exact sumN_congr fun t ht => by rw [sumN_ind, if_pos (hlt t ht)]
theorem sumN_parts (g : Nat → Int) (n : Nat) (hlt : ∀ t, t < pv.length → pv.getD t 0 < n) (hn : ∀ s t, s < pv.length → t < pv.length → pv.getD s 0 = pv.getD t 0 → s = t) : sumN n g = (sumN pv.length fun t => g (pv.getD t 0)) + sumN (freeTo pv n).length fun j => g ((freeTo pv n).getD j 0) := by
  rw [← sumN_pivots g n hlt hn, ← sumN_free g n, ← sumN_add]
  exact sumN_congr fun c _ => by split <;> simp
theorem Rref.inj {M : Nat → Nat → Int} (hr : Rref P C M pv) (s t : Nat) (hs : s < pv.length) (ht : t < pv.length) (e : pv.getD s 0 = pv.getD t 0) : s = t := by
  rcases Nat.lt_trichotomy s t with h | h | h
  · have := hr.up s t h ht; omega
  · exact h
  · have := hr.up t s h hs; omega
theorem gi_krTo {c q : Nat} (hinj : ∀ s t, s < pv.length → t < pv.length → pv.getD s 0 = pv.getD t 0 → s = t) (hlt : ∀ t, t < pv.length → pv.getD t 0 < C) (hc : c ∉ pv) (hcC : c < C) (hq : q < C) (r : Nat) (hr : r ≤ pv.length) :
    (∀ t, t < r → q = pv.getD t 0 → gi (krTo P C m pv c r) q = (-(gi m (t * C + c))) % P) ∧ ((∀ t, t < r → q ≠ pv.getD t 0) → gi (krTo P C m pv c r) q = if q = c then 1 else 0) := by
  induction r with
  | zero =>
    refine ⟨fun t ht => absurd ht (by omega), fun _ => ?_⟩
    rw [krTo, gi_set _ _ _ _ (by rw [List.length_replicate]; exact hcC)]
    split
    · rfl
    · rw [gi, List.getD_eq_getElem?_getD, List.getElem?_replicate]; simp [hq]
  | succ r ih =>
    have ih := ih (by omega)
    have e0 : gi (krTo P C m pv c (r + 1)) q = if q = pv.getD r 0 then (-(gi m (r * C + c))) % P else gi (krTo P C m pv c r) q := by
      rw [krTo, gi_set _ _ _ _ (by rw [krTo_length]; exact hlt r (by omega))]
    refine ⟨fun t ht e => ?_, fun h => ?_⟩
    · rw [e0]
      by_cases e2 : t = r
      · subst e2; rw [if_pos e]
      · rw [if_neg (fun e3 => e2 (hinj _ _ (by omega) (by omega) (e.symm.trans e3)))]
        exact ih.1 t (by omega) e
    · rw [e0, if_neg (h r (by omega))]
      exact ih.2 (fun t ht => h t (by omega))
theorem at2_kerTo (n : Nat) {j q : Nat} (hj : j < (freeTo pv n).length) (hq : q < C) : at2 C (kerTo P C m pv n) j q = gi (krTo P C m pv ((freeTo pv n).getD j 0) pv.length) q := by
  induction n with
  | zero => simp [freeTo] at hj
  | succ n ih =>
    rw [kerTo]
    rw [freeTo] at hj ⊢
    split at hj
    · next h => rw [if_pos h, if_pos h]; exact ih hj
    · next h =>
      rw [if_neg h, if_neg h, getD_snoc]
      rw [List.length_append, List.length_singleton] at hj
      by_cases e : j < (freeTo pv n).length
      · rw [if_pos e, at2_append_l (R := (freeTo pv n).length) (kerTo_length n) e hq]; exact ih e
      · have e2 : j = (freeTo pv n).length := by omega
        rw [if_neg e, if_pos e2, e2, show (freeTo pv n).length = (freeTo pv n).length + 0 by rfl, at2_append_r (kerTo_length n), at2, Nat.zero_mul, Nat.zero_add]
theorem free_at' {n f : Nat} (hf : f < (freeTo pv n).length) : (freeTo pv n).getD f 0 < n ∧ (freeTo pv n).getD f 0 ∉ pv := by
  rw [← mem_freeTo]
  rw [List.getD_eq_getElem?_getD, List.getElem?_eq_getElem hf]
  exact List.getElem_mem hf
theorem freeTo_inj (n : Nat) : ∀ s t, s < (freeTo pv n).length → t < (freeTo pv n).length → (freeTo pv n).getD s 0 = (freeTo pv n).getD t 0 → s = t := by
  induction n with
  | zero => intro s t hs; simp [freeTo] at hs
  | succ n ih =>
    rw [freeTo]
    split
    · exact ih
    · intro s t hs ht
      rw [List.length_append, List.length_singleton] at hs ht
      rw [getD_snoc, getD_snoc]
      by_cases h1 : s < (freeTo pv n).length <;> by_cases h2 : t < (freeTo pv n).length
      · rw [if_pos h1, if_pos h2]; exact ih s t h1 h2
      · rw [if_pos h1, if_neg h2, if_pos (by omega)]; intro e; have := (free_at' h1).1; omega
      · rw [if_neg h1, if_pos (by omega), if_pos h2]; intro e; have := (free_at' h2).1; omega
      · intro _; omega
theorem kerL_solves (hp : IsP P) (hl : xs.length = R * C) (hx : Res xs P) (y : Nat → Int) : Orth P R C (at2 C xs) y ↔ InSp P (nullN P R C xs) C (at2 C (kerL P R C xs)) y := by
  have hr := redM_rref hp hl hx
  have hs := redM_same hp hl hx
  have hinj := hr.inj
  have hP : 2 ≤ P := hp.1
  have hm : ∀ j, j < (freeTo (redM P R C xs).pv C).length → ∀ t, t < (redM P R C xs).pv.length → Eqm P (at2 C (kerL P R C xs) j ((redM P R C xs).pv.getD t 0)) (-(at2 C (redM P R C xs).m t ((freeTo (redM P R C xs).pv C).getD j 0))) := fun j hj t ht => by
    rw [kerL, at2_kerTo C hj (hr.lt t ht), ((gi_krTo hinj hr.lt (free_at' hj).2 (free_at' hj).1 (hr.lt t ht) _ (Nat.le_refl _)).1 t ht rfl)]
    exact Eqm.emod _
  have hf : ∀ j, j < (freeTo (redM P R C xs).pv C).length → ∀ i, i < (freeTo (redM P R C xs).pv C).length → at2 C (kerL P R C xs) j ((freeTo (redM P R C xs).pv C).getD i 0) = if i = j then 1 else 0 := fun j hj i hi => by
    have hn : ∀ t, t < (redM P R C xs).pv.length → (freeTo (redM P R C xs).pv C).getD i 0 ≠ (redM P R C xs).pv.getD t 0 := fun t ht e => (free_at' hi).2 (e ▸ getD_mem_iff.2 ⟨t, ht, rfl⟩)
    rw [kerL, at2_kerTo C hj (free_at' hi).1, ((gi_krTo hinj hr.lt (free_at' hj).2 (free_at' hj).1 (free_at' hi).1 _ (Nat.le_refl _)).2 hn)]
    by_cases e : i = j
    · subst e; rw [if_pos rfl, if_pos rfl]
    · rw [if_neg e, if_neg (fun e2 => e (freeTo_inj C i j hi hj e2))]
  have hrow : ∀ t, t < (redM P R C xs).pv.length → ∀ z : Nat → Int, (sumN C fun c => at2 C (redM P R C xs).m t c * z c) = z ((redM P R C xs).pv.getD t 0) + sumN (freeTo (redM P R C xs).pv C).length fun j => at2 C (redM P R C xs).m t ((freeTo (redM P R C xs).pv C).getD j 0) * z ((freeTo (redM P R C xs).pv C).getD j 0) := fun t ht z => by
    rw [sumN_parts (pv := (redM P R C xs).pv) _ C hr.lt hinj]
    congr 1
    rw [sumN_one (k := t) _ ht (fun s hs' hne => by rw [hr.only s t hs' ht (Ne.symm hne), Int.zero_mul]), hr.one t ht, Int.one_mul]
  constructor
  · intro ho
    have ho2 := ho.same hs
    refine ⟨fun j => y ((freeTo (redM P R C xs).pv C).getD j 0), fun c hc => ?_⟩
    show Eqm P (y c) (sumN (freeTo (redM P R C xs).pv C).length fun j => _)
    by_cases h : c ∈ (redM P R C xs).pv
    · rw [getD_mem_iff] at h
      obtain ⟨t, ht, rfl⟩ := h
      have h1 := ho2 t ht
      rw [hrow t ht] at h1
      have h2 : Eqm P (sumN (freeTo (redM P R C xs).pv C).length fun j => y ((freeTo (redM P R C xs).pv C).getD j 0) * at2 C (kerL P R C xs) j ((redM P R C xs).pv.getD t 0)) (sumN (freeTo (redM P R C xs).pv C).length fun j => -(at2 C (redM P R C xs).m t ((freeTo (redM P R C xs).pv C).getD j 0) * y ((freeTo (redM P R C xs).pv C).getD j 0))) := sumN_eqm fun j hj => by
        refine ((Eqm.refl _).mul (hm j hj t ht)).trans (Eqm.of_eq ?_)
        rw [Int.mul_neg, Int.mul_comm]
      rw [sumN_neg] at h2
      refine Eqm.trans ?_ h2.symm
      have h3 := h1.sub (Eqm.refl (P := P) (sumN (freeTo (redM P R C xs).pv C).length fun j => at2 C (redM P R C xs).m t ((freeTo (redM P R C xs).pv C).getD j 0) * y ((freeTo (redM P R C xs).pv C).getD j 0)))
      rwa [Int.add_sub_cancel, Int.zero_sub] at h3
    · obtain ⟨i, hi, rfl⟩ : ∃ i, i < (freeTo (redM P R C xs).pv C).length ∧ (freeTo (redM P R C xs).pv C).getD i 0 = c := by
        have h9 := mem_freeTo.2 ⟨hc, h⟩
        rw [getD_mem_iff] at h9
        exact h9
      rw [sumN_one (k := i) _ hi (fun j hj hne => by rw [hf j hj i hi, if_neg (Ne.symm hne), Int.mul_zero]), hf i hi i hi, if_pos rfl, Int.mul_one]
      exact Eqm.refl _
  · intro hy
    have h2 : Orth P (redM P R C xs).pv.length C (at2 C (redM P R C xs).m) y := fun t ht => by
      have h3 : Orth P (nullN P R C xs) C (at2 C (kerL P R C xs)) (fun c => at2 C (redM P R C xs).m t c) := fun j hj => by
        have h4 : (sumN C fun c => at2 C (kerL P R C xs) j c * at2 C (redM P R C xs).m t c) = sumN C fun c => at2 C (redM P R C xs).m t c * at2 C (kerL P R C xs) j c := sumN_congr fun c _ => Int.mul_comm _ _
        rw [h4, hrow t ht, sumN_one (k := j) _ (show j < (freeTo (redM P R C xs).pv C).length from hj) (fun i hi hne => by rw [hf j hj i hi, if_neg hne, Int.mul_zero]), hf j hj j hj, if_pos rfl, Int.mul_one]
        have h5 := (hm j hj t ht).add (Eqm.refl (P := P) (at2 C (redM P R C xs).m t ((freeTo (redM P R C xs).pv C).getD j 0)))
        rwa [Int.add_left_neg] at h5
      have h6 := h3.span hy
      have h7 : (sumN C fun c => y c * at2 C (redM P R C xs).m t c) = sumN C fun c => at2 C (redM P R C xs).m t c * y c := sumN_congr fun c _ => Int.mul_comm _ _
      rwa [h7] at h6
    exact h2.same hs.symm
theorem kerS_iff (hp : IsP P) (hl : xs.length = R * C) (hx : Res xs P) (y : Nat → Int) : InSp P (kerN P R C xs) C (at2 C (kerS P R C xs)) y ↔ Orth P R C (at2 C xs) y := by
  rw [kerL_solves hp hl hx]
  exact ((spanL_same (C := C) hp kerL_length (kerL_res hp.1)).iff y).symm
end
/-! The upper series. -/
section
variable {P : Int} {D R : Nat} {l ss us : List Int} {pv : List Nat}
theorem eqI_row (i : Nat) (hi : i < R) (y : Nat → Int) (hlt : ∀ t, t < pv.length → pv.getD t 0 < D) {c : Nat} (hc : c < D) :
    Eqm P (sumN D fun k => at2 D (eqI P D l ss us pv R) (i * D + c) k * y k) (brN D l (at2 D ss i) y c - sumN pv.length fun t => brN D l (at2 D ss i) y (pv.getD t 0) * at2 D us t c) := by
  have hW : ∀ q, q < D → Eqm P (sumN D fun k => at2 D (adTo P D l (rowL D ss i) D) k q * y k) (brN D l (at2 D ss i) y q) := fun q hq => by
    rw [brN_snd]
    refine sumN_eqm fun k hk => ?_
    rw [at2, adTo_row hk hq, Int.mul_comm]
    refine (Eqm.refl _).mul ((Eqm.emod _).trans (Eqm.of_eq ?_))
    rw [adN]
    exact sumN_congr fun c hc => by rw [gi_rowL2 _ _ hc]; rfl
  have h1 : Eqm P (sumN D fun k => at2 D (eqI P D l ss us pv R) (i * D + c) k * y k) (sumN D fun k => (at2 D (adTo P D l (rowL D ss i) D) k c - sumN pv.length fun t => at2 D (adTo P D l (rowL D ss i) D) k (pv.getD t 0) * at2 D us t c) * y k) := sumN_eqm fun k hk => by
    rw [at2_eqI hi hc hk, rmN]
    exact (Eqm.emod _).mul (Eqm.refl _)
  refine h1.trans ?_
  have h2 : (sumN D fun k => (at2 D (adTo P D l (rowL D ss i) D) k c - sumN pv.length fun t => at2 D (adTo P D l (rowL D ss i) D) k (pv.getD t 0) * at2 D us t c) * y k) = (sumN D fun k => at2 D (adTo P D l (rowL D ss i) D) k c * y k) - sumN pv.length fun t => (sumN D fun k => at2 D (adTo P D l (rowL D ss i) D) k (pv.getD t 0) * y k) * at2 D us t c := by
    have h3 : (sumN pv.length fun t => (sumN D fun k => at2 D (adTo P D l (rowL D ss i) D) k (pv.getD t 0) * y k) * at2 D us t c) = sumN D fun k => (sumN pv.length fun t => at2 D (adTo P D l (rowL D ss i) D) k (pv.getD t 0) * at2 D us t c) * y k := by
      have h4 : ∀ k, (sumN pv.length fun t => at2 D (adTo P D l (rowL D ss i) D) k (pv.getD t 0) * at2 D us t c) * y k = sumN pv.length fun t => y k * (at2 D (adTo P D l (rowL D ss i) D) k (pv.getD t 0) * at2 D us t c) := fun k => by
        rw [Int.mul_comm, ← sumN_mul]
      have h5 : ∀ t, (sumN D fun k => at2 D (adTo P D l (rowL D ss i) D) k (pv.getD t 0) * y k) * at2 D us t c = sumN D fun k => y k * (at2 D (adTo P D l (rowL D ss i) D) k (pv.getD t 0) * at2 D us t c) := fun t => by
        rw [Int.mul_comm, ← sumN_mul]
        exact sumN_congr fun k _ => by grind
      rw [sumN_congr (fun t _ => h5 t), sumN_congr (fun k _ => h4 k), sumN_swap]
    rw [h3]
    have h6 : ∀ f g : Nat → Int, sumN D (fun k => f k - g k) = sumN D f - sumN D g := fun f g => by
      have : (fun k => f k - g k) = fun k => f k + -g k := by funext k; omega
      rw [this, sumN_add, sumN_neg]; omega
    rw [← h6]
    exact sumN_congr fun k _ => by rw [Int.sub_mul]
  rw [h2]
  exact (hW c hc).sub (sumN_eqm fun t ht => (hW _ (hlt t ht)).mul (Eqm.refl _))
theorem eqI_orth (hr : Rref P D (at2 D us) pv) (y : Nat → Int) : Orth P (R * D) D (at2 D (eqI P D l ss us pv R)) y ↔ ∀ i, i < R → InSp P pv.length D (at2 D us) (brN D l (at2 D ss i) y) := by
  constructor
  · intro h i hi
    refine ⟨fun t => brN D l (at2 D ss i) y (pv.getD t 0), fun c hc => ?_⟩
    have h1 := row_lt (C := D) hi
    have h2 := (eqI_row (l := l) (ss := ss) (us := us) (P := P) i hi y hr.lt hc).symm.trans (h (i * D + c) (by omega))
    have h3 := h2.add (Eqm.refl (P := P) (sumN pv.length fun t => brN D l (at2 D ss i) y (pv.getD t 0) * at2 D us t c))
    rwa [Int.sub_add_cancel, Int.zero_add] at h3
  · intro h j hj
    have hD : 0 < D := by
      rcases Nat.eq_zero_or_pos D with e | e
      · subst e; simp at hj
      · exact e
    have e : j = j / D * D + j % D := by rw [Nat.mul_comm]; exact (Nat.div_add_mod j D).symm
    have hi : j / D < R := Nat.div_lt_of_lt_mul (by rw [Nat.mul_comm]; exact hj)
    have hc := Nat.mod_lt j hD
    rw [e]
    generalize j / D = i at hi
    generalize j % D = c at hc
    refine (eqI_row i hi y hr.lt hc).trans ?_
    have h3 := (hr.coords (h i hi) c hc).sub (Eqm.refl (P := P) (sumN pv.length fun t => brN D l (at2 D ss i) y (pv.getD t 0) * at2 D us t c))
    rwa [Int.sub_self] at h3
/-- What takes all elements into a space. -/
def inS (P : Int) (D : Nat) (l : List Int) (s : Nat × List Int) : Nat × List Int := (kerN P (D * D) D (eqI P D l (unitTo D D) s.2 (redM P s.1 D s.2).pv D), kerS P (D * D) D (eqI P D l (unitTo D D) s.2 (redM P s.1 D s.2).pv D))
theorem inS_spc (hp : IsP P) (s : Nat × List Int) : Spc P D (inS P D l s) :=
  ⟨kerN_le, kerS_length, kerS_res hp.1, spanL_isSp hp kerL_length (kerL_res hp.1)⟩
theorem inS_iff (hp : IsP P) {s : Nat × List Int} (hs : Spc P D s) (y : Nat → Int) : InSp P (inS P D l s).1 D (at2 D (inS P D l s).2) y ↔ ∀ i, i < D → InSp P s.1 D (at2 D s.2) (brN D l (at2 D (unitTo D D) i) y) := by
  rw [inS, kerS_iff hp eqI_length (eqI_res hp.1), eqI_orth (hs.sp.rref hp hs.len hs.res), hs.sp.1]
def upS (P : Int) (D : Nat) (l : List Int) : Nat → Nat × List Int
  | 0 => (0, [])
  | n + 1 => inS P D l (upS P D l n)
theorem upS_spc (hp : IsP P) (n : Nat) : Spc P D (upS P D l n) := by
  cases n with
  | zero =>
    have h3 := (redTo_pv (P := P) (R := 0) (C := D) (xs := []) D).2.1
    have h4 : (redM P 0 D []).pv.length = 0 := by have : (redM P 0 D []).pv.length ≤ 0 := h3; omega
    exact ⟨Nat.zero_le _, by simp [upS], fun i hi => by simp [upS] at hi, h4, by rw [upS, spanL, h4]; simp⟩
  | succ n => exact inS_spc hp _
theorem upS_sub (hp : IsP P) (n : Nat) : Sub P D (upS P D l n) (upS P D l (n + 1)) := by
  induction n with
  | zero => intro i hi; simp [upS] at hi
  | succ n ih =>
    intro i hi
    have h1 := (inS_iff (l := l) hp (upS_spc (D := D) (l := l) hp n) (at2 D (upS P D l (n + 1)).2 i)).1 (InSp.row hi)
    exact (inS_iff (l := l) hp (upS_spc (D := D) (l := l) hp (n + 1)) _).2 (fun j hj => (h1 j hj).trans ih)
noncomputable def upN (P : Int) (D : Nat) (l : List Int) : Nat := endN (fun i => (upS P D l i).1) D
theorem upN_spec (hp : IsP P) : upN P D l ≤ D ∧ Ends (fun i => (upS P D l i).1) (upN P D l) :=
  endN_spec (φ := fun i => D - (upS P D l i).1) (by omega) (fun i hne => by
    have h1 := (upS_sub (D := D) (l := l) hp i).le hp (upS_spc hp _) (upS_spc hp _)
    have h2 := (upS_spc (D := D) (l := l) hp (i + 1)).le
    omega)
end
end Go.Proofs.Ytapaopapgnfdkaa
