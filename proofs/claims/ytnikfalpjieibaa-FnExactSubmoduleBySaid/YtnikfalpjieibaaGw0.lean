/-
  Spaces that grow by rows. Plain mathematics.
-/
import Derived.Test.YtnikfalpjieibaaSer0
namespace Go.Proofs.Ytnikfalpjieibaa
set_option linter.unusedVariables false

/-! Spaces that grow by rows. -/
section
variable {P : Int} {D : Nat} {l : List Int}
theorem Sub.refl (s : Nat × List Int) : Sub P D s s := fun _ hi => InSp.row hi
theorem Sub.eq (hp : IsP P) {s t : Nat × List Int} (hs : Spc P D s) (ht : Spc P D t) (h : Sub P D s t) (e : t.1 = s.1) : t = s := by
  have r1 := hs.sp.rref hp hs.len hs.res
  have r2 := ht.sp.rref hp ht.len ht.res
  have e1 := hs.sp.1
  have e2 := ht.sp.1
  have h3 := r2.eq_of_le r1 hp.1 (fun i hi => by rw [e2]; exact h i (by omega)) (by omega)
  exact Prod.ext e (ext_at2 (R := t.1) ht.len (by rw [hs.len, e]) (fun i hi c hc => h3.2 i (by omega) c hc))
theorem app_in {R R1 R2 : Nat} {xs ys zs : List Int} (hx : xs.length = R * D) (h : ∀ i, i < R1 → InSp P R2 D (at2 D zs) (at2 D ys i)) (i : Nat) (hi : i < R + R1) : InSp P (R + R2) D (at2 D (xs ++ zs)) (at2 D (xs ++ ys) i) := by
  by_cases e : i < R
  · exact (InSp.row (M := at2 D (xs ++ zs)) (show i < R + R2 by omega)).congr (fun c hc => by rw [at2_append_l hx e hc, at2_append_l hx e hc]; exact Eqm.refl _)
  · have h1 := at2_append_r (ys := ys) hx (i - R)
    rw [show R + (i - R) = i by omega] at h1
    refine InSp.congr ((h (i - R) (by omega)).trans (fun q hq => ?_)) (fun c _ => by rw [h1 c]; exact Eqm.refl _)
    exact (InSp.row (M := at2 D (xs ++ zs)) (show R + q < R + R2 by omega)).congr (fun c _ => by rw [at2_append_r hx]; exact Eqm.refl _)
/-- A space and more rows. -/
def apS (P : Int) (D : Nat) (s : Nat × List Int) (R : Nat) (xs : List Int) : Nat × List Int := spnS P (s.1 + R) D (s.2 ++ xs)
theorem app_len {s : Nat × List Int} {R : Nat} {xs : List Int} (hs : s.2.length = s.1 * D) (hx : xs.length = R * D) : (s.2 ++ xs).length = (s.1 + R) * D := by
  rw [List.length_append, hs, hx, Nat.add_mul]
theorem apS_spc (hp : IsP P) {s : Nat × List Int} (hs : Spc P D s) {R : Nat} {xs : List Int} (hl : xs.length = R * D) (hx : Res xs P) : Spc P D (apS P D s R xs) :=
  spnS_spc hp (app_len hs.len hl) (res_append hs.res hx)
theorem apS_sub (hp : IsP P) {s : Nat × List Int} (hs : Spc P D s) {R : Nat} {xs : List Int} (hl : xs.length = R * D) (hx : Res xs P) : Sub P D s (apS P D s R xs) := fun i hi => by
  have h2 := spanL_same (C := D) hp (app_len hs.len hl) (res_append hs.res hx)
  refine InSp.trans ?_ h2.1
  exact (InSp.row (M := at2 D (s.2 ++ xs)) (show i < s.1 + R by omega)).congr (fun c hc => by rw [at2_append_l hs.len hi hc]; exact Eqm.refl _)
theorem apS_span (hp : IsP P) {s : Nat × List Int} (hs : Spc P D s) {R : Nat} {xs : List Int} (hl : xs.length = R * D) (hx : Res xs P) : apS P D s (spnS P R D xs).1 (spnS P R D xs).2 = apS P D s R xs := by
  have h2 := spanL_same (C := D) hp hl hx
  have hl2 : (spnS P R D xs).2.length = (spnS P R D xs).1 * D := spanL_length hl
  have hx2 : Res (spnS P R D xs).2 P := spanL_res hp.1 hx
  obtain ⟨e1, e2⟩ := span_same (P := P) (C := D) hp (app_len hs.len hl2) (res_append hs.res hx2) (app_len hs.len hl) (res_append hs.res hx) ⟨app_in hs.len h2.2, app_in hs.len h2.1⟩
  exact Prod.ext (congrArg List.length e1) e2
/-- What a space is multiplied with: all elements, or itself. -/
def gwT (D : Nat) (b : Bool) (s : Nat × List Int) : Nat × List Int := if b then allS D else s
theorem gwT_spc (hp : IsP P) {b : Bool} {s : Nat × List Int} (hs : Spc P D s) : Spc P D (gwT D b s) := by
  unfold gwT
  split
  · exact allS_spc hp
  · exact hs
/-- A space and its products, again and again. -/
def gwS (P : Int) (D : Nat) (l : List Int) (b : Bool) (R : Nat) (xs : List Int) : Nat → Nat × List Int
  | 0 => spnS P R D xs
  | n + 1 => apS P D (gwS P D l b R xs n) ((gwT D b (gwS P D l b R xs n)).1 * (gwS P D l b R xs n).1) (pL P D l (gwT D b (gwS P D l b R xs n)).2 (gwS P D l b R xs n).2 (gwS P D l b R xs n).1 (gwT D b (gwS P D l b R xs n)).1)
variable {b : Bool} {R : Nat} {xs : List Int}
theorem gwS_spc (hp : IsP P) (hl : xs.length = R * D) (hx : Res xs P) (n : Nat) : Spc P D (gwS P D l b R xs n) := by
  induction n with
  | zero => exact spnS_spc hp hl hx
  | succ n ih => exact apS_spc hp ih (pL_len2 _ _ _ _) (pL_res (by have := hp.1; omega) _ _ _ _)
theorem gwS_sub (hp : IsP P) (hl : xs.length = R * D) (hx : Res xs P) (n : Nat) : Sub P D (gwS P D l b R xs n) (gwS P D l b R xs (n + 1)) :=
  apS_sub hp (gwS_spc hp hl hx n) (pL_len2 _ _ _ _) (pL_res (by have := hp.1; omega) _ _ _ _)
/-- .. as the specification has it: products are reduced before. -/
theorem gwS_prS (hp : IsP P) (hl : xs.length = R * D) (hx : Res xs P) (n : Nat) : gwS P D l b R xs (n + 1) = apS P D (gwS P D l b R xs n) (prS P D l (gwT D b (gwS P D l b R xs n)) (gwS P D l b R xs n)).1 (prS P D l (gwT D b (gwS P D l b R xs n)) (gwS P D l b R xs n)).2 :=
  (apS_span hp (gwS_spc hp hl hx n) (pL_len2 _ _ _ _) (pL_res (by have := hp.1; omega) _ _ _ _)).symm
noncomputable def gwN (P : Int) (D : Nat) (l : List Int) (b : Bool) (R : Nat) (xs : List Int) : Nat := endN (fun i => (gwS P D l b R xs i).1) D
theorem gwN_spec (hp : IsP P) (hl : xs.length = R * D) (hx : Res xs P) : gwN P D l b R xs ≤ D ∧ Ends (fun i => (gwS P D l b R xs i).1) (gwN P D l b R xs) :=
  endN_spec (φ := fun i => D - (gwS P D l b R xs i).1) (by omega) (fun i hne => by
    have h1 := (gwS_sub (D := D) (l := l) (b := b) hp hl hx i).le hp (gwS_spc hp hl hx _) (gwS_spc hp hl hx _)
    have h2 := (gwS_spc (D := D) (l := l) (b := b) hp hl hx (i + 1)).le
    omega)
theorem gwN_up (hp : IsP P) (hl : xs.length = R * D) (hx : Res xs P) (i : Nat) (hi : i < gwN P D l b R xs) : (gwS P D l b R xs i).1 < (gwS P D l b R xs (i + 1)).1 := by
  have h1 := (gwS_sub (D := D) (l := l) (b := b) hp hl hx i).le hp (gwS_spc hp hl hx _) (gwS_spc hp hl hx _)
  have h2 := (gwN_spec (D := D) (l := l) (b := b) hp hl hx).2.1 i hi
  simp only at h2
  omega
theorem gwN_last (hp : IsP P) (hl : xs.length = R * D) (hx : Res xs P) : gwS P D l b R xs (gwN P D l b R xs + 1) = gwS P D l b R xs (gwN P D l b R xs) :=
  (gwS_sub hp hl hx _).eq hp (gwS_spc hp hl hx _) (gwS_spc hp hl hx _) (gwN_spec hp hl hx).2.2
end
end Go.Proofs.Ytnikfalpjieibaa
