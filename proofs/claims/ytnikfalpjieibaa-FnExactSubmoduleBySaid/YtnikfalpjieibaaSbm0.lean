/-
  Submodules. Plain mathematics.
-/
import Derived.Test.YtnikfalpjieibaaGw0
import Derived.Test.YtnikfalpjieibaaMtR
namespace Go.Proofs.Ytnikfalpjieibaa
set_option linter.unusedVariables false

/-! Submodules: what the matrices make of the rows of a space. -/
section
variable {P : Int} {S D : Nat} {ms : List Mat}
/-- What the matrix i makes of the rows of s. -/
def imR (P : Int) (S : Nat) (ms : List Mat) (s : Nat × List Int) (i : Nat) : List Int := mulTo P s.2 (mt ms i).d s.1 S S s.1
theorem imR_length (s : Nat × List Int) (i : Nat) : (imR P S ms s i).length = s.1 * S := mulTo_length _ _ _ _ _ _ _
theorem imR_res (hp : 0 < P) (s : Nat × List Int) (i : Nat) : Res (imR P S ms s i) P := mulTo_res P hp _ _ _ _ _ _
/-- .. all of them, one behind the other. -/
def imA (P : Int) (S : Nat) (ms : List Mat) (s : Nat × List Int) (k : Nat) : List Int := bk (imR P S ms s) k
theorem imA_length (s : Nat × List Int) (k : Nat) : (imA P S ms s k).length = k * s.1 * S := by
  rw [imA, bk_length (n := k) (fun i _ => imR_length s i) k (Nat.le_refl _), Nat.mul_assoc]
theorem imA_res (hp : 0 < P) (s : Nat × List Int) (k : Nat) : Res (imA P S ms s k) P := bk_res (n := k) (fun i _ => imR_res hp s i) k (Nat.le_refl _)
theorem imA_succ (s : Nat × List Int) (k : Nat) : imA P S ms s (k + 1) = imA P S ms s k ++ imR P S ms s k := bk_succ k
theorem app_inl {R R1 Rz : Nat} {xs ys zs : List Int} (hx : xs.length = R * D) (hy : ys.length = R1 * D) (h : ∀ i, i < R1 → InSp P R D (at2 D xs) (at2 D ys i)) (i : Nat) (hi : i < R1 + Rz) : InSp P (R + Rz) D (at2 D (xs ++ zs)) (at2 D (ys ++ zs) i) := by
  by_cases e : i < R1
  · refine InSp.congr ((h i e).trans (fun q hq => ?_)) (fun c hc => by rw [at2_append_l hy e hc]; exact Eqm.refl _)
    exact (InSp.row (M := at2 D (xs ++ zs)) (show q < R + Rz by omega)).congr (fun c hc => by rw [at2_append_l hx hq hc]; exact Eqm.refl _)
  · have h1 := at2_append_r (ys := zs) hy (i - R1)
    rw [show R1 + (i - R1) = i by omega] at h1
    have h2 := at2_append_r (ys := zs) hx (i - R1)
    exact (InSp.row (M := at2 D (xs ++ zs)) (show R + (i - R1) < R + Rz by omega)).congr (fun c _ => by rw [h1 c, h2 c]; exact Eqm.refl _)
theorem apS_app (hp : IsP P) {s : Nat × List Int} (hs : Spc P D s) {R R' : Nat} {xs ys : List Int} (hl : xs.length = R * D) (hx : Res xs P) (hl' : ys.length = R' * D) (hy : Res ys P) : apS P D (apS P D s R xs) R' ys = apS P D s (R + R') (xs ++ ys) := by
  have hA := apS_spc hp hs hl hx
  have h2 := spanL_same (C := D) hp (app_len hs.len hl) (res_append hs.res hx)
  have hl9 : (s.2 ++ xs).length = (s.1 + R) * D := app_len hs.len hl
  have hz : ((s.2 ++ xs) ++ ys).length = ((s.1 + R) + R') * D := by rw [List.length_append, hl9, hl', Nat.add_mul (s.1 + R)]
  obtain ⟨e1, e2⟩ := span_same (P := P) (C := D) (R := (apS P D s R xs).1 + R') (R' := (s.1 + R) + R') (ys := (s.2 ++ xs) ++ ys) hp (app_len hA.len hl') (res_append hA.res hy) hz (res_append (res_append hs.res hx) hy) ⟨app_inl hl9 hA.len h2.2, app_inl hA.len hl9 h2.1⟩
  have e3 : apS P D s (R + R') (xs ++ ys) = spnS P ((s.1 + R) + R') D ((s.2 ++ xs) ++ ys) := by rw [apS, Nat.add_assoc, List.append_assoc]
  rw [e3]
  exact Prod.ext (congrArg List.length e1) e2
theorem apS_nil (hp : IsP P) {s : Nat × List Int} (hs : Spc P D s) : apS P D s 0 [] = s := by
  rw [apS, List.append_nil, Nat.add_zero]
  exact Prod.ext hs.sp.1 hs.sp.2
/-- A space, and the images of its rows under the first k matrices, one matrix after the other. -/
def mvS (P : Int) (S : Nat) (ms : List Mat) (s : Nat × List Int) : Nat → Nat × List Int
  | 0 => s
  | k + 1 => apS P S (mvS P S ms s k) s.1 (imR P S ms s k)
theorem mvS_all (hp : IsP P) {s : Nat × List Int} (hs : Spc P S s) (k : Nat) : mvS P S ms s k = apS P S s (k * s.1) (imA P S ms s k) := by
  induction k with
  | zero => rw [mvS, Nat.zero_mul]; exact (apS_nil hp hs).symm
  | succ k ih =>
    have hP : 0 < P := by have := hp.1; omega
    rw [mvS, ih, apS_app hp hs (imA_length s k) (imA_res hP s k) (imR_length s k) (imR_res hP s k), imA_succ, Nat.add_mul, Nat.one_mul]
theorem mvS_spc (hp : IsP P) {s : Nat × List Int} (hs : Spc P S s) (k : Nat) : Spc P S (mvS P S ms s k) := by
  have hP : 0 < P := by have := hp.1; omega
  rw [mvS_all hp hs]
  exact apS_spc hp hs (imA_length s k) (imA_res hP s k)
/-- More rows leave the rank as it is exactly if they lie in the space. -/
theorem apS_same (hp : IsP P) {s : Nat × List Int} (hs : Spc P D s) {R : Nat} {xs : List Int} (hl : xs.length = R * D) (hx : Res xs P) : (apS P D s R xs).1 = s.1 ↔ ∀ i, i < R → InSp P s.1 D (at2 D s.2) (at2 D xs i) := by
  constructor
  · intro e i hi
    have h1 : apS P D s R xs = s := Sub.eq hp hs (apS_spc hp hs hl hx) (apS_sub hp hs hl hx) e
    have h2 := spanL_same (C := D) hp (app_len hs.len hl) (res_append hs.res hx)
    have h3 := h2.1 (s.1 + i) (by omega)
    have h4 : InSp P (apS P D s R xs).1 D (at2 D (apS P D s R xs).2) (at2 D (s.2 ++ xs) (s.1 + i)) := h3
    rw [h1] at h4
    exact h4.congr (fun c _ => by rw [at2_append_r hs.len]; exact Eqm.refl _)
  · intro h
    have hA := apS_spc hp hs hl hx
    have h1 : Sub P D (apS P D s R xs) (spnS P s.1 D s.2) := spnS_sub hp (app_len hs.len hl) (res_append hs.res hx) hs.len hs.res (fun i hi => by
      by_cases e : i < s.1
      · exact (InSp.row (M := at2 D s.2) e).congr (fun c hc => by rw [at2_append_l hs.len e hc]; exact Eqm.refl _)
      · have h9 := at2_append_r (ys := xs) hs.len (i - s.1)
        rw [show s.1 + (i - s.1) = i by omega] at h9
        exact (h (i - s.1) (by omega)).congr (fun c _ => by rw [h9 c]; exact Eqm.refl _))
    have e2 : spnS P s.1 D s.2 = s := Prod.ext hs.sp.1 hs.sp.2
    rw [e2] at h1
    have h2 := Sub.le hp hA hs h1
    have h3 := Sub.le hp hs hA (apS_sub hp hs hl hx)
    omega
/-- How a submodule grows. -/
def sbS (P : Int) (S D : Nat) (ms : List Mat) (R : Nat) (xs : List Int) : Nat → Nat × List Int
  | 0 => spnS P R S xs
  | n + 1 => apS P S (sbS P S D ms R xs n) (D * (sbS P S D ms R xs n).1) (imA P S ms (sbS P S D ms R xs n) D)
variable {R : Nat} {xs : List Int}
theorem sbS_spc (hp : IsP P) (hl : xs.length = R * S) (hx : Res xs P) (n : Nat) : Spc P S (sbS P S D ms R xs n) := by
  have hP : 0 < P := by have := hp.1; omega
  induction n with
  | zero => exact spnS_spc hp hl hx
  | succ n ih => exact apS_spc hp ih (imA_length _ D) (imA_res hP _ D)
theorem sbS_sub (hp : IsP P) (hl : xs.length = R * S) (hx : Res xs P) (n : Nat) : Sub P S (sbS P S D ms R xs n) (sbS P S D ms R xs (n + 1)) := by
  have hP : 0 < P := by have := hp.1; omega
  exact apS_sub hp (sbS_spc hp hl hx n) (imA_length _ D) (imA_res hP _ D)
theorem sbS_mv (hp : IsP P) (hl : xs.length = R * S) (hx : Res xs P) (n : Nat) : sbS P S D ms R xs (n + 1) = mvS P S ms (sbS P S D ms R xs n) D := (mvS_all hp (sbS_spc hp hl hx n) D).symm
theorem Spc.rk_le (hp : IsP P) {s : Nat × List Int} (hs : Spc P S s) : s.1 ≤ S := by
  have h := _root_.Go.Proofs.Ytnikfalpjieibaa.rk_le (D := S) hp hs.len hs.res
  rw [hs.sp.1] at h
  exact h
noncomputable def sbN (P : Int) (S D : Nat) (ms : List Mat) (R : Nat) (xs : List Int) : Nat := endN (fun i => (sbS P S D ms R xs i).1) S
theorem sbN_spec (hp : IsP P) (hl : xs.length = R * S) (hx : Res xs P) : sbN P S D ms R xs ≤ S ∧ Ends (fun i => (sbS P S D ms R xs i).1) (sbN P S D ms R xs) :=
  endN_spec (φ := fun i => S - (sbS P S D ms R xs i).1) (by omega) (fun i h => by
    have h1 := Sub.le hp (sbS_spc hp hl hx i) (sbS_spc hp hl hx (i + 1)) (sbS_sub (D := D) (ms := ms) hp hl hx i)
    have h2 := (sbS_spc (D := D) (ms := ms) hp hl hx (i + 1)).rk_le hp
    show S - (sbS P S D ms R xs (i + 1)).1 < S - (sbS P S D ms R xs i).1
    have h3 : (sbS P S D ms R xs (i + 1)).1 ≠ (sbS P S D ms R xs i).1 := h
    omega)
theorem sbN_up (hp : IsP P) (hl : xs.length = R * S) (hx : Res xs P) (i : Nat) (hi : i < sbN P S D ms R xs) : (sbS P S D ms R xs i).1 < (sbS P S D ms R xs (i + 1)).1 := by
  have h1 := Sub.le hp (sbS_spc hp hl hx i) (sbS_spc hp hl hx (i + 1)) (sbS_sub (D := D) (ms := ms) hp hl hx i)
  have h3 := (sbN_spec (D := D) (ms := ms) hp hl hx).2.1 i hi
  have h4 : (sbS P S D ms R xs (i + 1)).1 ≠ (sbS P S D ms R xs i).1 := h3
  omega
theorem sbN_last (hp : IsP P) (hl : xs.length = R * S) (hx : Res xs P) : sbS P S D ms R xs (sbN P S D ms R xs + 1) = sbS P S D ms R xs (sbN P S D ms R xs) :=
  Sub.eq hp (sbS_spc hp hl hx _) (sbS_spc hp hl hx _) (sbS_sub hp hl hx _) (sbN_spec hp hl hx).2.2
end
end Go.Proofs.Ytnikfalpjieibaa
