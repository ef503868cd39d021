/-
  Series of spaces. Plain mathematics.
-/
import Derived.Test.YtnikfalpjieibaaRem
import Derived.Test.YtnikfalpjieibaaBr
namespace Go.Proofs.Ytnikfalpjieibaa
set_option linter.unusedVariables false

/-! A step that is repeated until a number stays. -/
def Ends (r : Nat → Nat) (N : Nat) : Prop := (∀ i, i < N → r (i + 1) ≠ r i) ∧ r (N + 1) = r N
theorem ends_ex : ∀ (d : Nat) (r φ : Nat → Nat), φ 0 ≤ d → (∀ i, r (i + 1) ≠ r i → φ (i + 1) < φ i) → ∃ N, N ≤ d ∧ Ends r N := by
  intro d
  induction d with
  | zero =>
    intro r φ h0 h
    refine ⟨0, Nat.le_refl _, fun i hi => by omega, ?_⟩
    apply Classical.byContradiction
    intro hne
    have := h 0 hne
    omega
  | succ d ih =>
    intro r φ h0 h
    by_cases e : r 1 = r 0
    · exact ⟨0, by omega, fun i hi => by omega, e⟩
    · have h1 := h 0 e
      obtain ⟨N, hN, hE⟩ := ih (fun i => r (i + 1)) (fun i => φ (i + 1)) (by simp only [Nat.zero_add] at h1 ⊢; omega) (fun i hi => h (i + 1) hi)
      refine ⟨N + 1, by omega, fun i hi => ?_, hE.2⟩
      cases i with
      | zero => exact e
      | succ i => exact hE.1 i (by omega)
open Classical in
noncomputable def endN (r : Nat → Nat) (d : Nat) : Nat := if h : ∃ N, N ≤ d ∧ Ends r N then Classical.choose h else 0
theorem endN_spec {r φ : Nat → Nat} {d : Nat} (h0 : φ 0 ≤ d) (h : ∀ i, r (i + 1) ≠ r i → φ (i + 1) < φ i) : endN r d ≤ d ∧ Ends r (endN r d) := by
  have hx := ends_ex d r φ h0 h
  rw [endN, dif_pos hx]
  exact Classical.choose_spec hx
/-! Spaces of an algebra, one in the other. -/
structure Spc (P : Int) (D : Nat) (s : Nat × List Int) : Prop where
  le : s.1 ≤ D
  len : s.2.length = s.1 * D
  res : Res s.2 P
  sp : IsSp P s.1 D s.2
def Sub (P : Int) (D : Nat) (s t : Nat × List Int) : Prop := ∀ i, i < s.1 → InSp P t.1 D (at2 D t.2) (at2 D s.2 i)
section
variable {P : Int} {D : Nat} {l : List Int}
theorem length_le_of_sub {α : Type} [DecidableEq α] : ∀ (a b : List α), a.Nodup → (∀ x, x ∈ a → x ∈ b) → a.length ≤ b.length
  | [], _, _, _ => by simp
  | x :: a, b, hn, h => by
    have hx : x ∈ b := h x (by simp)
    rw [List.nodup_cons] at hn
    have := length_le_of_sub a (b.erase x) hn.2 (fun y hy => by
      have hne : y ≠ x := fun e => hn.1 (e ▸ hy)
      exact (List.mem_erase_of_ne hne).2 (h y (by simp [hy])))
    rw [List.length_erase_of_mem hx] at this
    have hb : 0 < b.length := List.length_pos_of_mem hx
    simp only [List.length_cons]
    omega
theorem Sub.le (hp : IsP P) {s t : Nat × List Int} (hs : Spc P D s) (ht : Spc P D t) (h : Sub P D s t) : s.1 ≤ t.1 := by
  have r1 := hs.sp.rref hp hs.len hs.res
  have r2 := ht.sp.rref hp ht.len ht.res
  have e1 := hs.sp.1
  have e2 := ht.sp.1
  have hm := fun j hj => r2.mem r1 hp.1 (fun i hi => by rw [e2]; exact h i (by omega)) j hj
  have hn : (redM P s.1 D s.2).pv.Nodup := r1.asc.imp (fun h => by omega)
  have := length_le_of_sub _ (redM P t.1 D t.2).pv hn (fun x hx => by
    rw [getD_mem_iff] at hx ⊢
    obtain ⟨j, hj, rfl⟩ := hx
    exact hm j hj)
  omega
/-- What rows span, as a space. -/
def spnS (P : Int) (R D : Nat) (xs : List Int) : Nat × List Int := ((redM P R D xs).pv.length, spanL P R D xs)
theorem rk_le (hp : IsP P) {R : Nat} {xs : List Int} (hl : xs.length = R * D) (hx : Res xs P) : (redM P R D xs).pv.length ≤ D := (redTo_pv D).1
theorem spnS_spc (hp : IsP P) {R : Nat} {xs : List Int} (hl : xs.length = R * D) (hx : Res xs P) : Spc P D (spnS P R D xs) :=
  ⟨rk_le hp hl hx, spanL_length hl, spanL_res hp.1 hx, spanL_isSp hp hl hx⟩
theorem spnS_sub (hp : IsP P) {R R' : Nat} {xs ys : List Int} (hl : xs.length = R * D) (hx : Res xs P) (hl' : ys.length = R' * D) (hy : Res ys P) (h : ∀ i, i < R → InSp P R' D (at2 D ys) (at2 D xs i)) : Sub P D (spnS P R D xs) (spnS P R' D ys) := by
  intro i hi
  have h1 := spanL_same (C := D) hp hl hx
  have h2 := spanL_same (C := D) hp hl' hy
  exact ((h1.2 i hi).trans h).trans h2.1
/-! Brackets are linear in both. -/
theorem brN_fst (x y : Nat → Int) (q : Nat) : brN D l x y q = sumN D fun c => x c * sumN D fun d => y d * tb D l c d q := by
  refine sumN_congr fun c _ => ?_
  rw [← sumN_mul]
  exact sumN_congr fun d _ => Int.mul_assoc _ _ _
theorem brN_snd (x y : Nat → Int) (q : Nat) : brN D l x y q = sumN D fun d => y d * sumN D fun c => x c * tb D l c d q := by
  rw [brN, sumN_swap]
  refine sumN_congr fun d _ => ?_
  rw [← sumN_mul]
  exact sumN_congr fun c _ => by rw [Int.mul_comm (x c) (y d), Int.mul_assoc]
theorem brN_eqm2 {x x' y y' : Nat → Int} (hx : ∀ c, c < D → Eqm P (x c) (x' c)) (hy : ∀ c, c < D → Eqm P (y c) (y' c)) (q : Nat) : Eqm P (brN D l x y q) (brN D l x' y' q) :=
  sumN_eqm fun c hc => sumN_eqm fun d hd => ((hx c hc).mul (hy d hd)).mul (Eqm.refl _)
theorem lin_sum (n : Nat) (a : Nat → Int) (s : Nat → Nat → Int) (g : Nat → Int) : (sumN D fun c => (sumN n fun i => a i * s i c) * g c) = sumN n fun i => a i * sumN D fun c => s i c * g c := by
  have h1 : (sumN D fun c => (sumN n fun i => a i * s i c) * g c) = sumN D fun c => sumN n fun i => a i * (s i c * g c) := sumN_congr fun c _ => by
    rw [Int.mul_comm, ← sumN_mul]
    exact sumN_congr fun i _ => by rw [Int.mul_comm (g c), Int.mul_assoc]
  rw [h1, sumN_swap]
  exact sumN_congr fun i _ => sumN_mul _ _ _
theorem brN_sum1 (n : Nat) (a : Nat → Int) (s : Nat → Nat → Int) (y : Nat → Int) (q : Nat) : brN D l (fun c => sumN n fun i => a i * s i c) y q = sumN n fun i => a i * brN D l (s i) y q := by
  rw [brN_fst, lin_sum]
  exact sumN_congr fun i _ => by rw [brN_fst]
theorem brN_sum2 (n : Nat) (a : Nat → Int) (s : Nat → Nat → Int) (x : Nat → Int) (q : Nat) : brN D l x (fun c => sumN n fun i => a i * s i c) q = sumN n fun i => a i * brN D l x (s i) q := by
  rw [brN_snd, lin_sum]
  exact sumN_congr fun i _ => by rw [brN_snd]
/-- What holds of all rows holds of all that they span. -/
theorem InSp.br1 {R R' : Nat} {M N : Nat → Nat → Int} {x y : Nat → Int} (hx : InSp P R D M x) (h : ∀ i, i < R → InSp P R' D N (brN D l (M i) y)) : InSp P R' D N (brN D l x y) := by
  obtain ⟨a, ha⟩ := hx
  have h1 := InSp.sum (P := P) (R := R') (C := D) (M := N) (n := R) (v := fun i c => a i * brN D l (M i) y c) (fun i hi => (h i hi).smul (a i))
  refine h1.congr fun q _ => ?_
  refine (brN_eqm2 ha (fun c _ => Eqm.refl (P := P) (y c)) q).trans ?_
  rw [brN_sum1]
  exact Eqm.refl _
theorem InSp.br2 {R R' : Nat} {M N : Nat → Nat → Int} {x y : Nat → Int} (hy : InSp P R D M y) (h : ∀ i, i < R → InSp P R' D N (brN D l x (M i))) : InSp P R' D N (brN D l x y) := by
  obtain ⟨a, ha⟩ := hy
  have h1 := InSp.sum (P := P) (R := R') (C := D) (M := N) (n := R) (v := fun i c => a i * brN D l x (M i) c) (fun i hi => (h i hi).smul (a i))
  refine h1.congr fun q _ => ?_
  refine (brN_eqm2 (fun c _ => Eqm.refl (P := P) (x c)) ha q).trans ?_
  rw [brN_sum2]
  exact Eqm.refl _
theorem at2_pL (ss ts : List Int) (R2 n : Nat) {i j q : Nat} (hi : i < n) (hj : j < R2) (hq : q < D) : Eqm P (at2 D (pL P D l ss ts R2 n) (i * R2 + j) q) (brN D l (at2 D ss i) (at2 D ts j) q) := by
  have e : (i * R2 + j) * D + q = i * (R2 * D) + (j * D + q) := by rw [Nat.add_mul, Nat.mul_assoc]; omega
  rw [at2, e, gi_pL _ _ _ _ hi hj hq, gi_brL _ _ hq]
  refine (Eqm.emod _).trans (brN_eqm2 (fun c hc => ?_) (fun c hc => ?_) q)
  · rw [gi_rowL2 _ _ hc]; exact Eqm.refl _
  · rw [gi_rowL2 _ _ hc]; exact Eqm.refl _
theorem pL_len2 (ss ts : List Int) (R2 n : Nat) : (pL P D l ss ts R2 n).length = (n * R2) * D := by rw [pL_length, Nat.mul_assoc]
theorem pL_in {ss ts : List Int} {R1 R2 : Nat} {i j : Nat} (hi : i < R1) (hj : j < R2) : InSp P (R1 * R2) D (at2 D (pL P D l ss ts R2 R1)) (brN D l (at2 D ss i) (at2 D ts j)) := by
  have hlt : i * R2 + j < R1 * R2 := by
    have := Nat.mul_le_mul_right R2 (show i + 1 ≤ R1 by omega)
    rw [Nat.add_mul] at this; omega
  exact (InSp.row (P := P) (C := D) (M := at2 D (pL P D l ss ts R2 R1)) hlt).congr fun q hq => (at2_pL ss ts R2 R1 hi hj hq).symm
/-- The space of the brackets. -/
def prS (P : Int) (D : Nat) (l : List Int) (s t : Nat × List Int) : Nat × List Int := spnS P (s.1 * t.1) D (pL P D l s.2 t.2 t.1 s.1)
theorem prS_spc (hp : IsP P) (s t : Nat × List Int) : Spc P D (prS P D l s t) :=
  spnS_spc hp (pL_len2 _ _ _ _) (pL_res (by have := hp.1; omega) _ _ _ _)
theorem prS_sub (hp : IsP P) {s t s' t' : Nat × List Int} (hs : Sub P D s s') (ht : Sub P D t t') : Sub P D (prS P D l s t) (prS P D l s' t') := by
  have hP : 0 < P := by have := hp.1; omega
  refine spnS_sub hp (pL_len2 _ _ _ _) (pL_res hP _ _ _ _) (pL_len2 _ _ _ _) (pL_res hP _ _ _ _) (fun i hi => ?_)
  have h2 : 0 < t.1 := by
    rcases Nat.eq_zero_or_pos t.1 with h | h
    · rw [h, Nat.mul_zero] at hi; omega
    · exact h
  have h1 : i / t.1 < s.1 := Nat.div_lt_of_lt_mul (by rwa [Nat.mul_comm] at hi)
  have h3 : i % t.1 < t.1 := Nat.mod_lt _ h2
  have e : i / t.1 * t.1 + i % t.1 = i := by rw [Nat.mul_comm]; exact Nat.div_add_mod i t.1
  refine InSp.congr ?_ (fun q hq => by have := at2_pL (P := P) (l := l) s.2 t.2 t.1 s.1 h1 h3 hq; rwa [e] at this)
  exact InSp.br1 (hs _ h1) (fun a ha => InSp.br2 (ht _ h3) (fun b hb => pL_in ha hb))
/-- All elements. -/
def allS (D : Nat) : Nat × List Int := (D, unitTo D D)
theorem in_all (x : Nat → Int) : InSp P D D (at2 D (unitTo D D)) x :=
  ⟨x, fun c hc => by
    rw [sumN_one (k := c) _ hc (fun j hj hne => by rw [at2_unitTo hj hc, unitF, if_neg hne, Int.mul_zero]), at2_unitTo hc hc, unitF, if_pos rfl, Int.mul_one]
    exact Eqm.refl _⟩
theorem allS_spc (hp : IsP P) : Spc P D (allS D) := by
  have hl : (unitTo D D).length = D * D := unitTo_length D D
  have hx := unitTo_res2 P hp.1 D D
  exact ⟨Nat.le_refl _, hl, hx, isSp_of_rref hp hl hx ((unit_rref hp.1 D).congr (fun i hi c hc => at2_unitTo (by simpa using hi) hc)) (by simp [allS])⟩
theorem sub_all (s : Nat × List Int) : Sub P D s (allS D) := fun i _ => in_all _
/-- The derived series, the lower series. -/
def derS (P : Int) (D : Nat) (l : List Int) : Nat → Nat × List Int
  | 0 => allS D
  | n + 1 => prS P D l (derS P D l n) (derS P D l n)
def lowS (P : Int) (D : Nat) (l : List Int) : Nat → Nat × List Int
  | 0 => allS D
  | n + 1 => prS P D l (allS D) (lowS P D l n)
theorem derS_spc (hp : IsP P) (n : Nat) : Spc P D (derS P D l n) := by
  cases n with
  | zero => exact allS_spc hp
  | succ n => exact prS_spc hp _ _
theorem lowS_spc (hp : IsP P) (n : Nat) : Spc P D (lowS P D l n) := by
  cases n with
  | zero => exact allS_spc hp
  | succ n => exact prS_spc hp _ _
theorem derS_sub (hp : IsP P) (n : Nat) : Sub P D (derS P D l (n + 1)) (derS P D l n) := by
  induction n with
  | zero => exact sub_all _
  | succ n ih => exact prS_sub hp ih ih
theorem lowS_sub (hp : IsP P) (n : Nat) : Sub P D (lowS P D l (n + 1)) (lowS P D l n) := by
  induction n with
  | zero => exact sub_all _
  | succ n ih => exact prS_sub hp (sub_all _) ih
noncomputable def derN (P : Int) (D : Nat) (l : List Int) : Nat := endN (fun i => (derS P D l i).1) D
noncomputable def lowN (P : Int) (D : Nat) (l : List Int) : Nat := endN (fun i => (lowS P D l i).1) D
theorem derN_spec (hp : IsP P) : derN P D l ≤ D ∧ Ends (fun i => (derS P D l i).1) (derN P D l) :=
  endN_spec (φ := fun i => (derS P D l i).1) (derS_spc hp 0).le (fun i hne => by have := (derS_sub (D := D) (l := l) hp i).le hp (derS_spc hp _) (derS_spc hp _); omega)
theorem lowN_spec (hp : IsP P) : lowN P D l ≤ D ∧ Ends (fun i => (lowS P D l i).1) (lowN P D l) :=
  endN_spec (φ := fun i => (lowS P D l i).1) (lowS_spc hp 0).le (fun i hne => by have := (lowS_sub (D := D) (l := l) hp i).le hp (lowS_spc hp _) (lowS_spc hp _); omega)
end
end Go.Proofs.Ytnikfalpjieibaa
