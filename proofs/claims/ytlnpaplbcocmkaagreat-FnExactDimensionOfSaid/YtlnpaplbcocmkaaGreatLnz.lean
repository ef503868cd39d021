/-
  The lengths that the specification spreads are not 0 where it reads them.
-/
import Derived.Test.YtlnpaplbcocmkaaGreatCar
namespace Go.Proofs.YtlnpaplbcocmkaaGreat
set_option maxRecDepth 100000
set_option linter.unusedVariables false

def lnNz (xs : List Int) (R : Nat) : Bool :=
  (List.range R).all fun i => gi (lnS xs R i) i != 0 ||
    (List.range (conn (bx xs R) R i).length).all fun k => (List.range (R + 1)).all fun j => gi (lnJ xs R (ni (conn (bx xs R) R i) k) (lnK xs R (conn (bx xs R) R i) ((lnS xs R i).set i 6) k).1 j) (ni (conn (bx xs R) R i) k) != 0
theorem lnNz_1 : tab1.all (fun t => lnNz t.1 1) = true := by decide +kernel
theorem lnNz_2 : tab2.all (fun t => lnNz t.1 2) = true := by decide +kernel
theorem lnNz_3 : tab3.all (fun t => lnNz t.1 3) = true := by decide +kernel
theorem lnNz_4 : tab4.all (fun t => lnNz t.1 4) = true := by decide +kernel
theorem tab_lnNz : ∀ R, 0 < R → R < 5 → (tab R).all (fun t => lnNz t.1 R) = true := by
  intro R h0 h1
  match R, h0, h1 with
  | 1, _, _ => exact lnNz_1
  | 2, _, _ => exact lnNz_2
  | 3, _, _ => exact lnNz_3
  | 4, _, _ => exact lnNz_4
theorem gi_small {l : List Int} (h : smallL l = true) (e : Nat) : -100 ≤ gi l e ∧ gi l e ≤ 100 := by
  by_cases he : e < l.length
  · rw [show gi l e = l[e] by simp [gi, he]]
    exact of_decide_eq_true (List.all_eq_true.1 h _ (List.getElem_mem he))
  · rw [show gi l e = 0 by simp [gi, List.getD_eq_getElem?_getD, he]]; omega
/-- What is known of the lengths on their way. -/
structure LenOk (xs ls : List Int) (R : Nat) : Prop where
  all : lnS xs R R = ls
  row : ∀ i, i < R → ∀ e, -100 ≤ gi (lnS xs R i) e ∧ gi (lnS xs R i) e ≤ 100
  part : ∀ i, i < R → gi (lnS xs R i) i = 0 → ∀ k, k ≤ (conn (bx xs R) R i).length →
    (∀ e, -100 ≤ gi (lnK xs R (conn (bx xs R) R i) ((lnS xs R i).set i 6) k).1 e ∧ gi (lnK xs R (conn (bx xs R) R i) ((lnS xs R i).set i 6) k).1 e ≤ 100) ∧ 0 < (lnK xs R (conn (bx xs R) R i) ((lnS xs R i).set i 6) k).2 ∧ (lnK xs R (conn (bx xs R) R i) ((lnS xs R i).set i 6) k).2 ≤ 6 ∧
    (∀ j, j ≤ R → ∀ e, -100 ≤ gi (lnJ xs R (ni (conn (bx xs R) R i) k) (lnK xs R (conn (bx xs R) R i) ((lnS xs R i).set i 6) k).1 j) e ∧ gi (lnJ xs R (ni (conn (bx xs R) R i) k) (lnK xs R (conn (bx xs R) R i) ((lnS xs R i).set i 6) k).1 j) e ≤ 100) ∧
    (∀ e, -100 ≤ gi (lnD (conn (bx xs R) R i) (lnK xs R (conn (bx xs R) R i) ((lnS xs R i).set i 6) (conn (bx xs R) R i).length).2 (lnK xs R (conn (bx xs R) R i) ((lnS xs R i).set i 6) (conn (bx xs R) R i).length).1 k) e ∧ gi (lnD (conn (bx xs R) R i) (lnK xs R (conn (bx xs R) R i) ((lnS xs R i).set i 6) (conn (bx xs R) R i).length).2 (lnK xs R (conn (bx xs R) R i) ((lnS xs R i).set i 6) (conn (bx xs R) R i).length).1 k) e ≤ 100)
  nz : ∀ i, i < R → gi (lnS xs R i) i = 0 → ∀ k, k < (conn (bx xs R) R i).length → ∀ j, j ≤ R → gi (lnJ xs R (ni (conn (bx xs R) R i) k) (lnK xs R (conn (bx xs R) R i) ((lnS xs R i).set i 6) k).1 j) (ni (conn (bx xs R) R i) k) ≠ 0
  bnd : ∀ e, 0 ≤ gi ls e ∧ gi ls e ≤ 3
  rng : rngB xs R = true
  xb : ∀ e, -3 ≤ gi xs e ∧ gi xs e ≤ 3
  len : ls.length = R
theorem lenOk_tab {R : Nat} {xs : List Int} {v : List Nat × List Int} (h0 : 0 < R) (hR : R ≤ 4) (h : tabGet R xs = some v) : LenOk xs v.2 R := by
  have h1 := List.all_eq_true.1 (tab_len R h0 (by omega)) _ (tabGet_mem h)
  have h2 := List.all_eq_true.1 (tab_lnNz R h0 (by omega)) _ (tabGet_mem h)
  simp only [Bool.and_eq_true, decide_eq_true_eq] at h1
  obtain ⟨⟨⟨⟨⟨⟨⟨a1, a2⟩, a3⟩, a4⟩, a5⟩, a6⟩, a7⟩, a8⟩ := h1
  simp only [lnOk, List.all_eq_true, List.mem_range, Bool.and_eq_true, Bool.or_eq_true, bne_iff_ne, ne_eq, decide_eq_true_eq] at a2
  simp only [lnNz, List.all_eq_true, List.mem_range, Bool.or_eq_true, bne_iff_ne, ne_eq] at h2
  refine ⟨eq_of_beq a1, fun i hi => gi_small (a2 i hi).1, fun i hi hz k hk => ?_, fun i hi hz k hk j hj => ?_, fun e => ?_, a3, fun e => ?_, a5⟩
  · have h3 := ((a2 i hi).2.resolve_left (fun h => h hz)) k (by omega)
    obtain ⟨⟨⟨⟨b1, b2⟩, b3⟩, b4⟩, b5⟩ := h3
    exact ⟨gi_small b1, b2, b3, fun j hj => gi_small (b4 j (by omega)), gi_small b5⟩
  · exact ((h2 i hi).resolve_left (fun h => h hz)) k hk j (by omega)
  · by_cases he : e < v.2.length
    · rw [show gi v.2 e = v.2[e] by simp [gi, he]]
      have := of_decide_eq_true (List.all_eq_true.1 a6 _ (List.getElem_mem he))
      omega
    · rw [show gi v.2 e = 0 by simp [gi, List.getD_eq_getElem?_getD, he]]; omega
  · by_cases he : e < R * R
    · have := of_decide_eq_true (Bool.and_eq_true_iff.1 (List.all_eq_true.1 a3 e (List.mem_range.2 he))).1
      omega
    · have hx : ¬ e < xs.length := by
        have : xs.length = R * R := a4
        omega
      rw [show gi xs e = 0 by simp [gi, List.getD_eq_getElem?_getD, hx]]; omega
end Go.Proofs.YtlnpaplbcocmkaaGreat
