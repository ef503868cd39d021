/-
  ActWeight, ActRoot, LongestWord, NormalWord and SameElement, of the program and of the specification.
-/
import Derived.Test.YtlnpaplbcocmkaaGreatAct
import Derived.Test.YtlnpaplbcocmkaaGreatRsd
import Derived.Test.YtlnpaplbcocmkaaGreatWrd
namespace Go.Proofs.YtlnpaplbcocmkaaGreat
open Go.ChangeShapes Go.WideShapes Go.ChangeAt Go.RowKit
set_option linter.unusedVariables false
set_option linter.unusedSimpArgs false

theorem climbO_total {xs h : List Int} {R : Nat} {P : List Int → Prop} (hR : R ≤ 4) (hc : Climbs xs h R) (hPL : ∀ u, P u → latB R u = true) (hPT : ∀ u i, i < R → P u → P (turnM xs R i u)) : ∀ (N : Nat) (w : List Int), climbN h w R < N → P w → ∃ d rows, climbO xs R w = some (d, rows)
  | 0, _, hN, _ => absurd hN (Nat.not_lt_zero _)
  | N + 1, w, hN, hw => by
    have hl := hPL w hw
    have hb := latB_bnd hl
    by_cases hn : negI w < R
    · have h1 := climbN_lt hR hc hn (negI_lt (by omega)) hb.2
      obtain ⟨d, rows, h2⟩ := climbO_total hR hc hPL hPT N (turnM xs R (negI w) w) (by omega) (hPT w _ hn hw)
      exact ⟨d, negI w :: rows, by rw [climbO_step hR hc hl hn, h2]; rfl⟩
    · exact ⟨w, [], climbO_end hl hn⟩
/-- What is known of a Cartan matrix, for images of weights. -/
structure WOk (l h : List Int) (K : Nat) : Prop where
  xb : ∀ e, -3 ≤ gi l e ∧ gi l e ≤ 3
  cl : Climbs l h K
  rc : RClo l K
  rt : RClo (trn l K) K
theorem wOk_tab {K : Nat} {l : List Int} {v : List Nat × List Int} (hK1 : 1 ≤ K) (hK4 : K ≤ 4) (ht : tabGet K l = some v) : ∃ h, WOk l h K := by
  obtain ⟨h, hc⟩ := climbs_tab (by omega) hK4 ht
  exact ⟨h, (lenOk_tab (by omega) hK4 ht).xb, hc, rclo_tab (by omega) hK4 ht, rclo_trn (by omega) hK4 ht⟩
theorem imB_bnd6 {l : List Int} {K : Nat} {B : Int} (hc : RClo (trn l K) K) (h0 : 0 ≤ B) (hB : B ≤ 24000) : ∀ u, ImB l K B u → u.length = K ∧ ∀ e, -1000000 ≤ gi u e ∧ gi u e ≤ 1000000 := fun u hu =>
  ⟨hu.len, fun e => by have := imB_ent hc h0 hu e; omega⟩
theorem imB_ones {l : List Int} {K : Nat} (hK4 : K ≤ 4) (hc : RClo (trn l K) K) : ImB l K 24 (List.replicate K 1) := by
  have := imB_start (xs := l) (w := List.replicate K 1) (C := 1) hK4 hc (by simp) (by omega) (fun k => by
    simp only [gi, List.getD_eq_getElem?_getD, List.getElem?_replicate]
    split <;> simp)
  exact this
theorem imB_neg {l : List Int} {K : Nat} (hK4 : K ≤ 4) (hc : RClo (trn l K) K) : ImB l K 24 (List.replicate K (-1)) := by
  have := imB_start (xs := l) (w := List.replicate K (-1)) (C := 1) hK4 hc (by simp) (by omega) (fun k => by
    simp only [gi, List.getD_eq_getElem?_getD, List.getElem?_replicate]
    split <;> simp)
  exact this
theorem negL_ones (K : Nat) : negL (List.replicate K 1) = List.replicate K (-1) := by simp [negL]
theorem grows_own6 {w0 w : World} {v : Value} {n : Nat} {xs : List Int} (h : Grows w w0.heap.size v n xs) (hn : n ≤ 1048576) : Rints5 w0 w v xs := by
  obtain ⟨a, cap, rfl, ho⟩ := h.shape
  exact ⟨a, n, cap, rfl, ho, hn⟩
theorem rInats (l : List Nat) : (l.map fun i => ((i : Nat) : Int)) = rI l := rfl
def awO (R : Int) (l x y : List Int) : List Int := match carG R l with | some _ => if wordB R.toNat x && latB R.toNat y then actM l R.toNat x y else [] | none => []
def arO (R : Int) (l x y : List Int) : List Int := match carG R l with | some _ => if wordB R.toNat x && latB R.toNat y then actR l R.toNat x y else [] | none => []
def smO (R : Int) (l x y : List Int) : Bool := match carG R l with | some _ => wordB R.toNat x && (wordB R.toNat y && sameB (actM l R.toNat x (List.replicate R.toNat 1)) (actM l R.toNat y (List.replicate R.toNat 1))) | none => false
def nwO (R : Int) (l x : List Int) : List Int := match carG R l with | some _ => if wordB R.toNat x then (match climbO l R.toNat (actM l R.toNat x (List.replicate R.toNat 1)) with | some p => rI p.2 | none => []) else [] | none => []
theorem lwO_eq {l : List Int} {K : Nat} {v : List Nat × List Int} {d : List Int} {rows : List Nat} (hG : carG (K : Int) l = some v) (h : climbO l K (List.replicate K (-1)) = some (d, rows)) : lwO K l = rI rows := by
  simp only [lwO, hG, Int.toNat_natCast, h]; rfl
theorem nwO_eq {l x : List Int} {K : Nat} {v : List Nat × List Int} {d : List Int} {rows : List Nat} (hG : carG (K : Int) l = some v) (hw : wordB K x = true) (h : climbO l K (actM l K x (List.replicate K 1)) = some (d, rows)) : nwO K l x = rI rows := by
  simp only [nwO, hG, Int.toNat_natCast, hw, if_true, h]
theorem wordB_rowB {R : Nat} {ys : List Int} (h : wordB R ys = true) : rowB R ys = true := by
  rw [wordB, Bool.and_eq_true] at h; exact h.2
theorem wordsB_two {K : Nat} {Y : Nat → List Int} : wordsB K 2 Y = (wordB K (Y 0) && wordB K (Y 1)) := by
  simp [wordsB, List.range_succ]
theorem wordsB_one6 {K : Nat} {Y : Nat → List Int} : wordsB K 1 Y = wordB K (Y 0) := by simp [wordsB]

end Go.Proofs.YtlnpaplbcocmkaaGreat
