/-
  Where weights climb to. Plain mathematics.
-/
import Derived.Test.YtlnpaplbcocmkaaGreatClm
import Derived.Test.YtlnpaplbcocmkaaGreatCg
namespace Go.Proofs.YtlnpaplbcocmkaaGreat
set_option linter.unusedVariables false
set_option linter.unusedSimpArgs false
set_option maxRecDepth 100000

/-- A weight climbs as long as what it has become is a weight: the dominant one, and the rows in their order. -/
def climbM (xs : List Int) (R : Nat) : Nat → List Int → Option (List Int × List Nat)
  | 0, _ => none
  | f + 1, w => if latB R w then (if negI w < R then (climbM xs R f (turnM xs R (negI w) w)).map (fun p => (p.1, negI w :: p.2)) else some (w, [])) else none
theorem climbN_le {h w : List Int} {R : Nat} (hR : R ≤ 4) (hb : ∀ k, 0 ≤ gi h k ∧ gi h k ≤ 64) (hw : ∀ k, -1000 ≤ gi w k ∧ gi w k ≤ 1000) : climbN h w R ≤ 512001 := by
  have h2 := dot_bnd (B := 1000) hb hw (by omega) R
  have h3 : (64 * 1000 * (R : Int)) ≤ 256000 := by omega
  unfold climbN
  omega
theorem climbM_more {xs h : List Int} {R : Nat} (hR : R ≤ 4) (hc : Climbs xs h R) : ∀ (f : Nat) (w : List Int), climbN h w R < f → climbM xs R f w = climbM xs R (f + 1) w
  | 0, _, hf => absurd hf (Nat.not_lt_zero _)
  | f + 1, w, hf => by
    rw [climbM, climbM]
    rcases hl : latB R w with _ | _
    · rfl
    · obtain ⟨hlen, hb⟩ := latB_bnd hl
      by_cases hn : negI w < R
      · have hlt := climbN_lt hR hc hn (negI_lt (by omega)) hb
        rw [if_pos rfl, if_pos rfl, if_pos hn, if_pos hn, climbM_more hR hc f _ (by omega)]
      · rw [if_pos rfl, if_pos rfl, if_neg hn, if_neg hn]
/-- Where a weight ends. -/
def climbO (xs : List Int) (R : Nat) (w : List Int) : Option (List Int × List Nat) := climbM xs R 512003 w
theorem climbO_no {xs w : List Int} {R : Nat} (h : latB R w = false) : climbO xs R w = none := by
  rw [climbO, show (512003 : Nat) = 512002 + 1 from rfl, climbM, h]; rfl
theorem climbO_end {xs w : List Int} {R : Nat} (h : latB R w = true) (hn : ¬ negI w < R) : climbO xs R w = some (w, []) := by
  rw [climbO, show (512003 : Nat) = 512002 + 1 from rfl, climbM, h, if_pos rfl, if_neg hn]
theorem climbO_step {xs h w : List Int} {R : Nat} (hR : R ≤ 4) (hc : Climbs xs h R) (hl : latB R w = true) (hn : negI w < R) : climbO xs R w = (climbO xs R (turnM xs R (negI w) w)).map (fun p => (p.1, negI w :: p.2)) := by
  obtain ⟨hlen, hb⟩ := latB_bnd hl
  have h1 := climbN_lt hR hc hn (negI_lt (by omega)) hb
  have h2 := climbN_le hR hc.bnd hb
  have h3 := climbM_more hR hc 512002 (turnM xs R (negI w) w) (by omega)
  rw [climbO, show (512003 : Nat) = 512002 + 1 from rfl, climbM, hl, if_pos rfl, if_pos hn, h3]
  rfl
/-- The same with what was taken before. -/
theorem climbO_acc {xs h w : List Int} {R : Nat} {o : Option (List Int × List Nat)} {rows : List Nat} (hR : R ≤ 4) (hc : Climbs xs h R) (hl : latB R w = true) (hn : negI w < R) (ho : o = (climbO xs R w).map (fun p => (p.1, rows ++ p.2))) : o = (climbO xs R (turnM xs R (negI w) w)).map (fun p => (p.1, (rows ++ [negI w]) ++ p.2)) := by
  rw [ho, climbO_step hR hc hl hn, Option.map_map]
  congr 1
  funext p
  simp
/-- The dominant weight of an orbit, and the word that leads back from it. -/
def domO (R : Int) (l w : List Int) : List Int × List Int := match carG R l with
  | some _ => match climbO l R.toNat w with
    | some p => (p.1, (p.2.reverse.map fun i => ((i : Nat) : Int)))
    | none => ([], [])
  | none => ([], [])
theorem climbM_mono {xs : List Int} {R : Nat} : ∀ {f : Nat} {w : List Int} {p : List Int × List Nat}, climbM xs R f w = some p → climbM xs R (f + 1) w = some p
  | 0, _, _, h => by simp [climbM] at h
  | f + 1, w, p, h => by
    rw [climbM] at h ⊢
    rcases hl : latB R w with _ | _
    · rw [hl] at h; simp at h
    · rw [hl, if_pos rfl] at h
      rw [if_pos rfl]
      by_cases hn : negI w < R
      · rw [if_pos hn] at h ⊢
        obtain ⟨q, hq, e⟩ := Option.map_eq_some_iff.1 h
        rw [climbM_mono hq, Option.map_some, e]
      · rw [if_neg hn] at h ⊢; exact h
theorem climbM_add {xs : List Int} {R f : Nat} {w : List Int} {p : List Int × List Nat} (h : climbM xs R f w = some p) : ∀ k, climbM xs R (f + k) w = some p
  | 0 => h
  | k + 1 => climbM_mono (climbM_add h k)
theorem climbO_of {xs : List Int} {R f : Nat} {w : List Int} {p : List Int × List Nat} (hf : f ≤ 512003) (h : climbM xs R f w = some p) : climbO xs R w = some p := by
  have := climbM_add h (512003 - f)
  rw [climbO, show (512003 : Nat) = f + (512003 - f) by omega]
  exact this
/-- The run from minus ones. -/
def longB (xs : List Int) (R : Nat) : Bool := match climbM xs R 30 (List.replicate R (-1)) with
  | some p => decide (p.2.length ≤ 24) && p.1 == List.replicate R 1
  | none => false
theorem longB_1 : tab1.all (fun t => longB t.1 1) = true := by decide +kernel
theorem longB_2 : tab2.all (fun t => longB t.1 2) = true := by decide +kernel
theorem longB_3 : tab3.all (fun t => longB t.1 3) = true := by decide +kernel
theorem longB_4 : tab4.all (fun t => longB t.1 4) = true := by decide +kernel
theorem tab_longB : ∀ R, 0 < R → R < 5 → (tab R).all (fun t => longB t.1 R) = true := by
  intro R h0 h1
  match R, h0, h1 with
  | 1, _, _ => exact longB_1
  | 2, _, _ => exact longB_2
  | 3, _, _ => exact longB_3
  | 4, _, _ => exact longB_4
/-- The weight of minus ones climbs to that of ones, in at most 24 turns. -/
theorem longest_tab {R : Nat} {xs : List Int} {v : List Nat × List Int} (h0 : 0 < R) (hR : R ≤ 4) (h : tabGet R xs = some v) : ∃ rows, climbO xs R (List.replicate R (-1)) = some (List.replicate R 1, rows) ∧ rows.length ≤ 24 := by
  have h1 := List.all_eq_true.1 (tab_longB R h0 (by omega)) _ (tabGet_mem h)
  simp only [longB] at h1
  split at h1
  · rename_i p hp
    rw [Bool.and_eq_true, decide_eq_true_eq] at h1
    have h2 := climbO_of (by omega) hp
    have h3 := eq_of_beq h1.2
    exact ⟨p.2, by rw [h2, ← h3], h1.1⟩
  · cases h1
/-- What is on the way is a weight, where the run ends well. -/
theorem climbO_lat {xs w : List Int} {R : Nat} {p : List Int × List Nat} (h : climbO xs R w = some p) : latB R w = true := by
  rcases hl : latB R w with _ | _
  · rw [climbO_no hl] at h; cases h
  · rfl
/-- The longest word. -/
def lwO (R : Int) (l : List Int) : List Int := match carG R l with
  | some _ => match climbO l R.toNat (List.replicate R.toNat (-1)) with
    | some p => p.2.map fun i => ((i : Nat) : Int)
    | none => []
  | none => []
end Go.Proofs.YtlnpaplbcocmkaaGreat
