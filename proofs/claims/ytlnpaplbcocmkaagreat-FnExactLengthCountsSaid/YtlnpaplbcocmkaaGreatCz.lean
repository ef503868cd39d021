/-
  Counts in a list: how many of the first k numbers are m; cells of an appended slice.
-/
import Derived.Test.YtlnpaplbcocmkaaGreatRd5
namespace Go.Proofs.YtlnpaplbcocmkaaGreat
open Go.ChangeShapes Go.WideShapes Go.ChangeAt Go.RowKit
set_option linter.unusedVariables false
set_option linter.unusedSimpArgs false

/-- How many of the first k heights are m. -/
def cZ (h : Nat → Nat) : Nat → Nat → Nat
  | 0, _ => 0
  | k + 1, m => cZ h k m + (if h k = m then 1 else 0)
def cL (h : Nat → Nat) (k M : Nat) : List Int := (List.range M).map fun m => ((cZ h k m : Nat) : Int)
theorem cZ_le (h : Nat → Nat) (m : Nat) : ∀ k, cZ h k m ≤ k
  | 0 => Nat.le_refl _
  | k + 1 => by have := cZ_le h m k; rw [cZ]; split <;> omega
theorem cZ_zero {h : Nat → Nat} {m : Nat} : ∀ {k : Nat}, (∀ i, i < k → h i ≠ m) → cZ h k m = 0
  | 0, _ => rfl
  | k + 1, H => by rw [cZ, cZ_zero (fun i hi => H i (by omega)), if_neg (H k (by omega))]
theorem cL_len (h : Nat → Nat) (k M : Nat) : (cL h k M).length = M := by simp [cL]
theorem gi_cL {h : Nat → Nat} {k M m : Nat} (hm : m < M) : gi (cL h k M) m = (cZ h k m : Nat) := by simp [cL, gi, hm]
theorem cL_step {h : Nat → Nat} {k M m : Nat} (hm : m < M) (hh : h k = m) : (cL h k M).set m (((cZ h k m : Nat) : Int) + 1) = cL h (k + 1) M := by
  apply List.ext_getElem
  · simp [cL]
  · intro e h1 h2
    have he : e < M := by simpa [cL] using h2
    rw [List.getElem_set]
    by_cases e1 : m = e
    · subst e1
      simp [cL, cZ, hh]
    · simp [cL, cZ, hh, e1]
theorem cL_grow {h : Nat → Nat} {k M : Nat} (hz : cZ h k M = 0) : cL h k M ++ [0] = cL h k (M + 1) := by
  simp [cL, List.range_succ, hz]
theorem cL_zero (h : Nat → Nat) (M : Nat) : cL h 0 M = List.replicate M 0 := by
  apply List.ext_getElem
  · simp [cL]
  · intro e h1 h2
    simp [cL, cZ]
def slLen : Value → Nat
  | .slice _ n _ => n
  | _ => 0
theorem Grows.toHas {w : World} {base n c g : Nat} {xs : List Int} (h : Grows w base (.slice (some ⟨g, 0, none⟩) n c) n xs) (h0 : 0 < n) (j : Nat) (hj : j < n) : w.cell? ⟨g, j, none⟩ = some (.int .i64 (gi xs j)) := by
  have h2 := World.ownsRow.cellAt h j (by omega)
  have hl := h.len
  rw [h2, List.getElem?_map]
  simp [gi, hl, hj]
theorem Grows.store {w : World} {base n c g : Nat} {xs : List Int} (h : Grows w base (.slice (some ⟨g, 0, none⟩) n c) n xs) (j : Nat) (u : Int) : Grows (w.setCell ⟨g, j, none⟩ (.int .i64 u)) base (.slice (some ⟨g, 0, none⟩) n c) n (xs.set j u) := by
  have := (World.ownsRow.stored h j (.int .i64 u)).1
  rw [← List.map_set] at this
  exact this
theorem Grows.addr {w : World} {base n : Nat} {v : Value} {xs : List Int} (h : Grows w base v n xs) (h0 : 0 < n) : ∃ g c, v = .slice (some ⟨g, 0, none⟩) n c ∧ base ≤ g ∧ g < w.heap.size := by
  rcases h.2 with ⟨e1, e2⟩ | ⟨g, cap, cur, e1, hb, hg, _⟩
  · omega
  · exact ⟨g, cap, e1, hb, (Array.getElem?_eq_some_iff.1 hg).1⟩
end Go.Proofs.YtlnpaplbcocmkaaGreat
