/-
  Lists turned round, in both texts.
-/
import Derived.Test.YtlnpaplbcocmkaaGreatRd5
namespace Go.Proofs.YtlnpaplbcocmkaaGreat
open Go.ChangeShapes Go.WideShapes Go.ChangeAt Go.RowKit
set_option linter.unusedVariables false
set_option linter.unusedSimpArgs false

theorem Grows.addr5 {w : World} {base n : Nat} {v : Value} {xs : List Int} (h : Grows w base v n xs) (h0 : 0 < n) : ∃ g c, v = .slice (some ⟨g, 0, none⟩) n c ∧ base ≤ g := by
  rcases h.2 with ⟨e1, e2⟩ | ⟨g, cap, cur, e1, hb, hg, _⟩
  · omega
  · exact ⟨g, cap, e1, hb⟩
/-- A list of which k numbers at each end have changed places. -/
def rvP (l : List Int) (k : Nat) : List Int := (List.range l.length).map fun e => if e < k ∨ l.length ≤ e + k then gi l (l.length - 1 - e) else gi l e
theorem grownBy_drw {w w' : World} {row : Option Nat} (h : w.grownBy w' row) : w.grownBy w'.drew row := ⟨h.os, h.tape, h.output, h.size, h.block⟩
theorem rvP_len (l : List Int) (k : Nat) : (rvP l k).length = l.length := by simp [rvP]
theorem rvP_zero (l : List Int) : rvP l 0 = l := by
  apply List.ext_getElem
  · simp [rvP]
  · intro e h1 h2
    simp only [rvP, List.getElem_map, List.getElem_range]
    rw [if_neg (by omega)]
    simp [gi, h2]
theorem gi_rvP {l : List Int} {k e : Nat} (h : e < l.length) : gi (rvP l k) e = if e < k ∨ l.length ≤ e + k then gi l (l.length - 1 - e) else gi l e := by
  have h1 : e < (rvP l k).length := by rw [rvP_len]; exact h
  rw [show gi (rvP l k) e = (rvP l k)[e] by simp [gi, h1]]
  simp [rvP]
theorem rvP_done {l : List Int} {k : Nat} (h : l.length ≤ 2 * k + 1) : rvP l k = l.reverse := by
  apply List.ext_getElem
  · simp [rvP]
  · intro e h1 h2
    have he : e < l.length := by rw [rvP_len] at h1; exact h1
    have h3 : (rvP l k)[e] = gi (rvP l k) e := by simp [gi, h1]
    rw [h3, gi_rvP he, List.getElem_reverse]
    have h4 : gi l (l.length - 1 - e) = l[l.length - 1 - e] := by simp [gi, show l.length - 1 - e < l.length by omega]
    by_cases c : e < k ∨ l.length ≤ e + k
    · rw [if_pos c, h4]
    · rw [if_neg c, ← h4]
      congr 1; omega
theorem rvP_step {l : List Int} {k j : Nat} (hj : j + k + 1 = l.length) (h : k < j) : ((rvP l k).set k (gi l j)).set j (gi l k) = rvP l (k + 1) := by
  apply List.ext_getElem
  · simp [rvP]
  · intro e h1 h2
    have he : e < l.length := by simpa [rvP] using h2
    have h4 : (rvP l (k + 1))[e] = gi (rvP l (k + 1)) e := by simp [gi, h2]
    rw [h4, gi_rvP he, List.getElem_set]
    by_cases e1 : j = e
    · subst e1
      rw [if_pos rfl, if_pos (by omega)]; congr 1; omega
    · rw [if_neg e1, List.getElem_set]
      by_cases e2 : k = e
      · subst e2
        rw [if_pos rfl, if_pos (by omega)]; congr 1; omega
      · rw [if_neg e2]
        have h5 : e < (rvP l k).length := by rw [rvP_len]; exact he
        have h3 : (rvP l k)[e] = gi (rvP l k) e := by simp [gi, h5]
        rw [h3, gi_rvP he]
        by_cases c : e < k ∨ l.length ≤ e + k
        · rw [if_pos c, if_pos (by omega)]
        · rw [if_neg c, if_neg (by omega)]

theorem drop_rev {l : List Int} {j : Nat} (h : j < l.length) : (l.drop j).reverse = (l.drop (j + 1)).reverse ++ [gi l j] := by
  rw [List.drop_eq_getElem_cons h, List.reverse_cons, show gi l j = l[j] by simp [gi, h]]
end Go.Proofs.YtlnpaplbcocmkaaGreat
